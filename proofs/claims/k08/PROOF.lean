import PyProof.Rows.All
import Wide.All
import OpenK.AllK
import Wide.FinOn
import PySem.Challenge.RW_retrykeys_k08_promises_by_hand
import PySem.Str
import HandS.Lambda
import HandS.Nested
import HandS.ExcOwn
import HandS.TryOnly
import HandS.ForMost
import HandS.Exc
import HandS.IsInst
import HandS.TupAny
import HandS.Small
import HandS.Deep
import PyProof.InstNe
import KE.KFmtOwn
import HandS.Head0
import HandS.Head1
import HandS.Head2
import HandS.HeadHook1
import HandS.HeadHook2
import HandS.HeadHook3
import HandS.HeadHook4
import HandS.HeadWalk
import HandS.NestedK
import PyProof.ExcBaseAll.ValueError
import KE.KStateDown
section
/-! Pv: a small evaluator of the Python that the program and its laws are written in, over values as trees. -/
namespace Pv
open PySem

inductive W where
  | non | bl (b : Bool) | int (i : Int) | str (x : Str)
  | tup (ws : List W) | lst (ws : List W) | dic (ks vs : List W) | set (ws : List W)
  | obj (n : Nat) | fn (n : Nat) (cs : List W)
  deriving Inhabited, Repr

inductive Bo where | add | sub | mul | mod | fdiv | pow | rep
  deriving DecidableEq, Repr
inductive Co where | eq | ne | lt | le | gt | ge | isN | notN | mem | nmem
  deriving DecidableEq, Repr
inductive Bf where
  | len | all | any | list | tuple | int | range | zip | enum | set | dict | sorted | comb | max | min | abs | sum
  deriving DecidableEq, Repr
inductive Bm where | items | index | count
  deriving DecidableEq, Repr
inductive Kd where | int | bool | str | tuple | list | cls (c : Nat)
  deriving DecidableEq, Repr

mutual
inductive Ex where
  | v (i : Nat) | o (i : Nat) | mv (i : Nat)
  | k (w : W) | g (id : Nat)
  | tup (es : List Ex) | lst (es : List Ex) | dct (ks vs : List Ex)
  | bin (op : Bo) (a b : Ex) | neg (a : Ex)
  | cmp (op : Co) (a b : Ex) | cmp2 (op1 op2 : Co) (a b c : Ex)
  | and (es : List Ex) | or (es : List Ex) | not (a : Ex) | ite (c a b : Ex)
  | call (f : Nat) (es : List Ex) | make (c : Nat) (es : List Ex) | meth (o : Ex) (m : Nat) (es : List Ex)
  | cv (i : Nat) (es : List Ex)
  | bf (b : Bf) (es : List Ex) | bm (m : Bm) (o : Ex) (es : List Ex) | sortk (f : Nat) (e : Ex)
  | att (o : Ex) (f : Nat) | ix (a i : Ex) | sl (a : Ex) (lo hi : Option Ex)
  | isi (a : Ex) (ks : List Kd)
  | comp (e : Ex) (gs : List Gn) | dcomp (ke e : Ex) (g : Gn) | scomp (e : Ex) (gs : List Gn)
  | lam (f : Nat) (caps : List Nat)
inductive Gn where
  | mk (t : Tg) (it : Ex) (ifs : List Ex)
inductive Tg where
  | nm (i : Nat) | own (i : Nat) | tu (ts : List Tg) | sub (i : Nat) (e : Ex) | att (o : Ex) (f : Nat) | subf (o : Ex) (f : Nat) (e : Ex)
end

inductive Sm where
  | asg (t : Tg) (e : Ex)
  | par (ts : List Tg) (es : List Ex)
  | aug (i : Nat) (op : Bo) (e : Ex)
  | ret (e : Ex) | retN | ex (e : Ex)
  | app (i : Nat) (e : Ex) | ext (i : Nat) (e : Ex) | rev (i : Nat)
  | ife (c : Ex) (a b : List Sm)
  | for (t : Tg) (it : Ex) (body : List Sm)
  | while (c : Ex) (body : List Sm)
  | raise (c : Nat) (es : List Ex)
  | try (body : List Sm) (c : Nat) (n : Option Nat) (h : List Sm)
  | pass | brk | cont

structure FDef where
  np : Nat
  /-- parameters that the def only reads and hands to none that keeps them -/
  bor : List Nat
  /-- slots whose list or dict is the def's alone -/
  own : List Nat
  /-- what it returns, if a list or a dict, is new -/
  fr : Bool
  ns : Nat
  body : List Sm
structure CDef where
  init : Option Nat
  meths : List (Nat × Nat)
  pay : Option Nat := none
  isExc : Bool := false
  fields : List Nat := []
  sup : List Nat := []

inductive BT (α : Type) where
  | lf | nd (l : BT α) (k : Nat) (a : α) (r : BT α)
def BT.find {α : Type} : BT α → Nat → Option α
  | .lf, _ => none
  | .nd l k a r, i => bif Nat.beq i k then some a else bif Nat.blt i k then l.find i else r.find i

/-- a lambda: its parameters, slots, body -/
structure LDef where
  np : Nat
  ns : Nat
  body : Ex
structure Gb where
  fn : BT FDef
  cls : BT CDef
  con : BT W
  lam : BT LDef

structure Obj where
  cls : Nat
  fs : List (Nat × W)
  deriving Inhabited, Repr
abbrev Sto := List Obj
abbrev Fr := List (Option W)

inductive Fl where | nx | rt (w : W) | bk | ct
  deriving Repr
inductive R (α : Type) where
  | ok (a : α) (st : Sto) | exc (c : Nat) (pl : List (Nat × W)) (st : Sto) | err
  deriving Repr
@[inline] def R.bind {α β : Type} (r : R α) (f : α → Sto → R β) : R β := match r with
  | .ok a st => f a st
  | .exc c pl st => .exc c pl st
  | .err => .err

/-- a block's end: an exception tells the names' values too -/
inductive RS where
  | ok (f : Fl) (σ : Fr) (st : Sto) | exc (c : Nat) (pl : List (Nat × W)) (σ : Fr) (st : Sto) | err
  deriving Repr
def R.toS {α : Type} (r : R α) (σ : Fr) (f : α → Sto → RS) : RS := match r with
  | .ok a st => f a st
  | .exc c pl st => .exc c pl σ st
  | .err => .err
def RS.bind (r : RS) (f : Fr → Sto → RS) : RS := match r with
  | .ok .nx σ st => f σ st
  | r => r

/-! ### values -/
def strEq (x y : Str) : Bool := x.cps.toList == y.cps.toList
def b2i (b : Bool) : Int := bif b then 1 else 0
mutual
/-- Python's == of data -/
def weq : W → W → Bool
  | .non, .non => true
  | .bl a, .bl b => a == b
  | .int a, .int b => a == b
  | .bl a, .int b => b2i a == b
  | .int a, .bl b => a == b2i b
  | .str a, .str b => strEq a b
  | .tup a, .tup b => weqs a b
  | .lst a, .lst b => weqs a b
  | _, _ => false
def weqs : List W → List W → Bool
  | [], [] => true
  | a :: as, b :: bs => weq a b && weqs as bs
  | _, _ => false
end
def strFine (x : Str) : Bool := x.cps.toList.all fun c => Nat.blt c 1114112
mutual
/-- data: what == and in look at, no deeper than n -/
def isDat : Nat → W → Bool
  | _, .non | _, .bl _ | _, .int _ => true
  | _, .str x => strFine x
  | n + 1, .tup ws | n + 1, .lst ws => isDats n ws
  | _, _ => false
def isDats : Nat → List W → Bool
  | _, [] => true
  | n, w :: ws => isDat n w && isDats n ws
end
def strLt (x y : Str) : Bool := decide (x.cps.toList < y.cps.toList)
mutual
/-- < of ints, texts, tuples of such; none where it is not asked -/
def wlt : W → W → Option Bool
  | .int a, .int b => some (decide (a < b))
  | .str a, .str b => some (strLt a b)
  | .tup a, .tup b => wlts a b
  | _, _ => none
def wlts : List W → List W → Option Bool
  | [], [] => some false
  | [], _ :: _ => some true
  | _ :: _, [] => some false
  | a :: as, b :: bs => bif weq a b then wlts as bs else wlt a b
end
def isKy : W → Bool
  | .int _ | .str _ => true
  | _ => false
def truthy : W → Option Bool
  | .non => some false
  | .bl b => some b
  | .int i => some (i != 0)
  | .str x => bif Nat.ble x.cps.size 16777216 then some (x.cps.size != 0) else none
  | .tup ws => some !ws.isEmpty
  | .lst ws => some !ws.isEmpty
  | .dic ks _ => some !ks.isEmpty
  | _ => none
/-- stable insertion -/
def ins (x : W) (k : W) : List (W × W) → Option (List (W × W))
  | [] => some [(k, x)]
  | (k', y) :: r => match wlt k k' with
    | none => none
    | some true => some ((k, x) :: (k', y) :: r)
    | some false => (ins x k r).map ((k', y) :: ·)
def isort : List (W × W) → Option (List (W × W))
  | [] => some []
  | l => l.foldl (fun acc p => acc.bind (ins p.2 p.1)) (some [])
def wsort (ws : List W) : Option (List W) := (isort (ws.map fun w => (w, w))).map (·.map (·.2))
def mem (w : W) : List W → Bool
  | [] => false
  | x :: r => weq x w || mem w r
def look (k : W) : List W → List W → Option W
  | x :: r, v :: s => bif weq x k then some v else look k r s
  | _, _ => none
def repl (k v : W) : List W → List W → List W
  | x :: r, y :: s => (bif weq x k then v else y) :: repl k v r s
  | _, s => s
def put (k v : W) (ks vs : List W) : List W × List W := bif mem k ks then (ks, repl k v ks vs) else (ks ++ [k], vs ++ [v])
def dedup : List W → List W → List W
  | acc, [] => acc.reverse
  | acc, x :: r => bif mem x acc then dedup acc r else dedup (x :: acc) r
def combos : List W → Nat → List (List W)
  | _, 0 => [[]]
  | [], _ + 1 => []
  | x :: r, k + 1 => (combos r k).map (x :: ·) ++ combos r (k + 1)
def ixOf (n : Nat) (i : Int) : Option Nat := bif decide (0 ≤ i) then (bif decide (i < n) then some i.toNat else none) else (bif decide (-(n : Int) ≤ i) then some (n + i).toNat else none)
def clip (n : Nat) (i : Int) : Nat := bif decide (i < 0) then (n + i).toNat else min i.toNat n
def sAt (n d : Nat) : Option Int → Nat
  | none => d
  | some i => clip n i
def slice {α : Type} (xs : List α) (lo hi : Option Int) : List α := (xs.drop (sAt xs.length 0 lo)).take (sAt xs.length xs.length hi - sAt xs.length 0 lo)
def rng (lo : Int) : Nat → List W
  | 0 => []
  | n + 1 => .int lo :: rng (lo + 1) n
def enumW (i : Int) : List W → List W
  | [] => []
  | w :: r => .tup [.int i, w] :: enumW (i + 1) r
def zipW : List W → List W → List W
  | a :: r, b :: s => .tup [a, b] :: zipW r s
  | _, _ => []
def allT : List W → Option Bool
  | [] => some true
  | w :: r => match w with | .bl b => (allT r).map (b && ·) | _ => none
def anyT : List W → Option Bool
  | [] => some false
  | w :: r => match w with | .bl b => (anyT r).map (b || ·) | _ => none
def binop : Bo → W → W → Option W
  | .add, .int a, .int b => some (.int (a + b))
  | .sub, .int a, .int b => some (.int (a - b))
  | .mul, .int a, .int b => bif (decide (-(2 ^ 64) < a) && decide (a < 2 ^ 64)) || (decide (-(2 ^ 64) < b) && decide (b < 2 ^ 64)) then some (.int (a * b)) else none
  | .mod, .int a, .int b => bif decide (0 < b) then some (.int (a % b)) else none
  | .fdiv, .int a, .int b => bif decide (0 < b) && decide (b < 1073741824) then some (.int (a / b)) else none
  | .pow, .int a, .int b => bif decide (0 ≤ b) && decide (b ≤ 1000) && decide (-(2 ^ 64) < a) && decide (a < 2 ^ 64) then some (.int (a ^ b.toNat)) else none
  | .add, .tup a, .tup b => bif Nat.ble (a.length + b.length) 16777216 then some (.tup (a ++ b)) else none
  | .add, .lst a, .lst b => bif Nat.ble (a.length + b.length) 16777216 then some (.lst (a ++ b)) else none
  | .rep, .lst a, .int b => bif decide (0 ≤ b) && decide (b < 100000) && Nat.ble (a.length * b.toNat) 16777216 then some (.lst (List.replicate b.toNat a).flatten) else none
  | _, _, _ => none
def isNon : W → Bool
  | .non => true
  | _ => false
def cmpop : Co → W → W → Option Bool
  | .eq, a, b => bif isDat 50 a && isDat 50 b then some (weq a b) else none
  | .ne, a, b => bif isDat 50 a && isDat 50 b then some (!weq a b) else none
  | .lt, .int a, .int b => some (decide (a < b))
  | .le, .int a, .int b => some (decide (a ≤ b))
  | .gt, .int a, .int b => some (decide (b < a))
  | .ge, .int a, .int b => some (decide (b ≤ a))
  | .lt, .str a, .str b => some (strLt a b)
  | .le, .str a, .str b => some !(strLt b a)
  | .isN, a, .non => some (isNon a)
  | .notN, a, .non => some !(isNon a)
  | .mem, a, .tup ws => bif isDat 50 a && isDats 50 ws then some (mem a ws) else none
  | .mem, a, .lst ws => bif isDat 50 a && isDats 50 ws then some (mem a ws) else none
  | .nmem, a, .tup ws => bif isDat 50 a && isDats 50 ws then some !(mem a ws) else none
  | .nmem, a, .lst ws => bif isDat 50 a && isDats 50 ws then some !(mem a ws) else none
  | .mem, a, .dic ks _ => bif isKy a then some (mem a ks) else none
  | .nmem, a, .dic ks _ => bif isKy a then some !(mem a ks) else none
  | _, _, _ => none
/-- isinstance: a value of a built-in class -/
def isKd : W → Kd → Option Bool
  | .obj _, _ => none
  | .fn _ _, _ => none
  | .set _, _ => none
  | _, .cls _ => none
  | .int _, .int => some true
  | .bl _, .int => some true
  | .bl _, .bool => some true
  | .str _, .str => some true
  | .tup _, .tuple => some true
  | .lst _, .list => some true
  | _, _ => some false
def isObj (st : Sto) (c : Nat) : W → Option Bool
  | .obj n => match st[n]? with | some o => some (Nat.beq o.cls c) | none => none
  | .fn _ _ => none
  | .set _ => none
  | _ => some false
def isAny (st : Sto) (w : W) : List Kd → Option Bool
  | [] => some false
  | k :: ks => match (match k with | .cls c => isObj st c w | k => isKd w k) with
    | some true => some true
    | some false => isAny st w ks
    | none => none
def ssize : W → Option Int
  | .str x => bif Nat.ble x.cps.size 16777216 then some x.cps.size else none
  | .tup ws => some ws.length
  | .lst ws => some ws.length
  | .set ws => some ws.length
  | _ => none
def seqOf : W → Option (List W)
  | .tup ws => some ws
  | .lst ws => some ws
  | _ => none
def items : W → Option (List W)
  | .tup ws | .lst ws => some ws
  | .dic ks _ => some ks
  | .str x => some (x.cps.toList.map fun c => .str ⟨#[c]⟩)
  | _ => none
def itemsI : W → Option (List W)
  | .tup ws => some ws
  | .lst ws => some ws
  | .str x => some (x.cps.toList.map fun c => .str ⟨#[c]⟩)
  | _ => none
mutual
def tgS : Tg → List Nat
  | .nm i => [i]
  | .own i => [i]
  | .tu ts => tgSs ts
  | _ => []
def tgSs : List Tg → List Nat
  | [] => []
  | t :: ts => tgS t ++ tgSs ts
end
def gnS : List Gn → List Nat
  | [] => []
  | .mk t _ _ :: gs => tgS t ++ gnS gs
def wipeF (σ : Fr) : List Nat → Fr
  | [] => σ
  | v :: vs => (wipeF σ vs).set v none
def fget (f : Nat) : List (Nat × W) → Option W
  | [] => none
  | (g, w) :: r => bif Nat.beq g f then some w else fget f r
def fput (f : Nat) (w : W) : List (Nat × W) → List (Nat × W)
  | [] => [(f, w)]
  | (g, x) :: r => bif Nat.beq g f then (f, w) :: r else (g, x) :: fput f w r
def o2r {α : Type} (o : Option α) (st : Sto) : R α := match o with | some a => .ok a st | none => .err
def getv (σ : Fr) (i : Nat) (st : Sto) : R W := match σ[i]? with | some (some w) => .ok w st | _ => .err


def bfun : Bf → List W → Option W
  | .len, [w] => (ssize w).map .int
  | .all, [.lst ws] => (allT ws).map .bl
  | .any, [.lst ws] => (anyT ws).map .bl
  | .int, [.int i] => some (.int i)
  | .int, [.bl b] => some (.int (b2i b))
  | .max, [.int a, .int b] => some (.int (bif decide (b > a) then b else a))
  | .min, [.int a, .int b] => some (.int (bif decide (b < a) then b else a))
  | .abs, [.int a] => some (.int a.natAbs)
  | .set, [w] => (items w).bind fun ws => bif isDats 7 ws then some (.set (dedup [] ws)) else none
  | .dict, [w] => (items w).bind fun ws => (ws.foldl (fun acc p => acc.bind fun (ks, vs) => match p with | .tup [k, v] => bif isKy k then some (put k v ks vs) else none | _ => none) (some ([], []))).map fun (ks, vs) => .dic ks vs
  | _, _ => none

def ixop : W → W → Option W
  | .tup ws, .int i => (ixOf ws.length i).bind fun j => ws[j]?
  | .lst ws, .int i => (ixOf ws.length i).bind fun j => ws[j]?
  | .dic ks vs, k => bif isKy k then look k ks vs else none
  | _, _ => none
def putop : W → W → W → Option W
  | .lst ws, .int i, w => (ixOf ws.length i).map fun j => .lst (ws.set j w)
  | .dic ks vs, k, w => bif isKy k && Nat.blt ks.length 16777216 then (let p := put k w ks vs; some (.dic p.1 p.2)) else none
  | _, _, _ => none
def small (n : Nat) : Bool := Nat.ble n 16777216
def R.noexc {α : Type} : R α → R α
  | .exc _ _ _ => .err
  | r => r

/-! ### the evaluator -/
variable (G : Gb)
/-- an error of class e is one of class c; none: no class of the text -/
def catches (c e : Nat) : Option Bool := match G.cls.find e with
  | some cd => bif cd.isExc then some (Nat.beq c e || cd.sup.contains c) else none
  | none => none
mutual
def evE : Nat → Nat → Fr → Sto → Ex → R W
  | 0, _, _, _, _ => .err
  | n + 1, d, σ, st, e => match e with
    | .v i => getv σ i st
    | .o i => getv σ i st
    | .mv i => getv σ i st
    | .k w => .ok w st
    | .g id => o2r (G.con.find id) st
    | .tup es => (evEs n d σ st es).bind fun ws st => .ok (.tup ws) st
    | .lst es => (evEs n d σ st es).bind fun ws st => .ok (.lst ws) st
    | .dct ks vs => (evEs n d σ st ks).bind fun ks st => (evEs n d σ st vs).bind fun vs st => .ok (.dic ks vs) st
    | .bin op a b => (evE n d σ st a).bind fun x st => (evE n d σ st b).bind fun y st => o2r (binop op x y) st
    | .neg a => (evE n d σ st a).bind fun x st => match x with | .int i => .ok (.int (-i)) st | _ => .err
    | .cmp op a b => (evE n d σ st a).bind fun x st => (evE n d σ st b).bind fun y st => evC n d op x y st
    | .cmp2 op1 op2 a b c => (evE n d σ st a).bind fun x st => (evE n d σ st b).bind fun y st => match cmpop op1 x y with
      | some true => (evE n d σ st c).bind fun z st => o2r ((cmpop op2 y z).map .bl) st
      | some false => .ok (.bl false) st
      | none => .err
    | .and es => evAnd n d σ st es
    | .or es => evOr n d σ st es
    | .not a => (evE n d σ st a).bind fun w st => match w with | .bl b => .ok (.bl !b) st | _ => .err
    | .ite c a b => (evT n d σ st c).bind fun t st => match t with | true => evE n d σ st a | false => evE n d σ st b
    | .call f es => (evEs n d σ st es).bind fun ws st => evF n d f ws st
    | .make c es => bif Nat.beq d 0 then .err else (evEs n d σ st es).bind fun ws st => evM n d c ws st
    | .meth o m es => (evE n d σ st o).bind fun x st => match x with
      | .obj p => match st[p]? with
        | some ob => match G.cls.find ob.cls with
          | some cd => match cd.meths.lookup m with
            | some f => (evEs n d σ st es).bind fun ws st => evF n d f (x :: ws) st
            | none => .err
          | none => .err
        | none => .err
      | _ => .err
    | .cv i es => (getv σ i st).bind fun x st => match x with
      | .fn f [] => (evEs n d σ st es).bind fun ws st => evL n d f ws st
      | _ => .err
    | .bf b es => match b, es with
      | .list, [a] => (evE n d σ st a).bind fun w st => o2r ((seqOf w).map .lst) st
      | .tuple, [a] => (evE n d σ st a).bind fun w st => o2r ((seqOf w).map .tup) st
      | .sorted, [a] => (evE n d σ st a).bind fun w st => o2r ((match w with | .set ws => wsort ws | w => (itemsI w).bind wsort).map .lst) st
      | b, es => (evEs n d σ st es).bind fun ws st => o2r (bfun b ws) st
    | .sortk f a => (evI n d σ st a).bind fun ws st => (evKs n d f ws st).bind fun ks st => o2r ((isort (ks.zip ws)).map fun l => .lst (l.map (·.2))) st
    | .bm m a bs => match m, bs with
      | .index, [b] => (evE n d σ st a).bind fun x st => (evE n d σ st b).bind fun y st => match items x with
        | some ws => bif isDat 50 y && isDats 50 ws && mem y ws then .ok (.int (ws.findIdx (weq · y))) st else .err
        | none => .err
      | .count, [b] => (evE n d σ st a).bind fun x st => (evE n d σ st b).bind fun y st => match items x with
        | some ws => bif isDat 50 y && isDats 50 ws then .ok (.int (ws.filter (weq · y)).length) st else .err
        | none => .err
      | _, _ => .err
    | .att o f => (evE n d σ st o).bind fun x st => match x with
      | .obj p => match st[p]? with
        | some ob => o2r (fget f ob.fs) st
        | none => .err
      | _ => .err
    | .ix a i => (evE n d σ st a).bind fun x st => (evE n d σ st i).bind fun y st => o2r (ixop x y) st
    | .sl a lo hi => (evE n d σ st a).bind fun x st => (evO n d σ st lo).bind fun l st => (evO n d σ st hi).bind fun h st => match x with
      | .tup ws => .ok (.tup (slice ws l h)) st
      | .lst ws => .ok (.lst (slice ws l h)) st
      | _ => .err
    | .isi a ks => (evE n d σ st a).bind fun x st => o2r ((isAny st x ks).map .bl) st
    | .comp e gs => ((evGs n d σ st gs e).bind fun ws st => bif small ws.length then .ok (.lst ws) st else .err).noexc
    | .scomp e gs => ((evGs n d σ st gs e).bind fun ws st => bif isDats 7 ws && small ws.length then .ok (.set (dedup [] ws)) st else .err).noexc
    | .dcomp ke e g => ((evGs n d σ st [g] (.tup [ke, e])).bind fun ws st => bif small ws.length then o2r (bfun .dict [.lst ws]) st else .err).noexc
    | .lam f caps => match caps with | [] => .ok (.fn f []) st | _ => .err
def evEs : Nat → Nat → Fr → Sto → List Ex → R (List W)
  | 0, _, _, _, _ => .err
  | _ + 1, _, _, st, [] => .ok [] st
  | n + 1, d, σ, st, e :: es => (evE n d σ st e).bind fun w st => (evEs n d σ st es).bind fun ws st => .ok (w :: ws) st
def evO : Nat → Nat → Fr → Sto → Option Ex → R (Option Int)
  | 0, _, _, _, _ => .err
  | _ + 1, _, _, st, none => .ok none st
  | n + 1, d, σ, st, some e => (evE n d σ st e).bind fun w st => match w with | .int i => .ok (some i) st | _ => .err
def evC : Nat → Nat → Co → W → W → Sto → R W
  | 0, _, _, _, _, _ => .err
  | n + 1, d, op, x, y, st => match x, op with
    | .obj p, .eq => ((evEq n d p x y st).bind fun b st => .ok (.bl b) st).noexc
    | .obj p, .ne => (match d with
      | 0 => .err
      | d + 1 => ((evEq n d p x y st).bind fun b st => .ok (.bl !b) st).noexc)
    | _, _ => o2r ((cmpop op x y).map .bl) st
def evEq : Nat → Nat → Nat → W → W → Sto → R Bool
  | 0, _, _, _, _, _ => .err
  | n + 1, d, p, x, y, st => match y with
    | .obj q => match st[p]?, st[q]? with
      | some ob, some _ => match G.cls.find ob.cls with
        | some cd => match cd.meths.lookup 0 with
          | some f => (evF n d f [x, y] st).bind fun w st => match w with | .bl b => .ok b st | _ => .err
          | none => .err
        | none => .err
      | _, _ => .err
    | _ => .err
def evM : Nat → Nat → Nat → List W → Sto → R W
  | 0, _, _, _, _ => .err
  | _, 0, _, _, _ => .err
  | n + 1, d + 1, c, ws, st => match G.cls.find c with
      | some cd => match cd.init with
        | some f => (evF n d f (.obj st.length :: ws) (st ++ [⟨c, []⟩])).bind fun w st' => bif isNon w then .ok (.obj st.length) st' else .err
        | none => .err
      | none => .err
def evAnd : Nat → Nat → Fr → Sto → List Ex → R W
  | 0, _, _, _, _ => .err
  | _ + 1, _, _, _, [] => .err
  | n + 1, d, σ, st, e :: es => match es with
    | [] => evE n d σ st e
    | _ => (evE n d σ st e).bind fun w st => match w with | .bl true => evAnd n d σ st es | .bl false => .ok (.bl false) st | _ => .err
def evOr : Nat → Nat → Fr → Sto → List Ex → R W
  | 0, _, _, _, _ => .err
  | _ + 1, _, _, _, [] => .err
  | n + 1, d, σ, st, e :: es => match es with
    | [] => evE n d σ st e
    | _ => (evE n d σ st e).bind fun w st => match w with | .bl false => evOr n d σ st es | .bl true => .ok (.bl true) st | _ => .err
def evT : Nat → Nat → Fr → Sto → Ex → R Bool
  | 0, _, _, _, _ => .err
  | n + 1, d, σ, st, e => match e with
    | .not a => (evT n d σ st a).bind fun b st => .ok (!b) st
    | .and es => evTA n d σ st es
    | .or es => evTO n d σ st es
    | e => (evE n d σ st e).bind fun w st => o2r (truthy w) st
def evTA : Nat → Nat → Fr → Sto → List Ex → R Bool
  | 0, _, _, _, _ => .err
  | _ + 1, _, _, st, [] => .ok true st
  | n + 1, d, σ, st, e :: es => (evT n d σ st e).bind fun b st => match b with | true => evTA n d σ st es | false => .ok false st
def evTO : Nat → Nat → Fr → Sto → List Ex → R Bool
  | 0, _, _, _, _ => .err
  | _ + 1, _, _, st, [] => .ok false st
  | n + 1, d, σ, st, e :: es => (evT n d σ st e).bind fun b st => match b with | false => evTO n d σ st es | true => .ok true st
def evI : Nat → Nat → Fr → Sto → Ex → R (List W)
  | 0, _, _, _, _ => .err
  | n + 1, d, σ, st, e => match e with
    | .bf .range [a] => (evE n d σ st a).bind fun x st => match x with | .int i => bif decide (-(2 ^ 62) ≤ i) && decide (i < 2 ^ 62) then .ok (rng 0 i.toNat) st else .err | _ => .err
    | .bf .range [a, b] => (evE n d σ st a).bind fun x st => (evE n d σ st b).bind fun y st => match x, y with
      | .int i, .int j => bif decide (-(2 ^ 62) ≤ i) && decide (i < 2 ^ 62) && decide (-(2 ^ 62) ≤ j) && decide (j < 2 ^ 62) then .ok (rng i (j - i).toNat) st else .err
      | _, _ => .err
    | .bf .zip [a, b] => (evI n d σ st a).bind fun xs st => (evI n d σ st b).bind fun ys st => .ok (zipW xs ys) st
    | .bf .enum [a] => (evI n d σ st a).bind fun xs st => .ok (enumW 0 xs) st
    | .bf .comb [a, b] => (evI n d σ st a).bind fun xs st => (evE n d σ st b).bind fun y st => match y with | .int i => .ok ((combos xs i.toNat).map .tup) st | _ => .err
    | .bm .items a [] => (evE n d σ st a).bind fun x st => match x with | .dic ks vs => .ok (zipW ks vs) st | _ => .err
    | e => (evE n d σ st e).bind fun w st => o2r (itemsI w) st
def evKs : Nat → Nat → Nat → List W → Sto → R (List W)
  | 0, _, _, _, _ => .err
  | _ + 1, _, _, [], st => .ok [] st
  | n + 1, d, f, w :: ws, st => (evF n d f [w] st).bind fun k st => (evKs n d f ws st).bind fun ks st => .ok (k :: ks) st
/-- a comprehension: its own names are new -/
def evGs : Nat → Nat → Fr → Sto → List Gn → Ex → R (List W)
  | 0, _, _, _, _, _ => .err
  | n + 1, d, σ, st, gs, e => match gs with
    | [] => .err
    | .mk t it ifs :: gs' => (evI n d σ st it).bind fun ws st => evGL n d (wipeF σ (tgS t ++ gnS gs')) st t ws ifs gs' e
/-- a comprehension's clauses -/
def evG : Nat → Nat → Fr → Sto → List Gn → Ex → R (List W)
  | 0, _, _, _, _, _ => .err
  | n + 1, d, σ, st, gs, e => match gs with
    | [] => (evE n d σ st e).bind fun w st => .ok [w] st
    | .mk t it ifs :: gs => (evI n d σ st it).bind fun ws st => evGL n d (wipeF σ (tgS t)) st t ws ifs gs e
def evGL : Nat → Nat → Fr → Sto → Tg → List W → List Ex → List Gn → Ex → R (List W)
  | 0, _, _, _, _, _, _, _, _ => .err
  | n + 1, d, σ, st, t, ws, ifs, gs, e => match ws with
    | [] => .ok [] st
    | w :: ws => (asgT n d σ st t w).bind fun σ' st => (evTA n d σ' st ifs).bind fun b st => match b with
      | true => (evG n d σ' st gs e).bind fun xs st => (evGL n d σ st t ws ifs gs e).bind fun ys st => .ok (xs ++ ys) st
      | false => evGL n d σ st t ws ifs gs e
/-- a call of a lambda -/
def evL : Nat → Nat → Nat → List W → Sto → R W
  | 0, _, _, _, _ => .err
  | _, 0, _, _, _ => .err
  | n + 1, d + 1, f, ws, st => match G.lam.find f with
    | none => .err
    | some ld => bif Nat.beq ws.length ld.np then evE n d (ws.map some ++ List.replicate (ld.ns - ld.np) none) st ld.body else .err
/-- a call of a def -/
def evF : Nat → Nat → Nat → List W → Sto → R W
  | 0, _, _, _, _ => .err
  | _, 0, _, _, _ => .err
  | n + 1, d + 1, f, ws, st => match G.fn.find f with
    | none => .err
    | some fd => bif Nat.beq ws.length fd.np then
        (match exs n d (ws.map some ++ List.replicate (fd.ns - fd.np) none) st fd.body with
          | .ok (.rt w) _ st => .ok w st
          | .ok .nx _ st => .ok .non st
          | .ok _ _ _ => .err
          | .exc c pl _ st => .exc c pl st
          | .err => .err)
      else .err
def exs : Nat → Nat → Fr → Sto → List Sm → RS
  | 0, _, _, _, _ => .err
  | n + 1, d, σ, st, ss => match ss with
    | [] => .ok .nx σ st
    | s :: ss => (ex1 n d σ st s).bind fun σ st => exs n d σ st ss
def asgT : Nat → Nat → Fr → Sto → Tg → W → R Fr
  | 0, _, _, _, _, _ => .err
  | n + 1, d, σ, st, t, w => match t with
    | .nm i => .ok (σ.set i (some w)) st
    | .own i => .ok (σ.set i (some w)) st
    | .tu ts => match w with
      | .tup ws => asgTs n d σ st ts ws
      | _ => .err
    | .sub i e => (getv σ i st).bind fun x st => (evE n d σ st e).bind fun y st => o2r ((putop x y w).map fun z => σ.set i (some z)) st
    | .att o f => (evE n d σ st o).bind fun x st => match x with
      | .obj p => match st[p]? with
        | some ob => match G.cls.find ob.cls with
          | some cd => bif cd.fields.contains f && Nat.blt ob.fs.length 900 then .ok σ (st.set p ⟨ob.cls, fput f w ob.fs⟩) else .err
          | none => .err
        | none => .err
      | _ => .err
    | .subf o f e => (evE n d σ st o).bind fun x st => (evE n d σ st e).bind fun k st => match x with
      | .obj p => match st[p]? with
        | some ob => match (fget f ob.fs).bind fun z => putop z k w with
          | some z => .ok σ (st.set p ⟨ob.cls, fput f z ob.fs⟩)
          | none => .err
        | none => .err
      | _ => .err
def asgTs : Nat → Nat → Fr → Sto → List Tg → List W → R Fr
  | 0, _, _, _, _, _ => .err
  | n + 1, d, σ, st, ts, ws => match ts, ws with
    | [], [] => .ok σ st
    | t :: ts, w :: ws => (asgT n d σ st t w).bind fun σ st => asgTs n d σ st ts ws
    | _, _ => .err
def ex1 : Nat → Nat → Fr → Sto → Sm → RS
  | 0, _, _, _, _ => .err
  | n + 1, d, σ, st, s => match s with
    | .asg t e => (evE n d σ st e).toS σ fun w st => (asgT n d σ st t w).toS σ fun σ st => .ok .nx σ st
    | .par ts es => (evEs n d σ st es).toS σ fun ws st => (asgTs n d σ st ts ws).toS σ fun σ st => .ok .nx σ st
    | .aug i op e => (getv σ i st).toS σ fun x st => (evE n d σ st e).toS σ fun y st => match binop op x y with
      | some (.int j) => .ok .nx (σ.set i (some (.int j))) st
      | _ => .err
    | .ret e => (evE n d σ st e).toS σ fun w st => .ok (.rt w) σ st
    | .retN => .ok (.rt .non) σ st
    | .ex e => (evE n d σ st e).toS σ fun _ st => .ok .nx σ st
    | .app i e => (getv σ i st).toS σ fun x st => match x with
      | .lst ws => (evE n d σ st e).toS σ fun y st => bif small (ws.length + 1) then .ok .nx (σ.set i (some (.lst (ws ++ [y])))) st else .err
      | _ => .err
    | .ext i e => (getv σ i st).toS σ fun x st => match x with
      | .lst ws => (evE n d σ st e).toS σ fun y st => match y with
        | .lst ys => bif small (ws.length + ys.length) then .ok .nx (σ.set i (some (.lst (ws ++ ys)))) st else .err
        | _ => .err
      | _ => .err
    | .rev i => (getv σ i st).toS σ fun x st => match x with
      | .lst ws => .ok .nx (σ.set i (some (.lst ws.reverse))) st
      | _ => .err
    | .ife c a b => (evT n d σ st c).toS σ fun t st => match t with | true => exs n d σ st a | false => exs n d σ st b
    | .for t it body => (evI n d σ st it).toS σ fun ws st => exFor n d σ st t ws body
    | .while c body => exWh n d σ st c body
    | .raise c es => (evEs n d σ st es).toS σ fun ws st => match G.cls.find c with
      | some cd => match cd.pay, ws with
        | some f, [w] => .exc c [(f, w)] σ st
        | none, _ => .exc c [] σ st
        | _, _ => .err
      | none => .err
    | .try body c nm h => match exs n d σ st body with
      | .ok f σ st => .ok f σ st
      | .exc e pl σ st => (match catches G c e with
        | some true => (match nm with
          | none => exs n d σ st h
          | some i => exs n d (σ.set i (some (.obj st.length))) (st ++ [⟨e, pl⟩]) h)
        | some false => .exc e pl σ st
        | none => .err)
      | .err => .err
    | .pass => .ok .nx σ st
    | .brk => .ok .bk σ st
    | .cont => .ok .ct σ st
def exFor : Nat → Nat → Fr → Sto → Tg → List W → List Sm → RS
  | 0, _, _, _, _, _, _ => .err
  | n + 1, d, σ, st, t, ws, body => match ws with
    | [] => .ok .nx σ st
    | w :: ws => (asgT n d σ st t w).toS σ fun σ st => match exs n d σ st body with
      | .ok .nx σ st => exFor n d σ st t ws body
      | .ok .ct σ st => exFor n d σ st t ws body
      | .ok .bk σ st => .ok .nx σ st
      | r => r
def exWh : Nat → Nat → Fr → Sto → Ex → List Sm → RS
  | 0, _, _, _, _, _ => .err
  | n + 1, d, σ, st, c, body => (evT n d σ st c).toS σ fun t st => match t with
    | false => .ok .nx σ st
    | true => match exs n d σ st body with
      | .ok .nx σ st => exWh n d σ st c body
      | .ok .ct σ st => exWh n d σ st c body
      | .ok .bk σ st => .ok .nx σ st
      | r => r
end
end Pv
end

section
set_option Elab.async false
set_option linter.all false
set_option maxRecDepth 100000
set_option maxHeartbeats 1000000
namespace Pv
open PySem PySem.Spec PyProof.Rows L2 LamX
/-- a lambda of the text: its parts, its code's name -/
structure LamD where
  params : Arguments
  body : Expr
  scope : Scope
  q : Str
  N : List Str
  np : Nat
/-- its function object, whose code object stands at c -/
def LamO (L : LamD) (f c : Addr) : HO := .ext fun h => ∃ pm ctv : Value, h.get? f = some (PySem.W.kla_obj "<lambda>" L.q L.params L.body L.scope [] pm c ctv)
theorem lamO_at {P : Program} {w : World} {H : Hp} {h : Heap} {f c : Addr} {L : LamD} (hok : HOk P w H h) (e : H f = some (LamO L f c)) : ∃ pm ctv : Value, h.get? f = some (PySem.W.kla_obj "<lambda>" L.q L.params L.body L.scope [] pm c ctv) := (hok f _ e).1
def noFree (sc : Scope) : Prop := ∀ y, y ∈ sc.names → y.2 ≠ .free
theorem clo_nil {cells : List (Str × Addr)} : ∀ {l : List (Str × NameKind)}, (∀ y, y ∈ l → y.2 ≠ .free) → cloFrom cells l [] = []
  | [], _ => rfl
  | (n, k) :: r, h => by
    unfold cloFrom
    have : (k == NameKind.free) = false := beq_eq_false_iff_ne.mpr (h (n, k) (by simp))
    rw [this]
    exact clo_nil fun y m => h y (List.mem_cons_of_mem _ m)
section
variable {X : Cx} {pins : List (Addr × PySem.Obj)} {σ : L2.St} {H : Hp} {s : Shared}
/-- a lambda is made -/
theorem lam_mk {T : List (Addr × Str)} {L : LamD} {c P : Addr} {pos : Pos} {E : Value → Shared → Prop} {Q : Value → Shared → Prop} (I : Inv X pins σ H s) (TB : TabB X.base X.mg c P) (hcode : X.env.code = .ref c) (hq : L.q = X.env.qual ++ "<lambda>")
    (hm : (P, L.q) ∈ T) (hu : ∀ p, p ∈ T → p.1 = P → p.2 = L.q) (hT : Tabs T H) (hdef : defaultsOf L.params X.env = ([], [])) (hfree : noFree L.scope)
    (k : ∀ (f c' : Addr) (H1 : Hp) (s' : Shared), Inv X pins σ H1 s' → (∀ b o, b ≠ P → H b = some o → H1 b = some o) → (∃ ps, H1 P = some (.tbl ps)) → Tabs T H1 → H f = none → H1 f = some (LamO L f c') → H1 c' = some (CodeO c' L.q) → Q (.ref f) s') :
    wpAny (model X.prog X.w) X.A (eval (.Lambda L.params L.body L.scope pos) X.env) Q E s := by
  obtain ⟨ps, hP, ht, ha⟩ := hT _ hm
  have hP' : s.heap.get? P = some { cls := .none, data := .fields ps } := I.hok P _ hP
  have bP : s.heap.BuiltinsAt X.mg P := TB.bm.keeps I.bk
  have hcl : closureFor L.scope X.env = pure [] := by
    have z := closure_ok (env := X.env) (scope := L.scope) (fun y hy e => absurd e (hfree y hy))
    rw [clo_nil hfree] at z; exact z
  refine PySem.W.kla_eval hdef ?_
  rw [← hq]
  have fin : ∀ (h' : Heap) (tk : Tok) (pm ctv : Value) (c' : Addr) (H0 : Hp) , Inv X pins σ H0 { s with heap := h', toks := tk } → (∀ b o, b ≠ P → H b = some o → H0 b = some o) → (∃ ps, H0 P = some (.tbl ps)) → Tabs T H0 → H h'.objs.size = none → H0 c' = some (CodeO c' L.q) →
      Q (.ref h'.objs.size) { s with heap := h'.push (PySem.W.kla_obj "<lambda>" L.q L.params L.body L.scope [] pm c' ctv), toks := tk } := fun h' tk pm ctv c' H0 I0 e1 e2 t0 hn hc => by
    have nF : H0 h'.objs.size = none := I0.hok.fresh (Nat.le_refl _)
    have at_ : (h'.push (PySem.W.kla_obj "<lambda>" L.q L.params L.body L.scope [] pm c' ctv)).get? h'.objs.size = some (PySem.W.kla_obj "<lambda>" L.q L.params L.body L.scope [] pm c' ctv) := Heap.get?_push_size _ rfl
    have I1 : Inv X pins σ (upd H0 h'.objs.size (LamO L h'.objs.size c')) { s with heap := h'.push (PySem.W.kla_obj "<lambda>" L.q L.params L.body L.scope [] pm c' ctv), toks := tk } :=
      Inv.laid (s := { s with heap := h', toks := tk }) (h' := h'.push (PySem.W.kla_obj "<lambda>" L.q L.params L.body L.scope [] pm c' ctv)) (t' := tk) I0 (a := h'.objs.size) (fun b u e => Heap.get?_push_of_some _ e) (Nat.le_refl _) ⟨⟨pm, ctv, at_⟩, ⟨_, at_⟩, fun h1 h2 z st => let ⟨a1, a2, a3⟩ := z; ⟨a1, a2, st _ a3⟩⟩
    obtain ⟨ps0, e2⟩ := e2
    refine k _ c' _ _ I1 (fun b o hb e => ?_) ⟨ps0, ?_⟩ (t0.ext fun b o e => ?_) hn upd_same ?_
    · have z := e1 b o hb e
      exact (upd_ne (ne_of_none z nF)).trans z
    · exact (upd_ne (ne_of_none e2 nF)).trans e2
    · exact (upd_ne (ne_of_none e nF)).trans e
    · exact (upd_ne (ne_of_none hc nF)).trans hc
  cases hc : codeAmong pos ps.toList with
  | none =>
    refine PySem.W.kla_makeFunction (mg := X.mg) (c := c) (P := P) (ps := ps) hcl I.ok.glob (I.mod.glob.keeps I.bk) hcode (TB.code.keeps I.bk) hP' ht hc TB.gP bP fun c' ctv h' tk hx hge hlt hrec htb => ?_
    obtain ⟨c2, oc, vs, t, e2, hoc, hd, hv⟩ := hrec
    cases e2
    have nC : H c' = none := I.hok.fresh hge
    have I1 := inv_table (q := L.q) (t' := tk) (more := #[rawInt pos.line, rawInt pos.col, .ref c']) (h' := h') I hP (fun b o hb e => hx b o hb e) htb hge ⟨oc, vs, t, hoc, hd, hv⟩
    have hE : ∀ b o, b ≠ P → H b = some o → upd (upd H P (.tbl (ps ++ #[rawInt pos.line, rawInt pos.col, .ref c']))) c' (CodeO c' L.q) b = some o := fun b o n e => by
      rw [upd_ne (ne_of_none e nC), upd_ne n]; exact e
    have eP : upd (upd H P (.tbl (ps ++ #[rawInt pos.line, rawInt pos.col, .ref c']))) c' (CodeO c' L.q) P = some (.tbl (ps ++ #[rawInt pos.line, rawInt pos.col, .ref c'])) := by
      rw [upd_ne (ne_of_none hP nC), upd_same]
    have eL : (ps ++ #[rawInt pos.line, rawInt pos.col, .ref c']).toList = ps.toList ++ [rawInt pos.line, rawInt pos.col, .ref c'] := by simp
    have co : ∀ {c0 : Addr} {q0 : Str}, H c0 = some (CodeO c0 q0) → c0 ≠ P := fun {c0 q0} e z => by
      rw [z, hP] at e
      exact codeO_ne ps (Option.some.inj e).symm
    refine fin h' tk _ ctv c' _ I1 hE ⟨_, eP⟩ (fun p hp => ?_) (I.hok.fresh (Nat.le_trans hge (Nat.le_of_lt hlt))) upd_same
    by_cases hb : p.1 = P
    · rw [hu p hp hb, hb]
      refine ⟨_, eP, by rw [eL]; exact PySem.TriplesOk_snoc _ _ _ _ ht, fun p' cv hcv => ?_⟩
      rw [eL] at hcv
      rcases among_app _ ht hcv with z | z
      · obtain ⟨c0, z1, z2⟩ := ha p' cv z
        exact ⟨c0, z1, hE _ _ (co z2) z2⟩
      · exact ⟨c', z, upd_same⟩
    · obtain ⟨qs, a1, a2, a3⟩ := hT p hp
      refine ⟨qs, hE _ _ hb a1, a2, fun p' cv hcv => ?_⟩
      obtain ⟨c0, z1, z2⟩ := a3 p' cv hcv
      exact ⟨c0, z1, hE _ _ (co z2) z2⟩
  | some cv =>
    obtain ⟨c', e, hco⟩ := ha pos cv hc
    subst e
    refine PySem.W.kla_makeFunctionHit (mg := X.mg) (c := c) (P := P) (ps := ps) hcl I.ok.glob (I.mod.glob.keeps I.bk) hcode (TB.code.keeps I.bk) hP' ht hc bP fun ctv h' tk hx hsz => ?_
    have I1 : Inv X pins σ H { s with heap := h', toks := tk } := I.kept hx
    exact fin h' tk _ ctv c' H I1 (fun _ _ _ e => e) ⟨ps, hP⟩ hT (I1.hok.fresh (Nat.le_refl _)) hco
end
/-- a lambda is called -/
theorem lam_run {CX : CXT} {P : Program} {w : World} {K : PySem.W.Frag} {mg : Str → Option Value} {base : Heap} {k : Nat} {f c : Addr} {L : LamD} {ps : List Str} {A : Around} {outer : List Env} {s : Shared} {H : Hp} {us : List Value} {vs : List V} {Q : VK} {E : XK}
    (hr : Room (k + 1) A) (e0 : Env0 P w K mg base A outer s H) (hf : H f = some (LamO L f c)) (hc : H c = some (CodeO c L.q)) (S : FnScope L.N ps L.scope) (hb : ∀ (pm ctv : Value), bindArgs (PySem.W.kla_fn "<lambda>" L.q L.params L.body L.scope [] pm (.ref c) ctv) ⟨us, []⟩ = pure (ps.zip us)) (r : Vals vs us) (hl : vs.length = ps.length)
    (hbody : Room k (A.deeper (envOfC L.q L.scope s.heap.objs.size f (.ref c))) → ∃ t, PE (cxOf CX P w K mg base L.N L.q L.scope f (.ref c) A outer s H E) L.body t ∧ t (L2.start L.N vs) H Q) :
    codeAny (model P w) A (.call (.ref f) ⟨us, []⟩) (CR CX outer P w H s Q E) s := by
  obtain ⟨pm, ctv, of⟩ := lamO_at e0.hok hf
  obtain ⟨⟨oc, vs2, t2, hoc, hdc, hvc⟩, _, _⟩ := e0.hok c _ hc
  have lim : s.heap.NoLimit := e0.mod.nolimit.keeps fun b o e => (e0.bs b o e).1
  have hkind : ∀ y, y ∈ ps.zip us → L.scope.names.lookup y.1 = some .local ∨ (L.scope.names.lookup y.1 = some .cell ∧ ((cellsFrom (s.heap.objs.size + 1) L.scope.names []).lookup y.1).isSome = true) := fun ⟨n, v⟩ hy => by
    rcases S.par n (List.of_mem_zip hy).1 with q | q
    · exact .inl q
    · exact .inr ⟨q, PySem.W.cellsFrom_some _ _ _ (.inl q)⟩
  refine PySem.W.kla_callFunE hr.depth of rfl S.co S.gen rfl ⟨c, oc, vs2, t2, rfl, hoc, hdc, hvc⟩ ?_
  rw [hb]
  refine wpAny_pure ?_
  refine wpAny_newFunctionEnv_cells S.kind hkind fun env he s1 x => ?_
  subst he
  refine ⟨lim.keeps x.toInCall.keep, PySem.W.kla_codeExpr ?_⟩
  obtain ⟨t, ht, hq⟩ := hbody (hr.deeper _)
  have I : Inv (cxOf CX P w K mg base L.N L.q L.scope f (.ref c) A outer s H E) [] (L2.start L.N vs) H s1 := inv_start S hr.hd e0 hl r x
  refine wpAny_mono (ht.run [] s1 (L2.start L.N vs) H Q I hq) (fun v s' hs => ?_) fun e s' hs => hs
  obtain ⟨v', H', J, rv, q⟩ := hs
  exact ⟨v', H', J.os, J.bare, J.base, J.hok, rv, q⟩
end Pv
end

section
set_option Elab.async false
set_option linter.all false
set_option maxRecDepth 100000
namespace Pv
open PySem PySem.Spec PyProof.Rows L2

/-- whose a list or a dict is: shared for good, a slot's of the def that runs, a field's, another's -/
inductive Tag where | sh | sl (i : Nat) | fld (n f : Nat) | ot
structure Gh where
  ow : Addr → Option Tag
  io : List (Addr × Addr)
  lam : Nat → Option LamD

def KL (K : PySem.W.Frag) (a : Addr) (xs : List V) : Prop :=
  ∃ (o : PySem.Obj) (its : Array Value) (n : Nat), K.lookup a = some o ∧ o.cls = .type "list" ∧ o.dict = none ∧ o.data = .seq its n ∧ its.size ≤ sizeLine ∧ Vals xs its.toList
/-- a list that stands for good -/
def ShL (K : PySem.W.Frag) (g : Gh) (H : Hp) (a : Addr) (vs : List V) : Prop :=
  (H a = some (.lst vs) ∧ g.ow a = some .sh) ∨ (∃ o, H a = some (.frz o (.lst vs))) ∨ KL K a vs
theorem ShL.sq {K : PySem.W.Frag} {g : Gh} {H : Hp} {a : Addr} {vs : List V} (h : ShL K g H a vs) : SqL K H a vs := by
  rcases h with ⟨h, _⟩ | ⟨o, h⟩ | h
  · exact .inl (.inl h)
  · exact .inl (.inr ⟨o, h⟩)
  · exact .inr h
def kW : Key → W
  | .inl i => .int i
  | .inr x => .str x

mutual
inductive RelZ (K : PySem.W.Frag) (g : Gh) (H : Hp) : W → V → Prop
  | non : RelZ K g H .non .non
  | bl (b : Bool) : RelZ K g H (.bl b) (.bl b)
  | int (i : Int) : RelZ K g H (.int i) (.int i)
  | str (x : Str) : RelZ K g H (.str x) (.str x)
  | tup {a : Addr} {vs : List V} {ws : List W} : SqT K H a vs → RelZs K g H ws vs → RelZ K g H (.tup ws) (.ref a)
  | lst {a : Addr} {vs : List V} {ws : List W} : ShL K g H a vs → RelZs K g H ws vs → RelZ K g H (.lst ws) (.ref a)
  | dic {a : Addr} {kvs : List (Key × V)} {ks ws : List W} : H a = some (.dK kvs) → g.ow a = some .sh → ks = kvs.map (fun p => kW p.1) → RelZs K g H ws (kvs.map (·.2)) → RelZ K g H (.dic ks ws) (.ref a)
  | obj {n : Nat} {x dx : Addr} : g.io[n]? = some (x, dx) → RelZ K g H (.obj n) (.ref x)
  | fn {n : Nat} {f c : Addr} {L : LamD} : g.lam n = some L → H f = some (LamO L f c) → H c = some (LamX.CodeO c L.q) → RelZ K g H (.fn n []) (.ref f)
inductive RelZs (K : PySem.W.Frag) (g : Gh) (H : Hp) : List W → List V → Prop
  | nil : RelZs K g H [] []
  | cons {w : W} {v : V} {ws : List W} {vs : List V} : RelZ K g H w v → RelZs K g H ws vs → RelZs K g H (w :: ws) (v :: vs)
end

section
variable {K : PySem.W.Frag} {g g' : Gh} {H H' : Hp}
theorem RelZs.length : ∀ {ws : List W} {vs : List V}, RelZs K g H ws vs → ws.length = vs.length
  | _, _, .nil => rfl
  | _, _, .cons _ t => by simp [RelZs.length t]
theorem RelZs.get : ∀ {ws : List W} {vs : List V} {i : Nat} {w : W}, RelZs K g H ws vs → ws[i]? = some w → ∃ v, vs[i]? = some v ∧ RelZ K g H w v
  | _, _, _, _, .nil, e => by simp at e
  | _, _, 0, _, .cons r _, e => by simp at e; subst e; exact ⟨_, rfl, r⟩
  | _, _, i + 1, w, .cons _ t, e => by
    obtain ⟨u, h1, h2⟩ := RelZs.get (i := i) (w := w) t (by simpa using e)
    exact ⟨u, by simpa using h1, h2⟩
theorem RelZs.getV : ∀ {ws : List W} {vs : List V} {i : Nat} {v : V}, RelZs K g H ws vs → vs[i]? = some v → ∃ w, ws[i]? = some w ∧ RelZ K g H w v
  | _, _, _, _, .nil, e => by simp at e
  | _, _, 0, _, .cons r _, e => by simp at e; subst e; exact ⟨_, rfl, r⟩
  | _, _, i + 1, w, .cons _ t, e => by
    obtain ⟨u, h1, h2⟩ := RelZs.getV (i := i) (v := w) t (by simpa using e)
    exact ⟨u, by simpa using h1, h2⟩
theorem RelZs.append : ∀ {ws : List W} {vs : List V} {ws' : List W} {vs' : List V}, RelZs K g H ws vs → RelZs K g H ws' vs' → RelZs K g H (ws ++ ws') (vs ++ vs')
  | _, _, _, _, .nil, r => r
  | _, _, _, _, .cons h t, r => .cons h (RelZs.append t r)
theorem RelZs.take : ∀ (n : Nat) {ws : List W} {vs : List V}, RelZs K g H ws vs → RelZs K g H (ws.take n) (vs.take n)
  | 0, _, _, _ => .nil
  | _ + 1, _, _, .nil => .nil
  | n + 1, _, _, .cons h t => .cons h (RelZs.take n t)
theorem RelZs.drop : ∀ (n : Nat) {ws : List W} {vs : List V}, RelZs K g H ws vs → RelZs K g H (ws.drop n) (vs.drop n)
  | 0, _, _, r => r
  | _ + 1, _, _, .nil => .nil
  | n + 1, _, _, .cons _ t => RelZs.drop n t
theorem RelZs.set : ∀ {ws : List W} {vs : List V} (i : Nat) {w : W} {v : V}, RelZs K g H ws vs → RelZ K g H w v → RelZs K g H (ws.set i w) (vs.set i v)
  | _, _, _, _, _, .nil, _ => .nil
  | _, _, 0, _, _, .cons _ t, r => .cons r t
  | _, _, i + 1, _, _, .cons h t, r => .cons h (RelZs.set i t r)
/-- what a value's reading leans on -/
structure Mo (K : PySem.W.Frag) (g : Gh) (H : Hp) (g' : Gh) (H' : Hp) : Prop where
  sh : ∀ a, g.ow a = some .sh → g'.ow a = some .sh
  lst : ∀ a o, H a = some o → g.ow a = some .sh → H' a = some o
  frz : ∀ a o u, H a = some (.frz o u) → H' a = some (.frz o u)
  tup : ∀ a xs, H a = some (.tup xs) → H' a = some (.tup xs)
  io : ∀ (n : Nat) (p : Addr × Addr), g.io[n]? = some p → g'.io[n]? = some p
  lam : g'.lam = g.lam
  ext : ∀ a φ, H a = some (.ext φ) → H' a = some (.ext φ)
theorem Mo.sqT (m : Mo K g H g' H') {a : Addr} {xs : List V} (h : SqT K H a xs) : SqT K H' a xs := by
  rcases h with (h | ⟨o, h⟩) | h
  · exact .inl (.inl (m.tup _ _ h))
  · exact .inl (.inr ⟨o, m.frz _ _ _ h⟩)
  · exact .inr h
theorem Mo.shL (m : Mo K g H g' H') {a : Addr} {xs : List V} (h : ShL K g H a xs) : ShL K g' H' a xs := by
  rcases h with ⟨h, t⟩ | ⟨o, h⟩ | h
  · exact .inl ⟨m.lst _ _ h t, m.sh _ t⟩
  · exact .inr (.inl ⟨o, m.frz _ _ _ h⟩)
  · exact .inr (.inr h)
mutual
theorem RelZ.mo (m : Mo K g H g' H') : ∀ {w : W} {v : V}, RelZ K g H w v → RelZ K g' H' w v
  | _, _, .non => .non
  | _, _, .bl b => .bl b
  | _, _, .int i => .int i
  | _, _, .str x => .str x
  | _, _, .tup h r => .tup (m.sqT h) (RelZs.mo m r)
  | _, _, .lst h r => .lst (m.shL h) (RelZs.mo m r)
  | _, _, .dic h t e r => .dic (m.lst _ _ h t) (m.sh _ t) e (RelZs.mo m r)
  | _, _, .obj h => .obj (m.io _ _ h)
  | _, _, .fn h1 h2 h3 => .fn (by rw [m.lam]; exact h1) (m.ext _ _ h2) (m.ext _ _ h3)
theorem RelZs.mo (m : Mo K g H g' H') : ∀ {ws : List W} {vs : List V}, RelZs K g H ws vs → RelZs K g' H' ws vs
  | _, _, .nil => .nil
  | _, _, .cons h t => .cons (RelZ.mo m h) (RelZs.mo m t)
end
end

def isC : W → Bool
  | .lst _ | .dic _ _ => true
  | _ => false
/-- a list or a dict of its own: its tag is t -/
inductive RootO (K : PySem.W.Frag) (g : Gh) (H : Hp) (t : Option Tag) : W → V → Prop
  | lst {a : Addr} {vs : List V} {ws : List W} : H a = some (.lst vs) → g.ow a = t → RelZs K g H ws vs → RootO K g H t (.lst ws) (.ref a)
  | dic {a : Addr} {kvs : List (Key × V)} {ks ws : List W} : H a = some (.dK kvs) → g.ow a = t → ks = kvs.map (fun p => kW p.1) → RelZs K g H ws (kvs.map (·.2)) → RootO K g H t (.dic ks ws) (.ref a)
def notFld (t : Option Tag) : Prop := ∀ n f, t ≠ some (.fld n f)
/-- what may be read: nothing is kept of it -/
def RelR (K : PySem.W.Frag) (g : Gh) (H : Hp) (w : W) (v : V) : Prop := RelZ K g H w v ∨ ∃ t, notFld t ∧ RootO K g H t w v
/-- a new value: H0 is the heap ahead of it -/
def RelFr (K : PySem.W.Frag) (H0 : Hp) (g : Gh) (H : Hp) (w : W) (v : V) : Prop := (isC w = false ∧ RelZ K g H w v) ∨ (RootO K g H none w v ∧ ∀ a, v = .ref a → H0 a = none)
/-- a slot's own value -/
def RelOw (K : PySem.W.Frag) (g : Gh) (H : Hp) (i : Nat) (w : W) (v : V) : Prop := (isC w = false ∧ RelZ K g H w v) ∨ RootO K g H (some (.sl i)) w v

/-- how a piece of code leaves what it does not own -/
structure Ext (g : Gh) (H : Hp) (g' : Gh) (H' : Hp) : Prop where
  tag : ∀ a t, g.ow a = some t → g'.ow a = some t
  nt : ∀ a o, H a = some o → g.ow a = none → g'.ow a = none
  keep : ∀ a o, H a = some o → notFld (g.ow a) → (∀ C dx fs, o ≠ .ins C dx fs) → H' a = some o
  ins : ∀ a C dx fs, H a = some (.ins C dx fs) → ∃ fs', H' a = some (.ins C dx fs')
  there : ∀ a o, H a = some o → ∃ o', H' a = some o'
  io : ∀ (n : Nat) (p : Addr × Addr), g.io[n]? = some p → g'.io[n]? = some p
  lam : g'.lam = g.lam
/-- the same, but the lists and dicts of the slots M may change -/
structure ExtM (M : List Nat) (g : Gh) (H : Hp) (g' : Gh) (H' : Hp) : Prop where
  tag : ∀ a t, g.ow a = some t → g'.ow a = some t
  nt : ∀ a o, H a = some o → g.ow a = none → g'.ow a = none
  keep : ∀ a o, H a = some o → notFld (g.ow a) → (∀ i, i ∈ M → g.ow a ≠ some (.sl i)) → (∀ C dx fs, o ≠ .ins C dx fs) → H' a = some o
  ins : ∀ a C dx fs, H a = some (.ins C dx fs) → ∃ fs', H' a = some (.ins C dx fs')
  there : ∀ a o, H a = some o → ∃ o', H' a = some o'
  io : ∀ (n : Nat) (p : Addr × Addr), g.io[n]? = some p → g'.io[n]? = some p
  lam : g'.lam = g.lam
def LD (o : HO) : Prop := (∀ xs, o ≠ .tup xs) ∧ (∀ x u, o ≠ .frz x u) ∧ (∀ C dx fs, o ≠ .ins C dx fs) ∧ ∀ φ, o ≠ .ext φ
def Wf (g : Gh) (H : Hp) : Prop := ∀ a t, g.ow a = some t → ∃ o, H a = some o ∧ LD o
section
variable {K : PySem.W.Frag} {g g1 g2 g' : Gh} {H H1 H2 H' : Hp} {w : W} {v : V} {ws : List W} {vs : List V}
theorem notFld_none : notFld none := fun _ _ z => by cases z
theorem notFld_sh : notFld (some .sh) := fun _ _ z => by cases z
theorem notFld_sl (i : Nat) : notFld (some (.sl i)) := fun _ _ z => by cases z
theorem notFld_ot : notFld (some .ot) := fun _ _ z => by cases z
theorem Wf.no (wf : Wf g H) {a : Addr} (h : H a = none) : g.ow a = none := by
  cases e : g.ow a with
  | none => rfl
  | some t => obtain ⟨o, q, _⟩ := wf a t e; rw [h] at q; cases q
theorem Wf.tupN (wf : Wf g H) {a : Addr} {xs : List V} (h : H a = some (.tup xs)) : g.ow a = Option.none := by
  cases e : g.ow a with
  | none => rfl
  | some t => obtain ⟨o, q, l⟩ := wf a t e; rw [h] at q; cases q; exact absurd rfl (l.1 _)
theorem Wf.frzN (wf : Wf g H) {a : Addr} {o : PySem.Obj} {u : HO} (h : H a = some (.frz o u)) : g.ow a = Option.none := by
  cases e : g.ow a with
  | none => rfl
  | some t => obtain ⟨o, q, l⟩ := wf a t e; rw [h] at q; cases q; exact absurd rfl (l.2.1 _ _)
theorem Wf.extN (wf : Wf g H) {a : Addr} {φ : Heap → Prop} (h : H a = some (.ext φ)) : g.ow a = Option.none := by
  cases e : g.ow a with
  | none => rfl
  | some t => obtain ⟨o, q, l⟩ := wf a t e; rw [h] at q; cases q; exact absurd rfl (l.2.2.2 _)
theorem Ext.refl : Ext g H g H := ⟨fun _ _ h => h, fun _ _ _ h => h, fun _ _ h _ _ => h, fun _ _ _ _ h => ⟨_, h⟩, fun _ _ h => ⟨_, h⟩, fun _ _ h => h, rfl⟩
theorem Ext.trans (a : Ext g H g1 H1) (b : Ext g1 H1 g2 H2) : Ext g H g2 H2 where
  tag := fun c t h => b.tag c t (a.tag c t h)
  nt := fun c o h n => by
    obtain ⟨o', h'⟩ := a.there c o h
    exact b.nt c o' h' (a.nt c o h n)
  keep := fun c o h n i => by
    have n' : notFld (g1.ow c) := by
      cases e : g.ow c with
      | none => rw [a.nt c o h e]; exact notFld_none
      | some t => rw [a.tag c t e, ← e]; exact n
    exact b.keep c o (a.keep c o h n i) n' i
  ins := fun c C dx fs h => by
    obtain ⟨fs', h'⟩ := a.ins c C dx fs h
    exact b.ins c C dx fs' h'
  there := fun c o h => by
    obtain ⟨o', h'⟩ := a.there c o h
    exact b.there c o' h'
  io := fun n p h => b.io n p (a.io n p h)
  lam := b.lam.trans a.lam
theorem Ext.free (e : Ext g H g' H') {a : Addr} (h : H' a = none) : H a = none := by
  cases q : H a with
  | none => rfl
  | some o => obtain ⟨o', z⟩ := e.there a o q; rw [h] at z; cases z
theorem Ext.mo (wf : Wf g H) (e : Ext g H g' H') : Mo K g H g' H' where
  sh := fun a h => e.tag a _ h
  lst := fun a o h t => by
    obtain ⟨o', q, l⟩ := wf a _ t
    rw [h] at q; cases q
    exact e.keep a o h (by rw [t]; exact notFld_sh) l.2.2.1
  frz := fun a o u h => e.keep a _ h (by rw [wf.frzN h]; exact notFld_none) (fun _ _ _ z => by cases z)
  tup := fun a xs h => e.keep a _ h (by rw [wf.tupN h]; exact notFld_none) (fun _ _ _ z => by cases z)
  io := e.io
  lam := e.lam
  ext := fun a φ h => e.keep a _ h (by rw [wf.extN h]; exact notFld_none) (fun _ _ _ z => by cases z)
theorem RootO.ext (wf : Wf g H) (e : Ext g H g' H') {t : Option Tag} (n : notFld t) (r : RootO K g H t w v) : RootO K g' H' t w v := by
  cases r with
  | @lst a vs ws h q r =>
    have q' : g'.ow a = t := by
      cases t with
      | none => exact e.nt a _ h q
      | some t => exact e.tag a t q
    exact .lst (e.keep a _ h (by rw [q]; exact n) (fun _ _ _ z => by cases z)) q' (r.mo (e.mo wf))
  | @dic a kvs ks ws h q k r =>
    have q' : g'.ow a = t := by
      cases t with
      | none => exact e.nt a _ h q
      | some t => exact e.tag a t q
    exact .dic (e.keep a _ h (by rw [q]; exact n) (fun _ _ _ z => by cases z)) q' k (r.mo (e.mo wf))
theorem RelR.ext (wf : Wf g H) (e : Ext g H g' H') (r : RelR K g H w v) : RelR K g' H' w v := by
  rcases r with r | ⟨t, n, r⟩
  · exact .inl (r.mo (e.mo wf))
  · exact .inr ⟨t, n, r.ext wf e n⟩
theorem RelFr.ext {H0 : Hp} (wf : Wf g H) (e : Ext g H g' H') (r : RelFr K H0 g H w v) : RelFr K H0 g' H' w v := by
  rcases r with ⟨c, r⟩ | ⟨r, n⟩
  · exact .inl ⟨c, r.mo (e.mo wf)⟩
  · exact .inr ⟨r.ext wf e notFld_none, n⟩
theorem RelOw.ext {i : Nat} (wf : Wf g H) (e : Ext g H g' H') (r : RelOw K g H i w v) : RelOw K g' H' i w v := by
  rcases r with ⟨c, r⟩ | r
  · exact .inl ⟨c, r.mo (e.mo wf)⟩
  · exact .inr (r.ext wf e (notFld_sl i))
theorem Ext.toM (M : List Nat) (e : Ext g H g' H') : ExtM M g H g' H' := ⟨e.tag, e.nt, fun a o h n _ i => e.keep a o h n i, e.ins, e.there, e.io, e.lam⟩
theorem ExtM.toE {M : List Nat} (n : ∀ a i, g.ow a ≠ some (.sl i)) (e : ExtM M g H g' H') : Ext g H g' H' := ⟨e.tag, e.nt, fun a o h k i => e.keep a o h k (fun j _ => n a j) i, e.ins, e.there, e.io, e.lam⟩
theorem ExtM.refl {M : List Nat} : ExtM M g H g H := Ext.refl.toM M
theorem ExtM.trans {M : List Nat} (a : ExtM M g H g1 H1) (b : ExtM M g1 H1 g2 H2) : ExtM M g H g2 H2 where
  tag := fun c t h => b.tag c t (a.tag c t h)
  nt := fun c o h n => by
    obtain ⟨o', h'⟩ := a.there c o h
    exact b.nt c o' h' (a.nt c o h n)
  keep := fun c o h n m i => by
    have n' : g1.ow c = g.ow c := by
      cases e : g.ow c with
      | none => rw [a.nt c o h e]
      | some t => rw [a.tag c t e]
    exact b.keep c o (a.keep c o h n m i) (by rw [n']; exact n) (by rw [n']; exact m) i
  ins := fun c C dx fs h => by
    obtain ⟨fs', h'⟩ := a.ins c C dx fs h
    exact b.ins c C dx fs' h'
  there := fun c o h => by
    obtain ⟨o', h'⟩ := a.there c o h
    exact b.there c o' h'
  io := fun n p h => b.io n p (a.io n p h)
  lam := b.lam.trans a.lam
theorem ExtM.up {M M' : List Nat} (s : ∀ i, i ∈ M → i ∈ M') (e : ExtM M g H g' H') : ExtM M' g H g' H' := ⟨e.tag, e.nt, fun a o h n m i => e.keep a o h n (fun j hj => m j (s j hj)) i, e.ins, e.there, e.io, e.lam⟩
theorem ExtM.free {M : List Nat} (e : ExtM M g H g' H') {a : Addr} (h : H' a = none) : H a = none := by
  cases q : H a with
  | none => rfl
  | some o => obtain ⟨o', z⟩ := e.there a o q; rw [h] at z; cases z
theorem ExtM.mo {M : List Nat} (wf : Wf g H) (e : ExtM M g H g' H') : Mo K g H g' H' where
  sh := fun a h => e.tag a _ h
  lst := fun a o h t => by
    obtain ⟨o', q, l⟩ := wf a _ t
    rw [h] at q; cases q
    exact e.keep a o h (by rw [t]; exact notFld_sh) (fun i _ => by rw [t]; exact nofun) l.2.2.1
  frz := fun a o u h => e.keep a _ h (by rw [wf.frzN h]; exact notFld_none) (fun i _ => by rw [wf.frzN h]; exact nofun) (fun _ _ _ z => by cases z)
  tup := fun a xs h => e.keep a _ h (by rw [wf.tupN h]; exact notFld_none) (fun i _ => by rw [wf.tupN h]; exact nofun) (fun _ _ _ z => by cases z)
  io := e.io
  lam := e.lam
  ext := fun a φ h => e.keep a _ h (by rw [wf.extN h]; exact notFld_none) (fun i _ => by rw [wf.extN h]; exact nofun) (fun _ _ _ z => by cases z)
theorem RootO.extM {M : List Nat} (wf : Wf g H) (e : ExtM M g H g' H') {t : Option Tag} (n : notFld t) (m : ∀ i, i ∈ M → t ≠ some (.sl i)) (r : RootO K g H t w v) : RootO K g' H' t w v := by
  cases r with
  | @lst a vs ws h q r =>
    have q' : g'.ow a = t := by
      cases t with
      | none => exact e.nt a _ h q
      | some t => exact e.tag a t q
    exact .lst (e.keep a _ h (by rw [q]; exact n) (by rw [q]; exact m) (fun _ _ _ z => by cases z)) q' (r.mo (e.mo wf))
  | @dic a kvs ks ws h q k r =>
    have q' : g'.ow a = t := by
      cases t with
      | none => exact e.nt a _ h q
      | some t => exact e.tag a t q
    exact .dic (e.keep a _ h (by rw [q]; exact n) (by rw [q]; exact m) (fun _ _ _ z => by cases z)) q' k (r.mo (e.mo wf))
/-- readable, and no slot's of M -/
def RelRM (K : PySem.W.Frag) (M : List Nat) (g : Gh) (H : Hp) (w : W) (v : V) : Prop := RelZ K g H w v ∨ ∃ t, notFld t ∧ (∀ i, i ∈ M → t ≠ some (.sl i)) ∧ RootO K g H t w v
theorem RelRM.r {M : List Nat} (r : RelRM K M g H w v) : RelR K g H w v := by
  rcases r with r | ⟨t, n, _, r⟩
  · exact .inl r
  · exact .inr ⟨t, n, r⟩
theorem RelRM.extM {M : List Nat} (wf : Wf g H) (e : ExtM M g H g' H') (r : RelRM K M g H w v) : RelRM K M g' H' w v := by
  rcases r with r | ⟨t, n, m, r⟩
  · exact .inl (r.mo (e.mo wf))
  · exact .inr ⟨t, n, m, r.extM wf e n m⟩
theorem RelFr.r {H0 : Hp} (r : RelFr K H0 g H w v) : RelR K g H w v := by
  rcases r with ⟨_, r⟩ | ⟨r, _⟩
  · exact .inl r
  · exact .inr ⟨_, notFld_none, r⟩
theorem RelOw.r {i : Nat} (r : RelOw K g H i w v) : RelR K g H w v := by
  rcases r with ⟨_, r⟩ | r
  · exact .inl r
  · exact .inr ⟨_, notFld_sl i, r⟩
theorem RelFr.back {H0 H00 : Hp} (e : ∀ a, H0 a = none → H00 a = none) (r : RelFr K H0 g H w v) : RelFr K H00 g H w v := by
  rcases r with r | ⟨r, n⟩
  · exact .inl r
  · exact .inr ⟨r, fun a z => e a (n a z)⟩
/-- a new object -/
theorem Ext.new {p : Addr} {o : HO} (h : H p = none) : Ext g H g (upd H p o) where
  tag := fun _ _ h => h
  nt := fun _ _ _ h => h
  keep := fun a o' e _ _ => by rw [upd_ne (ne_of_none e h)]; exact e
  ins := fun a C dx fs e => ⟨fs, by rw [upd_ne (ne_of_none e h)]; exact e⟩
  there := fun a o' e => ⟨o', by rw [upd_ne (ne_of_none e h)]; exact e⟩
  io := fun _ _ h => h
  lam := rfl
theorem Wf.new {p : Addr} {o : HO} (wf : Wf g H) (h : H p = none) : Wf g (upd H p o) := fun a t e => by
  obtain ⟨o', q, l⟩ := wf a t e
  exact ⟨o', by rw [upd_ne (ne_of_none q h)]; exact q, l⟩
/-- a tag is given -/
def Gh.put (g : Gh) (a : Addr) (t : Tag) : Gh := { g with ow := fun b => if b = a then some t else g.ow b }
theorem Gh.put_same {a : Addr} {t : Tag} : (g.put a t).ow a = some t := if_pos rfl
theorem Gh.put_ne {a b : Addr} {t : Tag} (h : b ≠ a) : (g.put a t).ow b = g.ow b := if_neg h
theorem put_mo {a : Addr} {t : Tag} (h : g.ow a = none) : Mo K g H (g.put a t) H where
  sh := fun b q => by rw [Gh.put_ne (fun z => by rw [z, h] at q; cases q)]; exact q
  lst := fun _ _ h _ => h
  frz := fun _ _ _ h => h
  tup := fun _ _ h => h
  io := fun _ _ h => h
  lam := rfl
  ext := fun _ _ h => h
theorem put_ext {a : Addr} {t : Tag} (e : Ext g H g' H') (h : H a = none) (wf : Wf g H) : Ext g H (g'.put a t) H' where
  tag := fun b t' q => by
    have hb : b ≠ a := fun z => by rw [z, wf.no h] at q; cases q
    rw [Gh.put_ne hb]; exact e.tag b t' q
  nt := fun b o q n => by rw [Gh.put_ne (ne_of_none q h)]; exact e.nt b o q n
  keep := e.keep
  ins := e.ins
  there := e.there
  io := e.io
  lam := e.lam
theorem put_wf {a : Addr} {t : Tag} {o : HO} (wf : Wf g H) (h : H a = some o) (l : LD o) : Wf (g.put a t) H := fun b t' q => by
  by_cases hb : b = a
  · rw [hb]; exact ⟨o, h, l⟩
  · rw [Gh.put_ne hb] at q; exact wf b t' q
theorem LD_lst {xs : List V} : LD (.lst xs) := ⟨fun _ => nofun, fun _ _ => nofun, fun _ _ _ => nofun, fun _ => nofun⟩
theorem LD_dK {xs : List (Key × V)} : LD (.dK xs) := ⟨fun _ => nofun, fun _ _ => nofun, fun _ _ _ => nofun, fun _ => nofun⟩
/-- what is new is shared from now on -/
theorem RelFr.share {H0 : Hp} (wf : Wf g H) (r : RelFr K H0 g H w v) : ∃ g', RelZ K g' H w v ∧ (g' = g ∨ ∃ a, H0 a = none ∧ g.ow a = none ∧ (∃ o, H a = some o ∧ LD o) ∧ g' = g.put a .sh) := by
  rcases r with ⟨_, r⟩ | ⟨r, n⟩
  · exact ⟨g, r, .inl rfl⟩
  · cases r with
    | @lst a vs ws h q r => exact ⟨g.put a .sh, .lst (.inl ⟨h, Gh.put_same⟩) (r.mo (put_mo q)), .inr ⟨a, n a rfl, q, ⟨_, h, LD_lst⟩, rfl⟩⟩
    | @dic a kvs ks ws h q k r => exact ⟨g.put a .sh, .dic h Gh.put_same k (r.mo (put_mo q)), .inr ⟨a, n a rfl, q, ⟨_, h, LD_dK⟩, rfl⟩⟩
end
end Pv
end

section
set_option Elab.async false
set_option linter.all false
set_option maxRecDepth 100000
namespace Pv
open PySem PySem.Spec PyProof.Rows L2

/-- a def's names by slot, its scope, the slots that are its alone, those that it borrows -/
structure Cfg where
  N : List Str
  sc : Scope
  own : List Nat
  bor : List Nat
  fn : Bool
  lq : Option Str
/-- a program's tables over its text -/
structure Tb where
  G : Gb
  K : PySem.W.Frag
  mg : Str → Option Value
  nm : Nat → Str
  ca : Nat → Addr
  fa : Nat → Addr
  ownF : Nat → Bool
  lam : Nat → Option LamD
  tabs : List (Addr × Str)
  cs : List (Addr × Addr)

def isO : Ex → Bool
  | .o _ => true
  | _ => false
inductive Kn where | lk | fr | bo
  deriving DecidableEq
def kn (T : Tb) : Ex → Kn
  | .o _ => .bo
  | .lst _ | .dct _ _ | .comp _ _ | .dcomp _ _ _ | .sortk _ _ | .bin _ _ _ | .sl _ _ _ => .fr
  | .bf b _ => match b with | .list | .sorted | .dict => .fr | _ => .lk
  | .call f _ => match T.G.fn.find f with | some fd => if fd.fr then .fr else .lk | none => .lk
  | _ => .lk

/-! ### readings, whatever they are -/
def wE (X : Cx) (e : Expr) : TE := fun σ H Q => ∀ (pins : List (Addr × PySem.Obj)) (s : Shared), Inv X pins σ H s → wpAny (model X.prog X.w) X.A (eval e X.env) (EP X pins σ Q) X.xe s
theorem pe_w {X : Cx} {e : Expr} : PE X e (wE X e) := ⟨fun pins s σ H Q I h => h pins s I⟩
theorem _root_.L2.PE.w {X : Cx} {e : Expr} {t : TE} (h : PE X e t) {σ : L2.St} {H : Hp} {Q : VK} (ht : t σ H Q) : wE X e σ H Q := fun pins s I => h.run pins s σ H Q I ht
def wT (X : Cx) (e : Expr) : TT := fun σ H Q => ∀ (pins : List (Addr × PySem.Obj)) (s : Shared), Inv X pins σ H s → wpAny (model X.prog X.w) X.A (isTrue e X.env (eval e X.env)) (TP X pins σ Q) X.xe s
theorem pt_w {X : Cx} {e : Expr} : PT X e (wT X e) := ⟨fun pins s σ H Q I h => h pins s I⟩
theorem _root_.L2.PT.w {X : Cx} {e : Expr} {t : TT} (h : PT X e t) {σ : L2.St} {H : Hp} {Q : Bool → Hp → Prop} (ht : t σ H Q) : wT X e σ H Q := fun pins s I => h.run pins s σ H Q I ht
def wA (X : Cx) (es : List Expr) : TA := fun σ H Q => ∀ (pos : Pos) (pins : List (Addr × PySem.Obj)) (s : Shared), Inv X pins σ H s → wpAny (model X.prog X.w) X.A (spliced (backTo pos (starEach es X.env))) (AP X pins σ Q) X.xe s
theorem pa_w {X : Cx} {es : List Expr} : PA X es (wA X es) := ⟨fun pos pins s σ H Q I h => h pos pins s I⟩
theorem _root_.L2.PA.w {X : Cx} {es : List Expr} {t : TA} (h : PA X es t) {σ : L2.St} {H : Hp} {Q : List V → Hp → Prop} (ht : t σ H Q) : wA X es σ H Q := fun pos pins s I => h.run pos pins s σ H Q I ht
def wS (X : Cx) (st : Stmt) : TS := fun D σ H => ∀ (pins : List (Addr × PySem.Obj)) (s : Shared), Inv X pins σ H s → wpAny (model X.prog X.w) X.A (exec st X.env) (SP X pins D) X.xe s
theorem ps_w {X : Cx} {st : Stmt} : PS X st (wS X st) := ⟨fun pins s σ H D I h => h pins s I⟩
theorem _root_.L2.PS.w {X : Cx} {st : Stmt} {t : TS} (h : PS X st t) {σ : L2.St} {H : Hp} {D : Ends} (ht : t D σ H) : wS X st D σ H := fun pins s I => h.run pins s σ H D I ht
def wSs (X : Cx) (st : List Stmt) : TS := fun D σ H => ∀ (pins : List (Addr × PySem.Obj)) (s : Shared), Inv X pins σ H s → wpAny (model X.prog X.w) X.A (execs st X.env) (SP X pins D) X.xe s
theorem pss_w {X : Cx} {st : List Stmt} : PSs X st (wSs X st) := ⟨fun pins s σ H D I h => h pins s I⟩
theorem _root_.L2.PSs.w {X : Cx} {st : List Stmt} {t : TS} (h : PSs X st t) {σ : L2.St} {H : Hp} {D : Ends} (ht : t D σ H) : wSs X st D σ H := fun pins s I => h.run pins s σ H D I ht
def wG (X : Cx) (tg : Expr) : TG := fun v σ H Q => ∀ (pins : List (Addr × PySem.Obj)) (s : Shared) (u : Value), Inv X pins σ H s → RelV v u → wpAny (model X.prog X.w) X.A (assign tg X.env u) (fun _ s' => ∃ σ' H', Inv X pins σ' H' s' ∧ Q σ' H') X.xe s
theorem pg_w {X : Cx} {tg : Expr} : PG X tg (wG X tg) := ⟨fun pins s σ H v u Q I r h => h pins s u I r⟩
theorem _root_.L2.PG.w {X : Cx} {tg : Expr} {t : TG} (h : PG X tg t) {v : V} {σ : L2.St} {H : Hp} {Q : L2.St → Hp → Prop} (ht : t v σ H Q) : wG X tg v σ H Q := fun pins s u I r => h.run pins s σ H v u Q I r ht
def wI (X : Cx) (tg iter : Expr) : TI := fun σ H R => ∀ (pins : List (Addr × PySem.Obj)) (s : Shared), Inv X pins σ H s →
  wpAny (model X.prog X.w) X.A (eval iter X.env) (fun v s1 => wpAny (model X.prog X.w) X.A (pyIter v) (PIE X pins σ tg R) X.xe s1) X.xe s
theorem pi_w {X : Cx} {tg iter : Expr} : PI X tg iter (wI X tg iter) := ⟨fun pins s σ H R I h => h pins s I⟩
theorem _root_.L2.PI.w {X : Cx} {tg iter : Expr} {t : TI} (h : PI X tg iter t) {σ : L2.St} {H : Hp} {R : It → Hp → Prop} (ht : t σ H R) : wI X tg iter σ H R := fun pins s I => h.run pins s σ H R I ht

/-! ### the objects -/
def FldR (T : Tb) (g : Gh) (H : Hp) (n f : Nat) (w : W) (v : V) : Prop := RelZ T.K g H w v ∨ (T.ownF f = true ∧ RootO T.K g H (some (.fld n f)) w v)
inductive FsR (T : Tb) (g : Gh) (H : Hp) (n : Nat) : List (Nat × W) → List (Str × V) → Prop
  | nil : FsR T g H n [] []
  | cons {f : Nat} {w : W} {v : V} {fs : List (Nat × W)} {vs : List (Str × V)} : FldR T g H n f w v → FsR T g H n fs vs → FsR T g H n ((f, w) :: fs) ((T.nm f, v) :: vs)
structure TabsOk (T : Tb) (g : Gh) (H : Hp) : Prop where
  t : LamX.Tabs T.tabs H
  o : ∀ p, p ∈ T.tabs → ∃ n f, g.ow p.1 = some (.fld n f)
structure RelSt (T : Tb) (g : Gh) (st : Sto) (H : Hp) : Prop where
  len : g.io.length = st.length
  ob : ∀ (n : Nat) (o : Obj), st[n]? = some o → ∃ x dx fs, g.io[n]? = some (x, dx) ∧ H x = some (.ins (T.ca o.cls) dx fs) ∧ FsR T g H n o.fs fs
  inj : ∀ (n m : Nat) (p q : Addr × Addr), g.io[n]? = some p → g.io[m]? = some q → p.1 = q.1 → n = m
  na : ∀ (n : Nat) (o : Obj), st[n]? = some o → ∃ cd, T.G.cls.find o.cls = some cd ∧ cd.isExc = false ∧ ∀ p, p ∈ o.fs → p.1 ∈ cd.fields
  lam : g.lam = T.lam
  tb : TabsOk T g H
/-- a borrowed value: shared, or another's -/
def RelB (K : PySem.W.Frag) (g : Gh) (H : Hp) (w : W) (v : V) : Prop := RelZ K g H w v ∨ ∃ t, notFld t ∧ (∀ i, t ≠ some (.sl i)) ∧ RootO K g H t w v
theorem RelB.ext {K : PySem.W.Frag} {g g' : Gh} {H H' : Hp} {w : W} {v : V} (wf : Wf g H) (e : Ext g H g' H') (r : RelB K g H w v) : RelB K g' H' w v := by
  rcases r with r | ⟨t, n, i, r⟩
  · exact .inl (r.mo (e.mo wf))
  · exact .inr ⟨t, n, i, r.ext wf e n⟩
theorem RelB.r {K : PySem.W.Frag} {g : Gh} {H : Hp} {w : W} {v : V} (r : RelB K g H w v) : RelR K g H w v := by
  rcases r with r | ⟨t, n, i, r⟩
  · exact .inl r
  · exact .inr ⟨t, n, r⟩
/-- the slots -/
def SlR (T : Tb) (c : Cfg) (g : Gh) (H : Hp) (i : Nat) (w : W) (v : V) : Prop :=
  if i ∈ c.own then RelOw T.K g H i w v else if i ∈ c.bor then RelB T.K g H w v else RelZ T.K g H w v
structure RelF (T : Tb) (c : Cfg) (g : Gh) (H : Hp) (σE : Fr) (σ : L2.St) : Prop where
  len : σE.length = σ.length
  at_ : ∀ (i : Nat) (w : W), σE[i]? = some (some w) → ∃ v, σ[i]? = some (some v) ∧ SlR T c g H i w v
section
variable {T : Tb} {c : Cfg} {g g' : Gh} {H H' : Hp} {σE : Fr} {σ : L2.St}
theorem SlR.ext {i : Nat} {w : W} {v : V} (wf : Wf g H) (e : Ext g H g' H') (r : SlR T c g H i w v) : SlR T c g' H' i w v := by
  unfold SlR at r ⊢
  split
  · rename_i h; rw [if_pos h] at r; exact r.ext wf e
  · rename_i h; rw [if_neg h] at r
    split
    · rename_i h2; rw [if_pos h2] at r
      exact r.ext wf e
    · rename_i h2; rw [if_neg h2] at r; exact r.mo (e.mo wf)
theorem SlR.r {i : Nat} {w : W} {v : V} (r : SlR T c g H i w v) : RelR T.K g H w v := by
  unfold SlR at r
  split at r
  · exact r.r
  · split at r
    · exact r.r
    · exact .inl r
theorem RelF.ext (wf : Wf g H) (e : Ext g H g' H') (r : RelF T c g H σE σ) : RelF T c g' H' σE σ :=
  ⟨r.len, fun i w h => let ⟨v, h1, h2⟩ := r.at_ i w h; ⟨v, h1, h2.ext wf e⟩⟩
theorem TabsOk.ow {T : Tb} {g g' : Gh} {H : Hp} (r : TabsOk T g H) (k : ∀ p n f, g.ow p = some (.fld n f) → g'.ow p = some (.fld n f)) : TabsOk T g' H := ⟨r.t, fun p m => let ⟨n, f, q⟩ := r.o p m; ⟨n, f, k _ n f q⟩⟩
theorem TabsOk.upd {T : Tb} {g : Gh} {H : Hp} {D : Addr} {o0 o : HO} (r : TabsOk T g H) (hf : notFld (g.ow D)) (hD : H D = some o0) (hx : ∀ φ, o0 ≠ .ext φ) : TabsOk T g (L2.upd H D o) :=
  ⟨fun p m => by
    obtain ⟨ps, h1, h2, h3⟩ := r.t p m
    obtain ⟨n, f, q⟩ := r.o p m
    refine ⟨ps, by rw [upd_ne (fun z => hf n f (by rw [← z]; exact q))]; exact h1, h2, fun pos cv hc => ?_⟩
    obtain ⟨c, e1, e2⟩ := h3 pos cv hc
    exact ⟨c, e1, by rw [upd_ne (fun z => by rw [z, hD] at e2; exact hx _ (Option.some.inj e2))]; exact e2⟩, r.o⟩
theorem FldR.put {n f : Nat} {w : W} {v : V} {a : Addr} {t : Tag} (h : g.ow a = none) (r : FldR T g H n f w v) : FldR T (g.put a t) H n f w v := by
  rcases r with r | ⟨o, r⟩
  · exact .inl (r.mo (put_mo h))
  · refine .inr ⟨o, ?_⟩
    cases r with
    | @lst b vs ws h1 h2 h3 => exact .lst h1 (by rw [Gh.put_ne (fun z => by rw [z, h] at h2; cases h2)]; exact h2) (h3.mo (put_mo h))
    | @dic b kvs ks ws h1 h2 k h3 => exact .dic h1 (by rw [Gh.put_ne (fun z => by rw [z, h] at h2; cases h2)]; exact h2) k (h3.mo (put_mo h))
theorem FsR.put {n : Nat} {a : Addr} {t : Tag} (h : g.ow a = none) : ∀ {fs : List (Nat × W)} {vs : List (Str × V)}, FsR T g H n fs vs → FsR T (g.put a t) H n fs vs
  | _, _, .nil => .nil
  | _, _, .cons r rs => .cons (r.put h) (FsR.put h rs)
theorem RelSt.put {st : Sto} {a : Addr} {t : Tag} (h : g.ow a = none) (r : RelSt T g st H) : RelSt T (g.put a t) st H :=
  ⟨r.len, fun n o e => let ⟨x, dx, fs, h1, h2, h3⟩ := r.ob n o e; ⟨x, dx, fs, h1, h2, h3.put h⟩, r.inj, r.na, r.lam, r.tb.ow fun p n f q => by rw [Gh.put_ne (fun z => by rw [z, h] at q; cases q)]; exact q⟩
/-- the heap grows, or changes where no object of ours stands -/
theorem FldR.mo {n f : Nat} {w : W} {v : V} (m : Mo T.K g H g H') (k : ∀ a o, H a = some o → g.ow a = some (.fld n f) → H' a = some o) (r : FldR T g H n f w v) : FldR T g H' n f w v := by
  rcases r with r | ⟨o, r⟩
  · exact .inl (r.mo m)
  · refine .inr ⟨o, ?_⟩
    cases r with
    | @lst b vs ws h1 h2 h3 => exact .lst (k _ _ h1 h2) h2 (h3.mo m)
    | @dic b kvs ks ws h1 h2 e h3 => exact .dic (k _ _ h1 h2) h2 e (h3.mo m)
theorem FsR.mo {n : Nat} (m : Mo T.K g H g H') (k : ∀ a o f, H a = some o → g.ow a = some (.fld n f) → H' a = some o) : ∀ {fs : List (Nat × W)} {vs : List (Str × V)}, FsR T g H n fs vs → FsR T g H' n fs vs
  | _, _, .nil => .nil
  | _, _, .cons r rs => .cons (r.mo m fun a o h t => k a o _ h t) (FsR.mo m k rs)
theorem RelSt.same {st : Sto} (k : ∀ a o, H a = some o → H' a = some o) (r : RelSt T g st H) : RelSt T g st H' :=
  ⟨r.len, fun n o e => let ⟨x, dx, fs, h1, h2, h3⟩ := r.ob n o e; ⟨x, dx, fs, h1, k _ _ h2, h3.mo ⟨fun _ h => h, fun a o h _ => k a o h, fun a o u h => k _ _ h, fun a xs h => k _ _ h, fun _ _ h => h, rfl, fun a φ h => k _ _ h⟩ fun a o _ h _ => k a o h⟩, r.inj, r.na, r.lam, ⟨r.tb.t.ext k, r.tb.o⟩⟩
theorem RelSt.new {st : Sto} {p : Addr} {o : HO} (h : H p = none) (r : RelSt T g st H) : RelSt T g st (upd H p o) := r.same fun a u e => by rw [upd_ne (ne_of_none e h)]; exact e
end

/-! ### what is wanted -/
/-- an exception's own fields -/
def RelPl (T : Tb) (pl : List (Nat × W)) (g : Gh) (H : Hp) (dd : Option Addr) : Prop :=
  match pl with
  | [] => dd = none
  | [(f, w)] => ∃ d v, dd = some d ∧ H d = some (.xd [(T.nm f, v)]) ∧ RelZ T.K g H w v
  | _ => False
def Po {α : Type} (T : Tb) (g : Gh) (H : Hp) (W : WX) (σ : L2.St) (P : α → Sto → Gh → Hp → Prop) : R α → Prop
  | .ok a st' => ∀ g' H', Ext g H g' H' → Wf g' H' → RelSt T g' st' H' → P a st' g' H'
  | .exc ci pl st' => ∀ g' H' dd, Ext g H g' H' → Wf g' H' → RelSt T g' st' H' → RelPl T pl g' H' dd → W (.ref (T.ca ci)) dd σ H'
  | .err => False
theorem Po.mono {α : Type} {T : Tb} {g : Gh} {H : Hp} {W : WX} {σ : L2.St} {P P' : α → Sto → Gh → Hp → Prop} {r : R α} (h : Po T g H W σ P r)
    (k : ∀ a st' g' H', Ext g H g' H' → Wf g' H' → RelSt T g' st' H' → P a st' g' H' → P' a st' g' H') : Po T g H W σ P' r := by
  cases r with
  | ok a st => exact fun g' H' e wf rs => k a st g' H' e wf rs (h g' H' e wf rs)
  | exc c pl st => exact h
  | err => exact h
theorem Po.bind {α β : Type} {T : Tb} {g : Gh} {H : Hp} {W : WX} {σ : L2.St} {P : β → Sto → Gh → Hp → Prop} {r : R α} {f : α → Sto → R β} (h : Po T g H W σ P (r.bind f)) :
    Po T g H W σ (fun a st' g' H' => Po T g' H' W σ P (f a st')) r := by
  cases r with
  | ok a st =>
    intro g' H' e wf rs
    have h : Po T g H W σ P (f a st) := h
    show Po T g' H' W σ P (f a st)
    cases q : f a st with
    | ok b st' => rw [q] at h; exact fun g2 H2 e2 wf2 rs2 => h g2 H2 (e.trans e2) wf2 rs2
    | exc c pl st' => rw [q] at h; exact fun g2 H2 dd e2 wf2 rs2 => h g2 H2 dd (e.trans e2) wf2 rs2
    | err => rw [q] at h; exact h
  | exc c pl st => exact h
  | err => exact h
theorem Po.ok {α : Type} {T : Tb} {g : Gh} {H : Hp} {W : WX} {σ : L2.St} {P : α → Sto → Gh → Hp → Prop} {a : α} {st : Sto} (h : Po T g H W σ P (.ok a st)) (wf : Wf g H) (rs : RelSt T g st H) : P a st g H := h g H .refl wf rs
theorem Po.o2r {α : Type} {T : Tb} {g : Gh} {H : Hp} {W : WX} {σ : L2.St} {P : α → Sto → Gh → Hp → Prop} {o : Option α} {st : Sto} (h : Po T g H W σ P (o2r o st)) (wf : Wf g H) (rs : RelSt T g st H) : ∃ a, o = some a ∧ ∀ g' H', Ext g H g' H' → Wf g' H' → RelSt T g' st H' → P a st g' H' := by
  cases o with
  | none => exact h.elim
  | some a => exact ⟨a, rfl, h⟩

/-! ### where code stands -/
def RelK (K : PySem.W.Frag) (k : Kn) (H0 : Hp) (g : Gh) (H : Hp) (w : W) (v : V) : Prop :=
  match k with
  | .lk => RelZ K g H w v
  | .fr => RelFr K H0 g H w v
  | .bo => RelR K g H w v
/-- arguments: m tells whether it may be a borrowed one -/
inductive RelMs (K : PySem.W.Frag) (g : Gh) (H : Hp) : List Bool → List W → List V → Prop
  | nil {ms : List Bool} : RelMs K g H ms [] []
  | cons {m : Bool} {ms : List Bool} {w : W} {v : V} {ws : List W} {vs : List V} : (if m = true then RelR K g H w v else RelZ K g H w v) → RelMs K g H ms ws vs → RelMs K g H (m :: ms) (w :: ws) (v :: vs)
  | more {w : W} {v : V} {ws : List W} {vs : List V} : RelZ K g H w v → RelMs K g H [] ws vs → RelMs K g H [] (w :: ws) (v :: vs)
/-- a def's promise, by the evaluator -/
def spF (T : Tb) (d f : Nat) (fd : FDef) : Sp := fun vs H Q E => vs.length = fd.np ∧ ∃ (n : Nat) (st : Sto) (g : Gh) (ws : List W), Wf g H ∧ RelSt T g st H ∧ (∀ a i, g.ow a ≠ some (.sl i)) ∧
  (∀ (i : Nat) (w : W), ws[i]? = some w → ∃ v, vs[i]? = some v ∧ (if i ∈ fd.bor then RelB T.K g H w v else RelZ T.K g H w v)) ∧ ws.length = vs.length ∧
  Po T g H (fun c dd _ H' => E c dd H') [] (fun w st' g' H' => ∀ v, RelK T.K (if fd.fr then .fr else .lk) H g' H' w v → Q v H') (evF T.G n d f ws st)
/-- a lambda's promise -/
def LamS (T : Tb) (P : Program) (w : World) (base : Heap) (k m : Nat) : Prop := ∀ (ld : LDef), T.G.lam.find m = some ld → ∀ (A : Around) (outer : List Env) (s : Shared) (H : Hp) (us : List Value) (vs : List V) (Q : VK) (E : XK) (f c : Addr) (L : LamD) (n : Nat) (st : Sto) (g : Gh) (ws : List W), Room k A → Env0 P w T.K T.mg base A outer s H → T.lam m = some L → H f = some (LamO L f c) → H c = some (LamX.CodeO c L.q) → Vals vs us →
  Wf g H → RelSt T g st H → (∀ a i, g.ow a ≠ some (.sl i)) → RelZs T.K g H ws vs → Po T g H (fun c dd _ H' => E c dd H') [] (fun w st' g' H' => ∀ v, RelZ T.K g' H' w v → Q v H') (evL T.G n k m ws st) → codeAny (model P w) A (.call (.ref f) ⟨us, []⟩) (CR (L2.CX P w) outer P w H s Q E) s
structure FnS (T : Tb) (P : Program) (w : World) (base : Heap) (d f : Nat) (fd : FDef) : Prop where
  ex : ∃ (fdt : FuncData) (ps : List Str), PySem.W.keepIn T.K (.ref (T.fa f)) = true ∧ Binds T.K fdt ps [] ∧ ps.length = fd.np ∧ FnOk P w T.K T.mg base (L2.CX P w) d (T.fa f) fdt ps (spF T d f fd)
/-- what is known of a class of the text -/
structure ClsS (T : Tb) (ci : Nat) (cd : CDef) : Prop where
  cl : cd.isExc = false → Cls T.K (T.ca ci)
  inj : ∀ f g, f ∈ cd.fields → g ∈ cd.fields → T.nm f = T.nm g → f = g
  na : ∀ f, f ∈ cd.fields → NoAttr T.K (T.ca ci) (T.nm f)
  meth : ∀ m f, cd.meths.lookup m = some f → Meth T.K (T.ca ci) (T.nm m) (T.fa f) ∧ (∀ g, g ∈ cd.fields → T.nm g ≠ T.nm m) ∧ ∃ fd, T.G.fn.find f = some fd
  tyo : cd.isExc = false → ∀ (H : Hp) (a dx : Addr) (fs : List (Str × V)), H a = some (.ins (T.ca ci) dx fs) → TyOf T.K H (.ref a) (.ref (T.ca ci))
  isi : cd.isExc = false → ∀ ci' cd', T.G.cls.find ci' = some cd' → PySem.W.kitOne T.K (.ref (T.ca ci')) (.ref (T.ca ci)) = some (Nat.beq ci' ci)
  isb : cd.isExc = false → ∀ t, t ∈ ["NoneType", "bool", "int", "str", "tuple", "list", "dict"] → PySem.W.kitOne T.K (.type t) (.ref (T.ca ci)) = some false
  eq0 : T.nm 0 = "__eq__"
  ne : cd.isExc = false → PySem.W.findIn T.K (.ref (T.ca ci)) "__ne__" = some (some (.builtin "object.__ne__")) ∧ PySem.W.mroIn T.K (T.ca ci) (.type "object") = some true
  nf : cd.isExc = false → ∀ ci' cd', T.G.cls.find ci' = some cd' → cd'.isExc = false → PySem.W.notFirst T.K (T.ca ci) (.ref (T.ca ci')) = true
  made : ∀ f, cd.init = some f → cd.isExc = false ∧ Mk T.K (T.ca ci) (T.fa f) ∧ ∃ fd, T.G.fn.find f = some fd
structure CtxOk (T : Tb) (d : Nat) (c : Cfg) (X : Cx) : Prop where
  hN : X.N = c.N
  nd : c.N.Nodup
  calm : X.calm = true
  room : Room d X.A
  hK : X.K = T.K
  hm : X.mg = T.mg
  sc : X.env.scope = c.sc
  fns : ∀ k, k ≤ d → ∀ f fd, T.G.fn.find f = some fd → FnS T X.prog X.w X.base k f fd
  cls : ∀ ci cd, T.G.cls.find ci = some cd → ClsS T ci cd
  fnc : c.fn = true → ∀ x, X.fn x = true
  lams : ∀ k, k ≤ d → ∀ m, LamS T X.prog X.w X.base k m
  lq : ∀ q, c.lq = some q → q = X.env.qual ++ "<lambda>" ∧ ∃ cA Pt, X.env.code = .ref cA ∧ LamX.TabB X.base X.mg cA Pt ∧ (Pt, q) ∈ T.tabs ∧ ∀ p, p ∈ T.tabs → p.1 = Pt → p.2 = q
structure At (T : Tb) (d : Nat) (c : Cfg) (X : Cx) (W : WX) (g : Gh) (st : Sto) (H : Hp) (σE : Fr) (σ : L2.St) : Prop where
  ctx : CtxOk T d c X
  tk : Takes X W
  wf : Wf g H
  rst : RelSt T g st H
  rf : RelF T c g H σE σ
theorem At.ext {T : Tb} {d : Nat} {c : Cfg} {X : Cx} {W : WX} {g g' : Gh} {st st' : Sto} {H H' : Hp} {σE : Fr} {σ : L2.St} (a : At T d c X W g st H σE σ) (e : Ext g H g' H') (wf : Wf g' H') (rs : RelSt T g' st' H') : At T d c X W g' st' H' σE σ :=
  ⟨a.ctx, a.tk, wf, rs, a.rf.ext a.wf e⟩
end Pv
end

section
set_option Elab.async false
set_option linter.all false
set_option maxRecDepth 100000
namespace Pv
open PySem PySem.Spec PyProof.Rows L2

def bopOf : Bo → Operator
  | .add => .Add | .sub => .Sub | .mul => .Mult | .rep => .Mult | .mod => .Mod | .fdiv => .FloorDiv | .pow => .Pow
def copOf : Co → CmpOp
  | .eq => .Eq | .ne => .NotEq | .lt => .Lt | .le => .LtE | .gt => .Gt | .ge => .GtE | .isN => .Is | .notN => .IsNot | .mem => .In | .nmem => .NotIn
def VisS (sc : Scope) (x : Str) : Prop := sc.names.lookup x = some .local ∨ sc.names.lookup x = some .cell ∨ sc.names.lookup x = some .free
def LocS (sc : Scope) (x : Str) : Prop := sc.names.lookup x = some .local ∨ sc.names.lookup x = some .cell
/-- a global name of the def -/
def GlS (sc : Scope) (x : Str) : Prop := sc.names.lookup x = some .globalImplicit ∧ (x == ("__debug__" : Str)) = false
def tv : Ex → Bool
  | .not _ | .and _ | .or _ => false
  | _ => true
def ti : Ex → Bool
  | .bf b _ => match b with | .range | .zip | .enum | .comb => false | _ => true
  | .bm m _ _ => match m with | .items => false | _ => true
  | .scomp _ _ => false
  | _ => true
/-- what may stand as a test by its value alone -/
def plainT : Expr → Bool
  | .UnaryOp .Not _ _ | .BoolOp _ _ _ | .IfExp _ _ _ _ | .Compare _ _ _ _ => false
  | _ => true
def notSet : Expr → Bool
  | .Set _ _ _ => false
  | _ => true
/-- a built-in's name, its value -/
inductive BfV : Bf → Str → Value → Prop
  | len : BfV .len "len" (.builtin "len")
  | all : BfV .all "all" (.builtin "all")
  | any : BfV .any "any" (.builtin "any")
  | list : BfV .list "list" (.type "list")
  | tuple : BfV .tuple "tuple" (.type "tuple")
  | int : BfV .int "int" (.type "int")
def notCall : Expr → Bool
  | .Call _ _ _ _ => false
  | _ => true
def clsName : Kd → Option String
  | .int => some "int" | .bool => some "bool" | .str => some "str" | .tuple => some "tuple" | .list => some "list" | .cls _ => none
mutual
inductive TrE (T : Tb) : Cfg → Expr → Ex → Prop
  | v {c : Cfg} {id : Str} {pos : Pos} {i : Nat} : c.N[i]? = some id → VisS c.sc id → (id == ("__debug__" : Str)) = false → (id == ("__classdict__" : Str)) = false → i ∉ c.own → i ∉ c.bor → TrE T c (.Name id pos) (.v i)
  | mv {c : Cfg} {id : Str} {pos : Pos} {i : Nat} : c.N[i]? = some id → VisS c.sc id → (id == ("__debug__" : Str)) = false → (id == ("__classdict__" : Str)) = false → i ∉ c.own → i ∉ c.bor → TrE T c (.Name id pos) (.mv i)
  | o {c : Cfg} {id : Str} {pos : Pos} {i : Nat} : c.N[i]? = some id → VisS c.sc id → (id == ("__debug__" : Str)) = false → (id == ("__classdict__" : Str)) = false → TrE T c (.Name id pos) (.o i)
  | kInt {c : Cfg} {i : Int} {j : Nat} {pos : Pos} : TrE T c (.Constant (.int i) j pos) (.k (.int i))
  | kBl {c : Cfg} {b : Bool} {j : Nat} {pos : Pos} : TrE T c (.Constant (.bool b) j pos) (.k (.bl b))
  | kNon {c : Cfg} {j : Nat} {pos : Pos} : TrE T c (.Constant .none j pos) (.k .non)
  | kStr {c : Cfg} {x : Str} {j : Nat} {pos : Pos} : TrE T c (.Constant (.str x) j pos) (.k (.str x))
  | tup {c : Cfg} {es : List Expr} {xs : List Ex} {j : Nat} {pos : Pos} : TrEs T c [] es xs → es.length ≤ 1000 → TrE T c (.Tuple es j pos) (.tup xs)
  | lst {c : Cfg} {es : List Expr} {xs : List Ex} {pos : Pos} : TrEs T c [] es xs → es.length ≤ 1000 → TrE T c (.List es pos) (.lst xs)
  | bin {c : Cfg} {op : Bo} {a b : Expr} {x y : Ex} {pos : Pos} : TrE T c a x → TrE T c b y → (op = .rep → kn T x = .fr) → TrE T c (.BinOp a (bopOf op) b pos) (.bin op x y)
  | neg {c : Cfg} {a : Expr} {x : Ex} {pos : Pos} : TrE T c a x → TrE T c (.UnaryOp .USub a pos) (.neg x)
  | cmp {c : Cfg} {op : Co} {a b : Expr} {x y : Ex} {pos : Pos} : TrE T c a x → TrE T c b y → behindInMarks (copOf op) b = false → TrE T c (.Compare a [copOf op] [b] pos) (.cmp op x y)
  | cmp2 {c : Cfg} {op op' : Co} {a b e : Expr} {x y z : Ex} {pos : Pos} : TrE T c a x → TrE T c b y → TrE T c e z → behindInMarks (copOf op') e = false → TrE T c (.Compare a [copOf op, copOf op'] [b, e] pos) (.cmp2 op op' x y z)
  | and {c : Cfg} {es : List Expr} {xs : List Ex} {pos : Pos} : TrEs T c [] es xs → TrE T c (.BoolOp .And es pos) (.and xs)
  | or {c : Cfg} {es : List Expr} {xs : List Ex} {pos : Pos} : TrEs T c [] es xs → TrE T c (.BoolOp .Or es pos) (.or xs)
  | not {c : Cfg} {a : Expr} {x : Ex} {pos : Pos} : TrE T c a x → TrE T c (.UnaryOp .Not a pos) (.not x)
  | ite {c : Cfg} {t a b : Expr} {z x y : Ex} {pos : Pos} : TrT T c t z → TrE T c a x → TrE T c b y → isO x = false → isO y = false → TrE T c (.IfExp t a b pos) (.ite z x y)
  | call {c : Cfg} {f : Nat} {fd : FDef} {e : Expr} {es : List Expr} {x : Ex} {xs : List Ex} {p pos : Pos} : T.G.fn.find f = some fd → GlS c.sc (T.nm f) → T.mg (T.nm f) = some (.ref (T.fa f)) → TrEs T c ((List.range fd.np).map fun i => decide (i ∈ fd.bor)) (e :: es) (x :: xs) → TrE T c (.Call (.Name (T.nm f) p) (e :: es) [] pos) (.call f (x :: xs))
  | call0 {c : Cfg} {f : Nat} {fd : FDef} {p pos : Pos} : T.G.fn.find f = some fd → GlS c.sc (T.nm f) → T.mg (T.nm f) = some (.ref (T.fa f)) → TrE T c (.Call (.Name (T.nm f) p) [] [] pos) (.call f [])
  | bf {c : Cfg} {b : Bf} {nm : Str} {u : Value} {e : Expr} {x : Ex} {p pos : Pos} : BfV b nm u → GlS c.sc nm → T.mg nm = none → TrE T c e x → TrE T c (.Call (.Name nm p) [e] [] pos) (.bf b [x])
  | isi1 {c : Cfg} {k : Kd} {nm : String} {e : Expr} {x : Ex} {p p2 pos : Pos} : clsName k = some nm → GlS c.sc "isinstance" → T.mg "isinstance" = none → GlS c.sc (Str.ofString nm) → T.mg (Str.ofString nm) = none → TrE T c e x →
      TrE T c (.Call (.Name "isinstance" p) [e, .Name (Str.ofString nm) p2] [] pos) (.isi x [k])
  | g {c : Cfg} {id : Nat} {w : W} {v : V} {u : Value} {pos : Pos} : GlS c.sc (T.nm id) → T.G.con.find id = some w → T.mg (T.nm id) = some u → RelV v u → (∀ g H, RelZ T.K g H w v) → TrE T c (.Name (T.nm id) pos) (.g id)
  | isiC {c : Cfg} {ci : Nat} {cd : CDef} {e : Expr} {x : Ex} {p p2 pos : Pos} : GlS c.sc "isinstance" → T.mg "isinstance" = none → GlS c.sc (T.nm ci) → T.mg (T.nm ci) = some (.ref (T.ca ci)) → T.G.cls.find ci = some cd → cd.isExc = false → TrE T c e x →
      TrE T c (.Call (.Name "isinstance" p) [e, .Name (T.nm ci) p2] [] pos) (.isi x [.cls ci])
  | isi2 {c : Cfg} {k1 k2 : Kd} {n1 n2 : String} {j : Nat} {e : Expr} {x : Ex} {p p1 p2 p3 pos : Pos} : clsName k1 = some n1 → clsName k2 = some n2 → GlS c.sc "isinstance" → T.mg "isinstance" = none → GlS c.sc (Str.ofString n1) → T.mg (Str.ofString n1) = none → GlS c.sc (Str.ofString n2) → T.mg (Str.ofString n2) = none → TrE T c e x →
      TrE T c (.Call (.Name "isinstance" p) [e, .Tuple [.Name (Str.ofString n1) p1, .Name (Str.ofString n2) p2] j p3] [] pos) (.isi x [k1, k2])
  | att {c : Cfg} {f : Nat} {e : Expr} {x : Ex} {pos : Pos} : TrE T c e x → notCall e = true → T.ownF f = false → TrE T c (.Attribute e (T.nm f) pos) (.att x f)
  | make {c : Cfg} {ci : Nat} {e : Expr} {es : List Expr} {x : Ex} {xs : List Ex} {p pos : Pos} : GlS c.sc (T.nm ci) → T.mg (T.nm ci) = some (.ref (T.ca ci)) → PySem.W.keepIn T.K (.ref (T.ca ci)) = true → TrEs T c [] (e :: es) (x :: xs) → TrE T c (.Call (.Name (T.nm ci) p) (e :: es) [] pos) (.make ci (x :: xs))
  | meth {c : Cfg} {m : Nat} {o : Expr} {y : Ex} {es : List Expr} {xs : List Ex} {p pos : Pos} : TrE T c o y → notCall o = true → (p.endLine == pos.line) = true → es.length < 30 → TrEs T c [] es xs → TrE T c (.Call (.Attribute o (T.nm m) p) es [] pos) (.meth y m xs)
  | ix {c : Cfg} {a b : Expr} {x y : Ex} {pos : Pos} : TrE T c a x → TrE T c b y → PlainIx b → TrE T c (.Subscript a b pos) (.ix x y)
  | sl {c : Cfg} {a : Expr} {lo hi : Option Expr} {x : Ex} {l h : Option Ex} {p2 pos : Pos} : TrE T c a x → TrO T c lo l → TrO T c hi h → TrE T c (.Subscript a (.Slice lo hi none p2) pos) (.sl x l h)
  | lam {c : Cfg} {m : Nat} {L : LamD} {pos : Pos} : c.lq = some L.q → T.lam m = some L → (∀ env : Env, defaultsOf L.params env = ([], [])) → noFree L.scope → TrE T c (.Lambda L.params L.body L.scope pos) (.lam m [])
  | cv {c : Cfg} {id : Str} {i : Nat} {e : Expr} {es : List Expr} {x : Ex} {xs : List Ex} {p pos : Pos} : c.N[i]? = some id → VisS c.sc id → (id == ("__debug__" : Str)) = false → (id == ("__classdict__" : Str)) = false → i ∉ c.own → i ∉ c.bor → TrEs T c [] (e :: es) (x :: xs) → TrE T c (.Call (.Name id p) (e :: es) [] pos) (.cv i (x :: xs))
  | comp {c : Cfg} {elt tg iter : Expr} {ifs : List Expr} {sc' : Scope} {own : List (Str × Nat)} {pos : Pos} {x : Ex} {t : Tg} {it : Ex} {is : List Ex} :
      TrI T c [] iter it → notSet iter = true → BlkOk c.N c.sc sc' own → own.map (·.2) = tgS t → TrTg T { c with sc := relS sc' c.sc, fn := false, lq := none } tg t → TrTs T { c with sc := relS sc' c.sc, fn := false, lq := none } ifs is → is.length ≤ 1 → TrE T { c with sc := relS sc' c.sc, fn := false, lq := none } elt x → isO x = false →
      TrE T c (.ListComp elt [⟨tg, iter, ifs, 0⟩] sc' pos) (.comp x [.mk t it is])
  | comp2 {c : Cfg} {elt tg iter tg1 iter1 : Expr} {ifs ifs1 : List Expr} {sc' : Scope} {own : List (Str × Nat)} {pos : Pos} {x : Ex} {t t1 : Tg} {it it1 : Ex} {is is1 : List Ex} :
      TrI T c [] iter it → notSet iter = true → BlkOk c.N c.sc sc' own → own.map (·.2) = tgS t ++ tgS t1 → c.N.length ∉ c.own → TrTg T { c with sc := relS sc' c.sc, fn := false, lq := none } tg t → TrTs T { c with sc := relS sc' c.sc, fn := false, lq := none } ifs is → is.length ≤ 1 →
      TrI T { c with sc := relS sc' c.sc, fn := false, lq := none } [c.N.length] iter1 it1 → notSet iter1 = true → TrTg T { c with sc := relS sc' c.sc, fn := false, lq := none } tg1 t1 → TrTs T { c with sc := relS sc' c.sc, fn := false, lq := none } ifs1 is1 → is1.length ≤ 1 → TrE T { c with sc := relS sc' c.sc, fn := false, lq := none } elt x → isO x = false →
      TrE T c (.ListComp elt [⟨tg, iter, ifs, 0⟩, ⟨tg1, iter1, ifs1, 0⟩] sc' pos) (.comp x [.mk t it is, .mk t1 it1 is1])
inductive TrEs (T : Tb) : Cfg → List Bool → List Expr → List Ex → Prop
  | nil {c : Cfg} {ms : List Bool} : TrEs T c ms [] []
  | cons {c : Cfg} {m : Bool} {ms : List Bool} {e : Expr} {x : Ex} {es : List Expr} {xs : List Ex} : TrE T c e x → (m = true ∨ isO x = false) → TrEs T c ms es xs → TrEs T c (m :: ms) (e :: es) (x :: xs)
  | more {c : Cfg} {e : Expr} {x : Ex} {es : List Expr} {xs : List Ex} : TrE T c e x → isO x = false → TrEs T c [] es xs → TrEs T c [] (e :: es) (x :: xs)
inductive TrO (T : Tb) : Cfg → Option Expr → Option Ex → Prop
  | none {c : Cfg} : TrO T c none none
  | some {c : Cfg} {e : Expr} {x : Ex} : TrE T c e x → TrO T c (some e) (some x)
inductive TrT (T : Tb) : Cfg → Expr → Ex → Prop
  | not {c : Cfg} {a : Expr} {x : Ex} {pos : Pos} : TrT T c a x → TrT T c (.UnaryOp .Not a pos) (.not x)
  | and {c : Cfg} {es : List Expr} {xs : List Ex} {pos : Pos} : TrTs T c es xs → es ≠ [] → TrT T c (.BoolOp .And es pos) (.and xs)
  | or {c : Cfg} {es : List Expr} {xs : List Ex} {pos : Pos} : TrTs T c es xs → es ≠ [] → TrT T c (.BoolOp .Or es pos) (.or xs)
  | cmp {c : Cfg} {a : Expr} {ops : List CmpOp} {bs : List Expr} {x : Ex} {pos : Pos} : TrE T c (.Compare a ops bs pos) x → tv x = true → TrT T c (.Compare a ops bs pos) x
  | val {c : Cfg} {e : Expr} {x : Ex} : TrE T c e x → plainT e = true → tv x = true → TrT T c e x
inductive TrTs (T : Tb) : Cfg → List Expr → List Ex → Prop
  | nil {c : Cfg} : TrTs T c [] []
  | cons {c : Cfg} {e : Expr} {x : Ex} {es : List Expr} {xs : List Ex} : TrT T c e x → TrTs T c es xs → TrTs T c (e :: es) (x :: xs)
/-- what is walked: meanwhile the slots M change -/
inductive TrI (T : Tb) : Cfg → List Nat → Expr → Ex → Prop
  | val {c : Cfg} {M : List Nat} {e : Expr} {x : Ex} : TrE T c e x → ti x = true → isO x = false → TrI T c M e x
  | own {c : Cfg} {M : List Nat} {id : Str} {pos : Pos} {i : Nat} : c.N[i]? = some id → VisS c.sc id → (id == ("__debug__" : Str)) = false → (id == ("__classdict__" : Str)) = false → i ∉ M → TrI T c M (.Name id pos) (.o i)
  | range1 {c : Cfg} {M : List Nat} {a : Expr} {x : Ex} {p pos : Pos} : GlS c.sc "range" → T.mg "range" = none → TrE T c a x → isO x = false → TrI T c M (.Call (.Name "range" p) [a] [] pos) (.bf .range [x])
inductive TrTg (T : Tb) : Cfg → Expr → Tg → Prop
  | nm {c : Cfg} {id : Str} {pos : Pos} {i : Nat} : c.N[i]? = some id → c.sc.names.lookup id = some .local → i ∉ c.own → i ∉ c.bor → TrTg T c (.Name id pos) (.nm i)
  | nmC {c : Cfg} {id : Str} {pos : Pos} {i : Nat} : c.N[i]? = some id → LocS c.sc id → c.fn = true → i ∉ c.own → i ∉ c.bor → TrTg T c (.Name id pos) (.nm i)
  | tu {c : Cfg} {es : List Expr} {ts : List Tg} {k : Nat} {pos : Pos} : TrTgs T c es ts → TrTg T c (.Tuple es k pos) (.tu ts)
inductive TrTgs (T : Tb) : Cfg → List Expr → List Tg → Prop
  | nil {c : Cfg} : TrTgs T c [] []
  | cons {c : Cfg} {e : Expr} {t : Tg} {es : List Expr} {ts : List Tg} : TrTg T c e t → TrTgs T c es ts → TrTgs T c (e :: es) (t :: ts)
end
end Pv
end

section
set_option Elab.async false
set_option linter.all false
set_option maxRecDepth 100000
namespace Pv
open PySem PySem.Spec PyProof.Rows L2

def SE (T : Tb) (n d : Nat) : Prop := ∀ (c : Cfg) (e : Expr) (x : Ex), TrE T c e x → ∀ (X : Cx) (W : WX) (g : Gh) (st : Sto) (H : Hp) (σE : Fr) (σ : L2.St) (Q : VK), At T d c X W g st H σE σ →
  Po T g H W σ (fun w st' g' H' => ∀ v, RelK T.K (kn T x) H g' H' w v → Q v H') (evE T.G n d σE st x) → wE X e σ H Q
def SEs (T : Tb) (n d : Nat) : Prop := ∀ (c : Cfg) (ms : List Bool) (es : List Expr) (xs : List Ex), TrEs T c ms es xs → ∀ (X : Cx) (W : WX) (g : Gh) (st : Sto) (H : Hp) (σE : Fr) (σ : L2.St) (Q : List V → Hp → Prop), At T d c X W g st H σE σ →
  Po T g H W σ (fun ws st' g' H' => ∀ vs, RelMs T.K g' H' ms ws vs → Q vs H') (evEs T.G n d σE st xs) → wA X es σ H Q
def wPart (X : Cx) (e : Option Expr) (σ : L2.St) (H : Hp) (Q : Option Int → Hp → Prop) : Prop := ∀ (pins : List (Addr × PySem.Obj)) (s : Shared), Inv X pins σ H s →
  wpAny (model X.prog X.w) X.A (evalPart e X.env) (fun u s' => ∃ o H', Inv X pins σ H' s' ∧ IsPart u o ∧ Q o H') X.xe s
theorem po_w {X : Cx} {e : Option Expr} : PO X e (wPart X e) := ⟨fun pins s σ H Q I h => h pins s I⟩
theorem _root_.L2.PO.w {X : Cx} {e : Option Expr} {t : TO} (h : PO X e t) {σ : L2.St} {H : Hp} {Q : Option Int → Hp → Prop} (ht : t σ H Q) : wPart X e σ H Q := fun pins s I => h.run pins s σ H Q I ht
def SO (T : Tb) (n d : Nat) : Prop := ∀ (c : Cfg) (e : Option Expr) (x : Option Ex), TrO T c e x → ∀ (X : Cx) (W : WX) (g : Gh) (st : Sto) (H : Hp) (σE : Fr) (σ : L2.St) (Q : Option Int → Hp → Prop), At T d c X W g st H σE σ →
  Po T g H W σ (fun o st' g' H' => Q o H') (evO T.G n d σE st x) → wPart X e σ H Q
def STt (T : Tb) (n d : Nat) : Prop := ∀ (c : Cfg) (e : Expr) (x : Ex), TrT T c e x → ∀ (X : Cx) (W : WX) (g : Gh) (st : Sto) (H : Hp) (σE : Fr) (σ : L2.St) (Q : Bool → Hp → Prop), At T d c X W g st H σE σ →
  Po T g H W σ (fun b st' g' H' => Q b H') (evT T.G n d σE st x) → wT X e σ H Q
/-- an iterator walks the values ws; meanwhile the slots M may change -/
def JOk (T : Tb) (M : List Nat) (J : It) (g1 : Gh) (H1 : Hp) (ws : List W) : Prop := ∀ (i : Nat) (g : Gh) (H : Hp), ExtM M g1 H1 g H → Wf g H →
  (∀ w, ws[i]? = some w → J.go i H ∧ ∀ x H', J.yld i H x H' → ∃ g', Ext g H g' H' ∧ Wf g' H' ∧ (∀ st, RelSt T g st H → RelSt T g' st H') ∧ RelZ T.K g' H' w x) ∧ (ws.length ≤ i → J.stop i H)
def SI (T : Tb) (n d : Nat) : Prop := ∀ (c : Cfg) (M : List Nat) (e : Expr) (x : Ex), TrI T c M e x → ∀ (tg : Expr) (X : Cx) (W : WX) (g : Gh) (st : Sto) (H : Hp) (σE : Fr) (σ : L2.St) (R : It → Hp → Prop), At T d c X W g st H σE σ →
  Po T g H W σ (fun ws st' g' H' => ∀ J, JOk T M J g' H' ws → R J H') (evI T.G n d σE st x) → wI X tg e σ H R

section
variable {T : Tb} {n d : Nat} {c : Cfg} {X : Cx} {W : WX} {g : Gh} {st : Sto} {H : Hp} {σE : Fr} {σ : L2.St} {e : Expr} {x : Ex}
theorem RelK.lk {k : Kn} (hk : k ≠ .bo) {g' : Gh} {H' : Hp} {st' : Sto} {w : Pv.W} {v : V} (wf : Wf g H) (e : Ext g H g' H') (wf' : Wf g' H') (rs : RelSt T g' st' H') (r : RelK T.K k H g' H' w v) :
    ∃ g'', Ext g H g'' H' ∧ Wf g'' H' ∧ RelSt T g'' st' H' ∧ RelZ T.K g'' H' w v := by
  cases k with
  | lk => exact ⟨g', e, wf', rs, r⟩
  | bo => exact absurd rfl hk
  | fr =>
    obtain ⟨g'', rz, h⟩ := RelFr.share wf' (show RelFr T.K H g' H' w v from r)
    rcases h with rfl | ⟨a, h1, h2, ⟨o, h3, h4⟩, rfl⟩
    · exact ⟨_, e, wf', rs, rz⟩
    · exact ⟨_, put_ext e h1 wf, put_wf wf' h3 h4, rs.put h2, rz⟩
theorem RelK.r {k : Kn} {g' : Gh} {H0 H' : Hp} {w : Pv.W} {v : V} (r : RelK T.K k H0 g' H' w v) : RelR T.K g' H' w v := by
  cases k with
  | lk => exact .inl r
  | bo => exact r
  | fr => exact RelFr.r (show RelFr T.K H0 g' H' w v from r)
theorem kn_bo : kn T x = .bo → isO x = true := by
  intro h
  cases x with
  | o i => rfl
  | call f es =>
    simp only [kn] at h
    split at h
    · split at h <;> exact nomatch h
    · exact nomatch h
  | bf b es => cases b <;> exact nomatch h
  | _ => exact nomatch h
theorem SE.lk' {P : Pv.W → Sto → Gh → Hp → Prop} {Q : VK} (se : SE T n d) (tr : TrE T c e x) (ho : isO x = false) (a : At T d c X W g st H σE σ) (h : Po T g H W σ P (evE T.G n d σE st x))
    (h2 : Po T g H W σ (fun w st' g' H' => ∀ g'', Ext g H g'' H' → Wf g'' H' → RelSt T g'' st' H' → P w st' g'' H') (evE T.G n d σE st x))
    (k : ∀ w st' g' H' v, At T d c X W g' st' H' σE σ → Ext g H g' H' → RelZ T.K g' H' w v → P w st' g' H' → Q v H') : wE X e σ H Q := by
  refine se c e x tr X W g st H σE σ Q a (h2.mono fun w st' g' H' ee wf rs hp v rv => ?_)
  obtain ⟨g'', e2, wf2, rs2, rz⟩ := RelK.lk (fun z => by have := kn_bo z; rw [ho] at this; cases this) a.wf ee wf rs rv
  exact k w st' g'' H' v (a.ext e2 wf2 rs2) e2 rz (hp g'' e2 wf2 rs2)
theorem Po.all {α : Type} {P : α → Sto → Gh → Hp → Prop} {r : R α} (h : Po T g H W σ P r) : Po T g H W σ (fun w st' g' H' => ∀ g'', Ext g H g'' H' → Wf g'' H' → RelSt T g'' st' H' → P w st' g'' H') r := by
  cases r with
  | ok b st => exact fun g' H' e wf rs g'' e2 wf2 rs2 => h g'' H' e2 wf2 rs2
  | exc c pl st => exact h
  | err => exact h
/-- the value is kept: shared from now on -/
theorem SE.lk {P : Pv.W → Sto → Gh → Hp → Prop} {Q : VK} (se : SE T n d) (tr : TrE T c e x) (ho : isO x = false) (a : At T d c X W g st H σE σ) (h : Po T g H W σ P (evE T.G n d σE st x))
    (k : ∀ w st' g' H' v, At T d c X W g' st' H' σE σ → Ext g H g' H' → RelZ T.K g' H' w v → P w st' g' H' → Q v H') : wE X e σ H Q := se.lk' tr ho a h h.all k
/-- the value is only read -/
theorem SE.bo {P : Pv.W → Sto → Gh → Hp → Prop} {Q : VK} (se : SE T n d) (tr : TrE T c e x) (a : At T d c X W g st H σE σ) (h : Po T g H W σ P (evE T.G n d σE st x))
    (k : ∀ w st' g' H' v, At T d c X W g' st' H' σE σ → Ext g H g' H' → RelR T.K g' H' w v → P w st' g' H' → Q v H') : wE X e σ H Q := by
  refine se c e x tr X W g st H σE σ Q a (h.mono fun w st' g' H' ee wf rs hp v rv => ?_)
  exact k w st' g' H' v (a.ext ee wf rs) ee (RelK.r rv) hp
end

/-! ### what a readable value is -/
section
variable {K : PySem.W.Frag} {g : Gh} {H : Hp} {v : V}
theorem RelR.int {i : Int} (r : RelR K g H (.int i) v) : v = .int i := by
  rcases r with r | ⟨t, _, r⟩ <;> cases r; rfl
theorem RelR.bl {b : Bool} (r : RelR K g H (.bl b) v) : v = .bl b := by
  rcases r with r | ⟨t, _, r⟩ <;> cases r; rfl
theorem RelR.str {x : Str} (r : RelR K g H (.str x) v) : v = .str x := by
  rcases r with r | ⟨t, _, r⟩ <;> cases r; rfl
theorem RelR.non (r : RelR K g H .non v) : v = .non := by
  rcases r with r | ⟨t, _, r⟩ <;> cases r; rfl
theorem RelR.tup {ws : List W} (r : RelR K g H (.tup ws) v) : ∃ a vs, v = .ref a ∧ SqT K H a vs ∧ RelZs K g H ws vs := by
  rcases r with r | ⟨t, _, r⟩
  · cases r with | tup h r => exact ⟨_, _, rfl, h, r⟩
  · cases r
theorem RelR.lst {ws : List W} (r : RelR K g H (.lst ws) v) : ∃ a vs, v = .ref a ∧ SqL K H a vs ∧ RelZs K g H ws vs := by
  rcases r with r | ⟨t, _, r⟩
  · cases r with | lst h r => exact ⟨_, _, rfl, h.sq, r⟩
  · cases r with | lst h q r => exact ⟨_, _, rfl, .of h, r⟩
theorem RelR.dic {ks ws : List W} (r : RelR K g H (.dic ks ws) v) : ∃ a kvs, v = .ref a ∧ H a = some (.dK kvs) ∧ ks = kvs.map (fun p => kW p.1) ∧ RelZs K g H ws (kvs.map (·.2)) := by
  rcases r with r | ⟨t, _, r⟩
  · cases r with | dic h q k r => exact ⟨_, _, rfl, h, k, r⟩
  · cases r with | dic h q k r => exact ⟨_, _, rfl, h, k, r⟩
theorem isC_int {i : Int} : isC (.int i) = false := rfl
theorem fr_of {H0 : Hp} {w : W} (h : isC w = false) (r : RelZ K g H w v) : RelFr K H0 g H w v := .inl ⟨h, r⟩
end

/-! ### names, constants -/
section
variable {T : Tb} {n d : Nat} {c : Cfg} {X : Cx} {W : WX} {g : Gh} {st : Sto} {H : Hp} {σE : Fr} {σ : L2.St} {Q : VK}
theorem getv_some {i : Nat} {P : Pv.W → Sto → Gh → Hp → Prop} (h : Po T g H W σ P (getv σE i st)) : ∃ w, σE[i]? = some (some w) ∧ Po T g H W σ P (.ok w st) := by
  unfold getv at h
  split at h
  · rename_i w e; exact ⟨w, e, h⟩
  · exact h.elim
theorem s_v {id : Str} {pos : Pos} {i : Nat} (h1 : c.N[i]? = some id) (h2 : VisS c.sc id) (h3 : (id == ("__debug__" : Str)) = false) (h4 : (id == ("__classdict__" : Str)) = false) (h5 : i ∉ c.own) (h6 : i ∉ c.bor) (a : At T d c X W g st H σE σ)
    (h : Po T g H W σ (fun w st' g' H' => ∀ v, RelZ T.K g' H' w v → Q v H') (getv σE i st)) : wE X (.Name id pos) σ H Q := by
  obtain ⟨w, e, h⟩ := getv_some h
  obtain ⟨v, e2, r⟩ := a.rf.at_ i w e
  unfold SlR at r
  rw [if_neg h5, if_neg h6] at r
  refine (pe_var (i := i) (by rw [a.ctx.hN]; exact h1) (by rw [a.ctx.sc]; exact h2) h3 h4).w ⟨v, e2, h.ok a.wf a.rst v r⟩
theorem s_o {id : Str} {pos : Pos} {i : Nat} (h1 : c.N[i]? = some id) (h2 : VisS c.sc id) (h3 : (id == ("__debug__" : Str)) = false) (h4 : (id == ("__classdict__" : Str)) = false) (a : At T d c X W g st H σE σ)
    (h : Po T g H W σ (fun w st' g' H' => ∀ v, RelR T.K g' H' w v → Q v H') (getv σE i st)) : wE X (.Name id pos) σ H Q := by
  obtain ⟨w, e, h⟩ := getv_some h
  obtain ⟨v, e2, r⟩ := a.rf.at_ i w e
  exact (pe_var (i := i) (by rw [a.ctx.hN]; exact h1) (by rw [a.ctx.sc]; exact h2) h3 h4).w ⟨v, e2, h.ok a.wf a.rst v r.r⟩
end
end Pv
end

section
set_option Elab.async false
set_option linter.all false
set_option maxRecDepth 100000
namespace Pv
open PySem PySem.Spec PyProof.Rows L2

theorem star_ok {T : Tb} {c : Cfg} {e : Expr} {x : Ex} (tr : TrE T c e x) (es : List Expr) (env : Env) : starEach (e :: es) env = (false, eval e env) :: starEach es env := by
  cases tr <;> rfl
theorem RelMs.length {K : PySem.W.Frag} {g : Gh} {H : Hp} : ∀ {ms : List Bool} {ws : List W} {vs : List V}, RelMs K g H ms ws vs → ws.length = vs.length
  | _, _, _, .nil => rfl
  | _, _, _, .cons _ t => by simp [RelMs.length t]
  | _, _, _, .more _ t => by simp [RelMs.length t]
theorem RelMs.z {K : PySem.W.Frag} {g : Gh} {H : Hp} : ∀ {ws : List W} {vs : List V}, RelMs K g H [] ws vs → RelZs K g H ws vs
  | _, _, .nil => .nil
  | _, _, .more h t => .cons h (RelMs.z t)
theorem TrEs.length {T : Tb} : ∀ {c : Cfg} {ms : List Bool} {es : List Expr} {xs : List Ex}, TrEs T c ms es xs → es.length = xs.length
  | _, _, _, _, .nil => rfl
  | _, _, _, _, .cons _ _ t => by simp [TrEs.length t]
  | _, _, _, _, .more _ _ t => by simp [TrEs.length t]
/-- a fact of the answer -/
theorem Po.fact {α : Type} {T : Tb} {g : Gh} {H : Hp} {W : WX} {σ : L2.St} {P : α → Sto → Gh → Hp → Prop} {r : R α} (h : Po T g H W σ P r) (F : α → Sto → Prop) (f : ∀ a st, r = .ok a st → F a st) : Po T g H W σ (fun a st' g' H' => F a st' ∧ P a st' g' H') r := by
  cases r with
  | ok a st => exact fun g' H' e wf rs => ⟨f a st rfl, h g' H' e wf rs⟩
  | exc c pl st => exact h
  | err => exact h
theorem R.bind_ok {α β : Type} {r : R α} {f : α → Sto → R β} {b : β} {st : Sto} (h : r.bind f = .ok b st) : ∃ a st', r = .ok a st' ∧ f a st' = .ok b st := by
  cases r with
  | ok a st' => exact ⟨a, st', rfl, h⟩
  | exc c pl st' => exact nomatch h
  | err => exact nomatch h
theorem evEs_len (G : Gb) (d : Nat) (σE : Fr) : ∀ (n : Nat) (xs : List Ex) (st : Sto) (ws : List W) (st' : Sto), evEs G n d σE st xs = .ok ws st' → ws.length = xs.length
  | 0, _, _, _, _, h => by simp [evEs] at h
  | n + 1, [], st, ws, st', h => by simp [evEs] at h; simp [h.1]
  | n + 1, x :: xs, st, ws, st', h => by
    simp only [evEs] at h
    obtain ⟨a, st1, h1, h2⟩ := R.bind_ok h
    obtain ⟨b, st2, h3, h4⟩ := R.bind_ok h2
    have := evEs_len G d σE n xs st1 b st2 h3
    injection h4 with h5 _
    rw [← h5]; simp [this]

section
variable {T : Tb} {n d : Nat}
theorem sEs_step (se : SE T n d) (ses : SEs T n d) : SEs T (n + 1) d := by
  intro c ms es xs tr X W g st H σE σ Q a h
  cases tr with
  | nil =>
    simp only [evEs] at h
    exact pa_nil.w (show Q [] H from h.ok a.wf a.rst [] .nil)
  | @cons _ m ms e x es xs te hm ts =>
    simp only [evEs] at h
    refine (pa_cons pe_w pa_w (star_ok te es X.env)).w ?_
    show wE X e σ H fun v H1 => wA X es σ H1 fun vs H2 => Q (v :: vs) H2
    cases m with
    | true =>
      refine se.bo te a h.bind fun w st1 g1 H1 v a1 e1 r1 h1 => ?_
      refine ses c ms es xs ts X W g1 st1 H1 σE σ _ a1 (h1.bind.mono fun ws st2 g2 H2 e2 wf2 rs2 h2 vs rv => ?_)
      exact h2.ok wf2 rs2 _ (.cons (by rw [if_pos rfl]; exact r1.ext a1.wf e2) rv)
    | false =>
      have ho : isO x = false := by rcases hm with z | z; cases z; exact z
      refine se.lk te ho a h.bind fun w st1 g1 H1 v a1 e1 r1 h1 => ?_
      refine ses c ms es xs ts X W g1 st1 H1 σE σ _ a1 (h1.bind.mono fun ws st2 g2 H2 e2 wf2 rs2 h2 vs rv => ?_)
      exact h2.ok wf2 rs2 _ (.cons (by rw [if_neg (by simp)]; exact r1.mo (e2.mo a1.wf)) rv)
  | @more _ e x es xs te ho ts =>
    simp only [evEs] at h
    refine (pa_cons pe_w pa_w (star_ok te es X.env)).w ?_
    show wE X e σ H fun v H1 => wA X es σ H1 fun vs H2 => Q (v :: vs) H2
    refine se.lk te ho a h.bind fun w st1 g1 H1 v a1 e1 r1 h1 => ?_
    refine ses c [] es xs ts X W g1 st1 H1 σE σ _ a1 (h1.bind.mono fun ws st2 g2 H2 e2 wf2 rs2 h2 vs rv => ?_)
    exact h2.ok wf2 rs2 _ (.more (r1.mo (e2.mo a1.wf)) rv)
theorem sO_step (se : SE T n d) : SO T (n + 1) d := by
  intro c e x tr X W g st H σE σ Q a h
  cases tr with
  | none =>
    simp only [evO] at h
    exact po_none.w (h.ok a.wf a.rst)
  | @some _ e x te =>
    simp only [evO] at h
    refine (po_some pe_w).w ?_
    show wE X e σ H fun v H1 => ∃ i, v = .int i ∧ Q (some i) H1
    refine se.bo te a h.bind fun w st1 g1 H1 v a1 e1 r1 h1 => ?_
    cases w with
    | int i => exact ⟨i, r1.int, h1.ok a1.wf a1.rst⟩
    | _ => exact h1.elim

variable {c : Cfg} {X : Cx} {W : WX} {g : Gh} {st : Sto} {H : Hp} {σE : Fr} {σ : L2.St} {Q : VK}
theorem small_line {k : Nat} (h : k ≤ 1000) : k ≤ sizeLine := by rw [sizeLine_eq]; omega
theorem s_tup (ses : SEs T n d) {es : List Expr} {xs : List Ex} {j : Nat} {pos : Pos} (ts : TrEs T c [] es xs) (hl : es.length ≤ 1000) (a : At T d c X W g st H σE σ)
    (h : Po T g H W σ (fun w st' g' H' => ∀ v, RelZ T.K g' H' w v → Q v H') ((evEs T.G n d σE st xs).bind fun ws st => .ok (.tup ws) st)) : wE X (.Tuple es j pos) σ H Q := by
  refine (pe_tup pa_w).w ?_
  show wA X es σ H fun vs H1 => vs.length ≤ sizeLine ∧ ∀ p, H1 p = none → Q (.ref p) (upd H1 p (.tup vs))
  refine ses c [] es xs ts X W g st H σE σ _ a ((h.bind.fact (fun ws _ => ws.length = xs.length) (fun ws st' q => evEs_len _ _ _ _ _ _ _ _ q)).mono fun ws st1 g1 H1 e1 wf1 rs1 ⟨hn, h1⟩ vs rv => ⟨small_line ?_, fun p hp => ?_⟩)
  · rw [← rv.length, hn, ← ts.length]; exact hl
  · exact h1 g1 _ (.new hp) (wf1.new hp) (rs1.new hp) _ (.tup (.of upd_same) (rv.z.mo ((Ext.new hp).mo wf1)))
theorem s_lst (ses : SEs T n d) {es : List Expr} {xs : List Ex} {pos : Pos} (ts : TrEs T c [] es xs) (hl : es.length ≤ 1000) (a : At T d c X W g st H σE σ)
    (h : Po T g H W σ (fun w st' g' H' => ∀ v, RelFr T.K H g' H' w v → Q v H') ((evEs T.G n d σE st xs).bind fun ws st => .ok (.lst ws) st)) : wE X (.List es pos) σ H Q := by
  refine (pe_lst pa_w).w ?_
  show wA X es σ H fun vs H1 => vs.length ≤ sizeLine ∧ ∀ p, H1 p = none → Q (.ref p) (upd H1 p (.lst vs))
  refine ses c [] es xs ts X W g st H σE σ _ a ((h.bind.fact (fun ws _ => ws.length = xs.length) (fun ws st' q => evEs_len _ _ _ _ _ _ _ _ q)).mono fun ws st1 g1 H1 e1 wf1 rs1 ⟨hn, h1⟩ vs rv => ⟨small_line ?_, fun p hp => ?_⟩)
  · rw [← rv.length, hn, ← ts.length]; exact hl
  · exact h1 g1 _ (.new hp) (wf1.new hp) (rs1.new hp) _ (.inr ⟨.lst upd_same (wf1.no hp) (rv.z.mo ((Ext.new hp).mo wf1)), fun b e => by cases e; exact e1.free hp⟩)

/-! ### operators -/
/-- xs + ys, lists that may be read -/
def rCatS (K : PySem.W.Frag) : R2 := fun x y H Q => ∃ l b xs zs, x = .ref l ∧ y = .ref b ∧ SqL K H l xs ∧ SqL K H b zs ∧ xs.length + zs.length ≤ sizeLine ∧ ∀ p, H p = none → Q (.ref p) (upd H p (.lst (xs ++ zs)))
theorem plain_obj {h : Heap} {a : Addr} {its : Array Value} (p : PlainL h a its) : ∃ n od sl, h.get? a = some { cls := .type "list", dict := od, data := .seq its n, slots := sl } := by
  obtain ⟨⟨cls, dd, data, sl⟩, n, e, h1, h2, h3⟩ := p
  simp only at h1 h2 h3
  subst h1 h2 h3
  exact ⟨n, _, sl, e⟩
theorem op_catS : OpR X (binaryOp .Add) (rCatS X.K) := by
  intro pins s σ H x y v u Q I rx ry h
  obtain ⟨l, b, xs, zs, rfl, rfl, hH, hB, hz, q⟩ := h
  cases rx
  cases ry
  obtain ⟨its, r, p, hl⟩ := I.list hH
  obtain ⟨its2, r2, p2, hl2⟩ := I.list hB
  obtain ⟨o1, m1, e1, c1, d1, f1⟩ := p
  obtain ⟨o2, m2, e2, c2, d2, f2⟩ := p2
  obtain ⟨cls, dd, data, sl⟩ := o1
  obtain ⟨cls2, dd2, data2, sl2⟩ := o2
  simp only at c1 d1 f1 c2 d2 f2
  subst c1 d1 f1 c2 d2 f2
  have hsz : its.toArray.size + its2.toArray.size ≤ sizeLine := by rw [List.size_toArray, List.size_toArray, ← r.length, ← r2.length]; exact hz
  refine concat_meets ⟨_, e1, rfl⟩ ⟨_, e2, rfl⟩ noFill_list_add seq_list_add PySem.F.slot_list_add PySem.F.entry_list_add (PySem.F.args_list_add_2 _ _) (list_addW l b its.toArray its2.toArray m1 m2 _ _ sl sl2 hsz) ⟨e1, e2, ?_⟩
  have ea : its.toArray ++ its2.toArray = (its ++ its2).toArray := by simp
  rw [ea]
  exact ⟨.ref _, _, I.lnew (t' := s.toks) (r.append r2) (by rw [List.length_append]; omega), rfl, q _ I.fresh⟩
end
end Pv
end

section
set_option Elab.async false
set_option linter.all false
set_option maxRecDepth 100000
namespace Pv
open PySem PySem.Spec PyProof.Rows L2

def rBin (K : PySem.W.Frag) : Bo → R2
  | .add => fun x y H Q => rI0 (fun i j => .int (i + j)) x y H Q ∨ rCatA K x y H Q ∨ rCatS K x y H Q
  | .sub => rI0 fun i j => .int (i - j)
  | .mul => rI CMul fun i j => .int (i * j)
  | .rep => rRep
  | .mod => rI (fun _ j => 0 < j) fun i j => .int (i % j)
  | .fdiv => rI CDiv fun i j => .int (i / j)
  | .pow => rI CPow fun i j => .int (i ^ j.toNat)
theorem op_bin {X : Cx} : ∀ op : Bo, OpR X (binaryOp (bopOf op)) (rBin X.K op)
  | .add => op_add.or (op_catA.or op_catS)
  | .sub => op_sub
  | .mul => op_mul
  | .rep => op_rep
  | .mod => op_mod
  | .fdiv => op_fdiv
  | .pow => op_pow
theorem RelZs.rep {K : PySem.W.Frag} {g : Gh} {H : Hp} {ws : List W} {vs : List V} (r : RelZs K g H ws vs) : ∀ n : Nat, RelZs K g H (List.replicate n ws).flatten (List.replicate n vs).flatten
  | 0 => .nil
  | n + 1 => by rw [List.replicate_succ, List.replicate_succ, List.flatten_cons, List.flatten_cons]; exact r.append (RelZs.rep r n)
section
variable {T : Tb} {g : Gh} {H : Hp} {st : Sto} {Q : VK}
theorem bin_ok {op : Bo} {w1 w2 w : W} {v1 v2 : V} (h : binop op w1 w2 = some w) (r1 : RelR T.K g H w1 v1) (r2 : RelR T.K g H w2 v2) (wf : Wf g H) (rs : RelSt T g st H)
    (hr : op = .rep → ∃ t, RootO T.K g H t w1 v1)
    (k : ∀ v H', Ext g H g H' → Wf g H' → RelSt T g st H' → RelFr T.K H g H' w v → Q v H') : rBin T.K op v1 v2 H Q := by
  have kint : ∀ i, w = .int i → Q (.int i) H := fun i e => k _ _ .refl wf rs (.inl ⟨by rw [e]; rfl, by rw [e]; exact .int i⟩)
  have ktup : ∀ ws a vs, w = .tup ws → SqT T.K H a vs → RelZs T.K g H ws vs → Q (.ref a) H := fun ws a vs e hs hr => k _ _ .refl wf rs (.inl ⟨by rw [e]; rfl, by rw [e]; exact .tup hs hr⟩)
  have ktupN : ∀ ws vs p, w = .tup ws → H p = none → RelZs T.K g H ws vs → Q (.ref p) (upd H p (.tup vs)) := fun ws vs p e hp hr =>
    k _ _ (.new hp) (wf.new hp) (rs.new hp) (.inl ⟨by rw [e]; rfl, by rw [e]; exact .tup (.of upd_same) (hr.mo ((Ext.new hp).mo wf))⟩)
  have klst : ∀ ws vs p, w = .lst ws → H p = none → RelZs T.K g H ws vs → Q (.ref p) (upd H p (.lst vs)) := fun ws vs p e hp hr =>
    k _ _ (.new hp) (wf.new hp) (rs.new hp) (.inr ⟨by rw [e]; exact .lst upd_same (wf.no hp) (hr.mo ((Ext.new hp).mo wf)), fun b z => by cases z; exact hp⟩)
  have line : sizeLine = 16777216 := sizeLine_eq
  unfold binop at h
  split at h
  · cases r1.int; cases r2.int
    exact .inl ⟨_, _, rfl, rfl, kint _ (by injection h with h; exact h.symm)⟩
  · cases r1.int; cases r2.int
    exact ⟨_, _, rfl, rfl, kint _ (by injection h with h; exact h.symm)⟩
  · rename_i i j
    cases r1.int; cases r2.int
    cases hb : ((decide (-(2 ^ 64) < i) && decide (i < 2 ^ 64)) || (decide (-(2 ^ 64) < j) && decide (j < 2 ^ 64))) with
    | false => rw [hb] at h; exact nomatch h
    | true =>
      rw [hb] at h
      simp only [Bool.or_eq_true, Bool.and_eq_true, decide_eq_true_eq] at hb
      exact ⟨_, _, rfl, rfl, hb, kint _ (by injection h with h; exact h.symm)⟩
  · rename_i i j
    cases r1.int; cases r2.int
    cases hb : decide (0 < j) with
    | false => rw [hb] at h; exact nomatch h
    | true =>
      rw [hb] at h
      exact ⟨_, _, rfl, rfl, of_decide_eq_true hb, kint _ (by injection h with h; exact h.symm)⟩
  · rename_i i j
    cases r1.int; cases r2.int
    cases hb : (decide (0 < j) && decide (j < 1073741824)) with
    | false => rw [hb] at h; exact nomatch h
    | true =>
      rw [hb] at h
      simp only [Bool.and_eq_true, decide_eq_true_eq] at hb
      exact ⟨_, _, rfl, rfl, hb, kint _ (by injection h with h; exact h.symm)⟩
  · rename_i i j
    cases r1.int; cases r2.int
    cases hb : (decide (0 ≤ j) && decide (j ≤ 1000) && decide (-(2 ^ 64) < i) && decide (i < 2 ^ 64)) with
    | false => rw [hb] at h; exact nomatch h
    | true =>
      rw [hb] at h
      simp only [Bool.and_eq_true, decide_eq_true_eq] at hb
      obtain ⟨⟨⟨h1, h2⟩, h3⟩, h4⟩ := hb
      exact ⟨_, _, rfl, rfl, ⟨h1, by omega, by omega⟩, kint _ (by injection h with h; exact h.symm)⟩
  · rename_i xs ys
    obtain ⟨a, vs, rfl, ha, za⟩ := r1.tup
    obtain ⟨b, us, rfl, hb, zb⟩ := r2.tup
    cases hl : Nat.ble (xs.length + ys.length) 16777216 with
    | false => rw [hl] at h; exact nomatch h
    | true =>
      rw [hl] at h
      have hw : w = .tup (xs ++ ys) := by injection h with h; exact h.symm
      have hl := Nat.le_of_ble_eq_true hl
      refine .inr (.inl ⟨a, b, vs, us, rfl, rfl, ha, hb, by rw [← za.length, ← zb.length, line]; exact hl, fun e => ?_, fun e1 e2 => ?_, fun _ _ p hp => ktupN _ _ p hw hp (za.append zb)⟩)
      · subst e; cases za; exact ktup _ _ _ hw hb zb
      · subst e2; cases zb; rw [List.append_nil] at hw; exact ktup _ _ _ hw ha za
  · rename_i xs ys
    obtain ⟨a, vs, rfl, ha, za⟩ := r1.lst
    obtain ⟨b, us, rfl, hb, zb⟩ := r2.lst
    cases hl : Nat.ble (xs.length + ys.length) 16777216 with
    | false => rw [hl] at h; exact nomatch h
    | true =>
      rw [hl] at h
      have hw : w = .lst (xs ++ ys) := by injection h with h; exact h.symm
      have hl := Nat.le_of_ble_eq_true hl
      exact .inr (.inr ⟨a, b, vs, us, rfl, rfl, ha, hb, by rw [← za.length, ← zb.length, line]; exact hl, fun p hp => klst _ _ p hw hp (za.append zb)⟩)
  · rename_i xs j
    cases r2.int
    cases hb : (decide (0 ≤ j) && decide (j < 100000) && Nat.ble (xs.length * j.toNat) 16777216) with
    | false => rw [hb] at h; exact nomatch h
    | true =>
      rw [hb] at h
      simp only [Bool.and_eq_true, decide_eq_true_eq] at hb
      obtain ⟨⟨h1, h2⟩, h3⟩ := hb
      have h3 := Nat.le_of_ble_eq_true h3
      have hw : w = .lst (List.replicate j.toNat xs).flatten := by injection h with h; exact h.symm
      obtain ⟨t, ro⟩ := hr rfl
      cases ro with
      | @lst a vs _ ha q za =>
        refine ⟨a, j, vs, rfl, rfl, ha, by omega, by omega, by rw [← za.length, line]; exact h3, fun p hp => klst _ _ p hw hp (za.rep _)⟩
  · exact nomatch h
end
section
variable {T : Tb} {n d : Nat} {c : Cfg} {X : Cx} {W : WX} {g : Gh} {st : Sto} {H : Hp} {σE : Fr} {σ : L2.St} {Q : VK}
theorem RelFr.root {K : PySem.W.Frag} {H0 : Hp} {ws : List Pv.W} {v : V} (r : RelFr K H0 g H (.lst ws) v) : RootO K g H none (.lst ws) v := by
  rcases r with ⟨h, _⟩ | ⟨h, _⟩
  · exact nomatch h
  · exact h
theorem s_bin (se : SE T n d) {op : Bo} {a b : Expr} {x y : Ex} {pos : Pos} (ta : TrE T c a x) (tb : TrE T c b y) (hk : op = .rep → kn T x = .fr) (at_ : At T d c X W g st H σE σ)
    (h : Po T g H W σ (fun w st' g' H' => ∀ v, RelFr T.K H g' H' w v → Q v H') ((evE T.G n d σE st x).bind fun x st => (evE T.G n d σE st y).bind fun y st => o2r (binop op x y) st)) : wE X (.BinOp a (bopOf op) b pos) σ H Q := by
  refine (pe_op (op_bin op) pe_w pe_w).w ?_
  show wE X a σ H fun v H1 => wE X b σ H1 fun u H2 => rBin X.K op v u H2 Q
  rw [at_.ctx.hK]
  refine se c a x ta X W g st H σE σ _ at_ (h.bind.mono fun w1 st1 g1 H1 e1 wf1 rs1 h1 v1 r1 => ?_)
  have a1 := at_.ext e1 wf1 rs1
  refine se.bo tb a1 h1.bind fun w2 st2 g2 H2 v2 a2 e2 r2 h2 => ?_
  obtain ⟨w, hw, h3⟩ := h2.o2r a2.wf a2.rst
  refine bin_ok hw ((RelK.r r1).ext a1.wf e2) r2 a2.wf a2.rst (fun e => ?_) fun v H' e3 wf3 rs3 r3 => h3 g2 H' e3 wf3 rs3 v (r3.back fun a z => e1.free (e2.free z))
  have hfr := hk e
  rw [hfr] at r1
  have r1 : RelFr T.K H g1 H1 w1 v1 := r1
  subst e
  have hl : ∃ ws, w1 = .lst ws := by
    cases w1 with
    | lst ws => exact ⟨_, rfl⟩
    | _ => exact nomatch hw
  obtain ⟨ws, rfl⟩ := hl
  exact ⟨none, (r1.root).ext a1.wf e2 notFld_none⟩
theorem s_neg (se : SE T n d) {a : Expr} {x : Ex} {pos : Pos} (ta : TrE T c a x) (at_ : At T d c X W g st H σE σ)
    (h : Po T g H W σ (fun w st' g' H' => ∀ v, RelZ T.K g' H' w v → Q v H') ((evE T.G n d σE st x).bind fun x st => match x with | .int i => .ok (.int (-i)) st | _ => .err)) : wE X (.UnaryOp .USub a pos) σ H Q := by
  refine (pe_un un_neg pe_w).w ?_
  show wE X a σ H fun v H1 => ∃ i, v = .int i ∧ Q (.int (-i)) H1
  refine se.bo ta at_ h.bind fun w1 st1 g1 H1 v1 a1 e1 r1 h1 => ?_
  cases w1 with
  | int i => exact ⟨i, r1.int, h1.ok a1.wf a1.rst _ (.int _)⟩
  | _ => exact h1.elim
end
end Pv
end

section
set_option Elab.async false
set_option linter.all false
set_option maxRecDepth 100000
namespace Pv
open PySem PySem.Spec PyProof.Rows L2

mutual
def toD : W → PyData
  | .non => .none
  | .bl b => .bool b
  | .int i => .int i
  | .str x => .str x
  | .tup ws => .tuple (toDs ws)
  | .lst ws => .list (toDs ws)
  | _ => .none
def toDs : List W → List PyData
  | [] => []
  | w :: ws => toD w :: toDs ws
end
theorem strEq_eq (x y : Str) : strEq x y = (x == y) := by
  unfold strEq
  by_cases h : x = y
  · subst h; simp
  · have h2 : ¬ x.cps.toList = y.cps.toList := fun e => h (by obtain ⟨a⟩ := x; obtain ⟨b⟩ := y; have : a = b := Array.toList_inj.mp e; rw [this])
    rw [beq_eq_false_iff_ne.mpr h, beq_eq_false_iff_ne.mpr h2]
theorem b2i_eq (b : Bool) : b2i b = (if b = true then (1 : Int) else 0) := by cases b <;> rfl
mutual
theorem weq_eqv : ∀ (n : Nat) (a b : W), isDat n a = true → isDat n b = true → weq a b = PyData.eqv (toD a) (toD b)
  | n, .non, b, _, hb => by cases b <;> first | rfl | (cases n <;> exact nomatch hb)
  | n, .bl x, b, _, hb => by
    cases b with
    | int j => simp only [weq, toD, PyData.eqv, b2i_eq]
    | bl y => simp only [weq, toD, PyData.eqv]
    | _ => first | rfl | (cases n <;> exact nomatch hb)
  | n, .int i, b, _, hb => by
    cases b with
    | int j => simp only [weq, toD, PyData.eqv]
    | bl y => simp only [weq, toD, PyData.eqv, b2i_eq]
    | _ => first | rfl | (cases n <;> exact nomatch hb)
  | n, .str x, b, _, hb => by
    cases b with
    | str y => simp only [weq, toD, PyData.eqv, strEq_eq]
    | _ => first | rfl | (cases n <;> exact nomatch hb)
  | n + 1, .tup xs, b, ha, hb => by
    cases b with
    | tup ys => simp only [weq, toD, PyData.eqv]; exact weqs_eqv n xs ys (by simpa [isDat] using ha) (by simpa [isDat] using hb)
    | dic _ _ => exact nomatch hb
    | set _ => exact nomatch hb
    | obj _ => exact nomatch hb
    | fn _ _ => exact nomatch hb
    | _ => rfl
  | n + 1, .lst xs, b, ha, hb => by
    cases b with
    | lst ys => simp only [weq, toD, PyData.eqv]; exact weqs_eqv n xs ys (by simpa [isDat] using ha) (by simpa [isDat] using hb)
    | dic _ _ => exact nomatch hb
    | set _ => exact nomatch hb
    | obj _ => exact nomatch hb
    | fn _ _ => exact nomatch hb
    | _ => rfl
  | 0, .tup _, _, ha, _ => nomatch ha
  | 0, .lst _, _, ha, _ => nomatch ha
  | n, .dic _ _, _, ha, _ => by cases n <;> exact nomatch ha
  | n, .set _, _, ha, _ => by cases n <;> exact nomatch ha
  | n, .obj _, _, ha, _ => by cases n <;> exact nomatch ha
  | n, .fn _ _, _, ha, _ => by cases n <;> exact nomatch ha
theorem weqs_eqv : ∀ (n : Nat) (a b : List W), isDats n a = true → isDats n b = true → weqs a b = PyData.eqvAll (toDs a) (toDs b)
  | n, [], [], _, _ => rfl
  | n, [], _ :: _, _, _ => rfl
  | n, _ :: _, [], _, _ => rfl
  | n, a :: as, b :: bs, ha, hb => by
    simp only [isDats, Bool.and_eq_true] at ha hb
    simp only [weqs, toDs, PyData.eqvAll]
    rw [weq_eqv n a b ha.1 hb.1, weqs_eqv n as bs ha.2 hb.2]
end
theorem strFine_ok {x : Str} (h : strFine x = true) : PyData.strOk x = true := by
  unfold PyData.strOk
  unfold strFine at h
  rw [← Array.all_toList]
  rw [List.all_eq_true] at h ⊢
  intro c hc
  have := h c hc
  simp only [Nat.blt_eq, decide_eq_true_eq] at this ⊢
  exact this
mutual
theorem toD_lay : ∀ (n : Nat) (a : W), isDat n a = true → (toD a).canLay0 = true ∧ (toD a).depth ≤ n
  | n, .non, _ => ⟨by simp [toD, PyData.canLay0], by simp [toD, PyData.depth]⟩
  | n, .bl _, _ => ⟨by simp [toD, PyData.canLay0], by simp [toD, PyData.depth]⟩
  | n, .int _, _ => ⟨by simp [toD, PyData.canLay0], by simp [toD, PyData.depth]⟩
  | n, .str _, h => ⟨by simp only [toD, PyData.canLay0]; exact strFine_ok (by simpa [isDat] using h), by simp [toD, PyData.depth]⟩
  | n + 1, .tup xs, h => by
    obtain ⟨h1, h2⟩ := toDs_lay n xs (by simpa [isDat] using h)
    exact ⟨by simpa [toD, PyData.canLay0] using h1, by simp only [toD, PyData.depth]; omega⟩
  | n + 1, .lst xs, h => by
    obtain ⟨h1, h2⟩ := toDs_lay n xs (by simpa [isDat] using h)
    exact ⟨by simpa [toD, PyData.canLay0] using h1, by simp only [toD, PyData.depth]; omega⟩
  | 0, .tup _, h => nomatch h
  | 0, .lst _, h => nomatch h
  | n, .dic _ _, ha => by cases n <;> exact nomatch ha
  | n, .set _, ha => by cases n <;> exact nomatch ha
  | n, .obj _, ha => by cases n <;> exact nomatch ha
  | n, .fn _ _, ha => by cases n <;> exact nomatch ha
theorem toDs_lay : ∀ (n : Nat) (a : List W), isDats n a = true → PyData.canLayAll0 (toDs a) = true ∧ PyData.depthAll (toDs a) ≤ n
  | n, [], _ => ⟨by simp [toDs, PyData.canLayAll0], by simp [toDs, PyData.depthAll]⟩
  | n, a :: as, h => by
    simp only [isDats, Bool.and_eq_true] at h
    obtain ⟨h1, h2⟩ := toD_lay n a h.1
    obtain ⟨h3, h4⟩ := toDs_lay n as h.2
    exact ⟨by simp [toDs, PyData.canLayAll0, h1, h3], by simp only [toDs, PyData.depthAll]; omega⟩
end
theorem toD_shaped {n : Nat} {a : W} (h : isDat n a = true) (hn : n ≤ 64) : SeqAt.shaped (toD a) = true := by
  obtain ⟨h1, h2⟩ := toD_lay n a h
  show ((toD a).canLay0 && decide ((toD a).depth ≤ 64)) = true
  rw [h1, decide_eq_true (by omega)]; rfl
theorem toDs_shaped {n : Nat} {a : List W} (h : isDats n a = true) (hn : n ≤ 63) : SeqAt.shaped (.list (toDs a)) = true := by
  obtain ⟨h1, h2⟩ := toDs_lay n a h
  show ((PyData.list (toDs a)).canLay0 && decide ((PyData.list (toDs a)).depth ≤ 64)) = true
  rw [show (PyData.list (toDs a)).canLay0 = true from by simpa [PyData.canLay0] using h1, decide_eq_true (by simp only [PyData.depth]; omega)]; rfl
section
variable {K : PySem.W.Frag} {g : Gh} {H : Hp}
mutual
theorem RelZ.dp : ∀ {n : Nat} {w : W} {v : V}, RelZ K g H w v → isDat n w = true → Dp K H v (toD w)
  | _, _, _, .non, _ => .non
  | _, _, _, .bl b, _ => .bl b
  | _, _, _, .int i, _ => .int i
  | _, _, _, .str x, _ => .str x
  | n + 1, _, _, .tup h r, hd => .tup h (RelZs.dp (n := n) r (by simpa [isDat] using hd))
  | n + 1, _, _, .lst h r, hd => .lst h.sq (RelZs.dp (n := n) r (by simpa [isDat] using hd))
  | 0, _, _, .tup _ _, hd => nomatch hd
  | 0, _, _, .lst _ _, hd => nomatch hd
  | n, _, _, .dic _ _ _ _, hd => by cases n <;> exact nomatch hd
  | n, _, _, .obj _, hd => by cases n <;> exact nomatch hd
theorem RelZs.dp : ∀ {n : Nat} {ws : List W} {vs : List V}, RelZs K g H ws vs → isDats n ws = true → DpAll K H vs (toDs ws)
  | _, _, _, .nil, _ => .nil
  | n, _, _, .cons h r, hd => by
    simp only [isDats, Bool.and_eq_true] at hd
    exact .cons (RelZ.dp (n := n) h hd.1) (RelZs.dp (n := n) r hd.2)
end
theorem RelR.dp {n : Nat} {w : W} {v : V} (r : RelR K g H w v) (hd : isDat n w = true) : Dp K H v (toD w) := by
  rcases r with r | ⟨t, _, r⟩
  · exact r.dp hd
  · cases r with
    | @lst a vs ws h q r =>
      cases n with
      | zero => exact nomatch hd
      | succ n => exact .lst (.of h) (r.dp (n := n) (by simpa [isDat] using hd))
    | dic _ _ _ _ => cases n <;> exact nomatch hd
end
theorem mem_any (n : Nat) (a : W) : ∀ (ws : List W), isDat n a = true → isDats n ws = true → mem a ws = (toDs ws).any fun z => PyData.eqv z (toD a)
  | [], _, _ => rfl
  | w :: ws, ha, hs => by
    simp only [isDats, Bool.and_eq_true] at hs
    simp only [mem, toDs, List.any_cons]
    rw [weq_eqv n w a hs.1 ha, mem_any n a ws ha hs.2]
end Pv
end

section
set_option Elab.async false
set_option linter.all false
set_option maxRecDepth 100000
namespace Pv
open PySem PySem.Spec PyProof.Rows L2

/-! ### in -/
def rMem (K : PySem.W.Frag) (neg : Bool) : R2 := fun x y H Q => ∃ d ds, Dp K H x d ∧ (Dp K H y (.list ds) ∨ Dp K H y (.tuple ds)) ∧ SeqAt.shaped d = true ∧ SeqAt.shaped (.list ds) = true ∧ Q (.bl (if neg then !(ds.any fun z => PyData.eqv z d) else ds.any fun z => PyData.eqv z d)) H
def rDin (neg : Bool) : R2 := fun x y H Q => ∃ a o, y = .ref a ∧ DGet H a x o ∧ Q (.bl (if neg then !o.isSome else o.isSome)) H
section
variable {X : Cx}
theorem op_mem (hu : X.A.units + 65 < cLine) : OpR X (compareOp .In) (rMem X.K false) := by
  intro pins s σ H x y v u Q I rx ry h
  obtain ⟨d, ds, hd, he, sd, se, q⟩ := h
  obtain ⟨as, r1⟩ := Dp.reads I d x v hd rx
  rcases he with he | he
  · obtain ⟨bs, r2⟩ := Dp.reads I (.list ds) y u he ry
    exact SeqAt.in_list_reads r2 r1 (SeqAt.canLay_of_shaped se) (SeqAt.canLay_of_shaped sd) (room_in_shaped sd hu) ⟨.bl _, H, I, rfl, q⟩
  · obtain ⟨bs, r2⟩ := Dp.reads I (.tuple ds) y u he ry
    exact SeqAt.in_tuple_reads r2 r1 (SeqAt.canLay_of_shaped se) (SeqAt.canLay_of_shaped sd) (room_in_shaped sd hu) ⟨.bl _, H, I, rfl, q⟩
theorem op_nmem (hu : X.A.units + 65 < cLine) : OpR X (compareOp .NotIn) (rMem X.K true) := by
  intro pins s σ H x y v u Q I rx ry h
  obtain ⟨d, ds, hd, he, sd, se, q⟩ := h
  obtain ⟨as, r1⟩ := Dp.reads I d x v hd rx
  rcases he with he | he
  · obtain ⟨bs, r2⟩ := Dp.reads I (.list ds) y u he ry
    exact SeqAt.notIn_list_reads r2 r1 (SeqAt.canLay_of_shaped se) (SeqAt.canLay_of_shaped sd) (room_in_shaped sd hu) ⟨.bl _, H, I, rfl, q⟩
  · obtain ⟨bs, r2⟩ := Dp.reads I (.tuple ds) y u he ry
    exact SeqAt.notIn_tuple_reads r2 r1 (SeqAt.canLay_of_shaped se) (SeqAt.canLay_of_shaped sd) (room_in_shaped sd hu) ⟨.bl _, H, I, rfl, q⟩
theorem op_din (hu : X.A.units + 1 < cLine) : OpR X (compareOp .In) (rDin false) := by
  intro pins s σ H x y v u Q I rx ry h
  obtain ⟨a, o, rfl, g, q⟩ := h
  obtain rfl : u = Value.ref a := ry
  exact d_in hu I g rx fun s3 I3 => ⟨.bl o.isSome, H, I3, rfl, q⟩
theorem op_dnotin (hu : X.A.units + 1 < cLine) : OpR X (compareOp .NotIn) (rDin true) := by
  intro pins s σ H x y v u Q I rx ry h
  obtain ⟨a, o, rfl, g, q⟩ := h
  obtain rfl : u = Value.ref a := ry
  exact d_notIn hu I g rx fun s3 I3 => ⟨.bl (!o.isSome), H, I3, rfl, q⟩
end
def rCmp (K : PySem.W.Frag) : Co → R2
  | .eq => rEqD K
  | .ne => rNeD K
  | .lt => fun x y H Q => rI0 (fun i j => .bl (decide (i < j))) x y H Q ∨ ∃ i j, x = .str i ∧ y = .str j ∧ Q (.bl (decide (i.cps.toList < j.cps.toList))) H
  | .le => fun x y H Q => rI0 (fun i j => .bl (decide (i ≤ j))) x y H Q ∨ ∃ i j, x = .str i ∧ y = .str j ∧ Q (.bl (!decide (j.cps.toList < i.cps.toList))) H
  | .gt => rI0 fun i j => .bl (decide (j < i))
  | .ge => rI0 fun i j => .bl (decide (j ≤ i))
  | .isN => fun x y H Q => y = .non ∧ Q (.bl (decide (x = .non))) H
  | .notN => fun x y H Q => y = .non ∧ Q (.bl (!decide (x = .non))) H
  | .mem => fun x y H Q => rMem K false x y H Q ∨ rDin false x y H Q
  | .nmem => fun x y H Q => rMem K true x y H Q ∨ rDin true x y H Q
theorem op_cmp {X : Cx} (hu : X.A.units + 65 < cLine) : ∀ op : Co, OpR X (compareOp (copOf op)) (rCmp X.K op)
  | .eq => op_eqD (by omega)
  | .ne => op_neD (by omega)
  | .lt => op_lt.or op_lt_str
  | .le => op_le.or op_le_str
  | .gt => op_gt
  | .ge => op_ge
  | .isN => op_isN
  | .notN => op_notN
  | .mem => (op_mem hu).or (op_din (by omega))
  | .nmem => (op_nmem hu).or (op_dnotin (by omega))
theorem kW_weq (a b : Key) : weq (kW a) (kW b) = decide (a = b) := by
  cases a with
  | inl i =>
    cases b with
    | inl j => show (i == j) = decide ((Sum.inl i : Key) = Sum.inl j); by_cases h : i = j <;> simp [h]
    | inr y => show false = decide ((Sum.inl i : Key) = Sum.inr y); simp
  | inr x =>
    cases b with
    | inl j => show false = decide ((Sum.inr x : Key) = Sum.inl j); simp
    | inr y => show strEq x y = decide ((Sum.inr x : Key) = Sum.inr y); rw [strEq_eq]; by_cases h : x = y <;> simp [h]
theorem mem_key (k : Key) : ∀ kvs : List (Key × V), mem (kW k) (kvs.map fun p => kW p.1) = (valV kvs k).isSome
  | [] => rfl
  | p :: r => by
    simp only [List.map_cons, mem, kW_weq, mem_key k r]
    by_cases h : p.1 = k
    · rw [valV_pos h]; simp [h]
    · rw [valV_neg h]; simp [h]
theorem isKy_k {w : W} (h : isKy w = true) : ∃ k : Key, w = kW k := by
  cases w with
  | int i => exact ⟨.inl i, rfl⟩
  | str x => exact ⟨.inr x, rfl⟩
  | _ => exact nomatch h
theorem RelR.key {K : PySem.W.Frag} {g : Gh} {H : Hp} {k : Key} {v : V} (r : RelR K g H (kW k) v) : v = kV k := by
  cases k with
  | inl i => exact r.int
  | inr x => exact r.str
theorem RelR.isNon {K : PySem.W.Frag} {g : Gh} {H : Hp} {w : W} {v : V} (r : RelR K g H w v) : decide (v = .non) = isNon w := by
  rcases r with r | ⟨t, _, r⟩
  · cases r <;> rfl
  · cases r <;> rfl
theorem RelR.lt {K : PySem.W.Frag} {g : Gh} {H : Hp} {n : Nat} {ws : List W} {v : V} (r : RelR K g H (.lst ws) v) (h : isDats n ws = true) : Dp K H v (.list (toDs ws)) := r.dp (n := n + 1) (by simpa [isDat] using h)
theorem cmp_ok {K : PySem.W.Frag} {g : Gh} {H : Hp} {op : Co} {w1 w2 : W} {b : Bool} {v1 v2 : V} {Q : VK} (h : cmpop op w1 w2 = some b) (r1 : RelR K g H w1 v1) (r2 : RelR K g H w2 v2) (k : Q (.bl b) H) : rCmp K op v1 v2 H Q := by
  unfold cmpop at h
  split at h
  · cases hb : (isDat 50 w1 && isDat 50 w2) with
    | false => rw [hb] at h; exact nomatch h
    | true =>
      rw [hb] at h
      rw [Bool.and_eq_true] at hb
      injection h with h
      exact ⟨_, _, r1.dp hb.1, r2.dp hb.2, toD_shaped hb.1 (by decide), toD_shaped hb.2 (by decide), by rw [← weq_eqv 50 w1 w2 hb.1 hb.2, h]; exact k⟩
  · cases hb : (isDat 50 w1 && isDat 50 w2) with
    | false => rw [hb] at h; exact nomatch h
    | true =>
      rw [hb] at h
      rw [Bool.and_eq_true] at hb
      injection h with h
      exact ⟨_, _, r1.dp hb.1, r2.dp hb.2, toD_shaped hb.1 (by decide), toD_shaped hb.2 (by decide), by rw [← weq_eqv 50 w1 w2 hb.1 hb.2, h]; exact k⟩
  · cases r1.int; cases r2.int; injection h with h; exact .inl ⟨_, _, rfl, rfl, by subst h; exact k⟩
  · cases r1.int; cases r2.int; injection h with h; exact .inl ⟨_, _, rfl, rfl, by subst h; exact k⟩
  · cases r1.int; cases r2.int; injection h with h; exact ⟨_, _, rfl, rfl, by subst h; exact k⟩
  · cases r1.int; cases r2.int; injection h with h; exact ⟨_, _, rfl, rfl, by subst h; exact k⟩
  · cases r1.str; cases r2.str; injection h with h; exact .inr ⟨_, _, rfl, rfl, by subst h; exact k⟩
  · cases r1.str; cases r2.str; injection h with h; exact .inr ⟨_, _, rfl, rfl, by subst h; exact k⟩
  · injection h with h; exact ⟨r2.non, by rw [r1.isNon, h]; exact k⟩
  · injection h with h; exact ⟨r2.non, by rw [r1.isNon, h]; exact k⟩
  · rename_i ws
    cases hb : (isDat 50 w1 && isDats 50 ws) with
    | false => rw [hb] at h; exact nomatch h
    | true =>
      rw [hb] at h
      rw [Bool.and_eq_true] at hb
      injection h with h
      exact .inl ⟨_, _, r1.dp hb.1, .inr (r2.dp (n := 51) (by simpa [isDat] using hb.2)), toD_shaped hb.1 (by decide), toDs_shaped hb.2 (by decide), by rw [← mem_any 50 w1 ws hb.1 hb.2, h]; exact k⟩
  · rename_i ws
    cases hb : (isDat 50 w1 && isDats 50 ws) with
    | false => rw [hb] at h; exact nomatch h
    | true =>
      rw [hb] at h
      rw [Bool.and_eq_true] at hb
      injection h with h
      exact .inl ⟨_, _, r1.dp hb.1, .inl (r2.lt hb.2), toD_shaped hb.1 (by decide), toDs_shaped hb.2 (by decide), by rw [← mem_any 50 w1 ws hb.1 hb.2, h]; exact k⟩
  · rename_i ws
    cases hb : (isDat 50 w1 && isDats 50 ws) with
    | false => rw [hb] at h; exact nomatch h
    | true =>
      rw [hb] at h
      rw [Bool.and_eq_true] at hb
      injection h with h
      exact .inl ⟨_, _, r1.dp hb.1, .inr (r2.dp (n := 51) (by simpa [isDat] using hb.2)), toD_shaped hb.1 (by decide), toDs_shaped hb.2 (by decide), by rw [← mem_any 50 w1 ws hb.1 hb.2, h]; exact k⟩
  · rename_i ws
    cases hb : (isDat 50 w1 && isDats 50 ws) with
    | false => rw [hb] at h; exact nomatch h
    | true =>
      rw [hb] at h
      rw [Bool.and_eq_true] at hb
      injection h with h
      exact .inl ⟨_, _, r1.dp hb.1, .inl (r2.lt hb.2), toD_shaped hb.1 (by decide), toDs_shaped hb.2 (by decide), by rw [← mem_any 50 w1 ws hb.1 hb.2, h]; exact k⟩
  · rename_i ks us
    cases hb : isKy w1 with
    | false => rw [hb] at h; exact nomatch h
    | true =>
      rw [hb] at h
      injection h with h
      obtain ⟨key, rfl⟩ := isKy_k hb
      obtain ⟨a, kvs, rfl, ha, hk, _⟩ := r2.dic
      cases r1.key
      exact .inr ⟨a, _, rfl, .k ha, by rw [← mem_key, ← hk, h]; exact k⟩
  · rename_i ks us
    cases hb : isKy w1 with
    | false => rw [hb] at h; exact nomatch h
    | true =>
      rw [hb] at h
      injection h with h
      obtain ⟨key, rfl⟩ := isKy_k hb
      obtain ⟨a, kvs, rfl, ha, hk, _⟩ := r2.dic
      cases r1.key
      exact .inr ⟨a, _, rfl, .k ha, by rw [← mem_key, ← hk, h]; exact k⟩
  · exact nomatch h
end Pv
end

section
set_option Elab.async false
set_option linter.all false
set_option maxRecDepth 100000
namespace Pv
open PySem PySem.Spec PyProof.Rows L2

def rW (X : Cx) (op : CmpOp) : R2 := fun x y H Q => ∀ (pins : List (Addr × PySem.Obj)) (s : Shared) (σ : L2.St) (v u : Value), Inv X pins σ H s → RelV x v → RelV y u → wpAny (model X.prog X.w) X.A (compareOp op v u) (EP X pins σ Q) X.xe s
theorem op_w {X : Cx} {op : CmpOp} : OpR X (compareOp op) (rW X op) := fun pins s σ H x y v u Q I rx ry h => h pins s σ v u I rx ry
/-- == and != of instances, by their own __eq__ -/
def SQe (T : Tb) (n d : Nat) : Prop := ∀ (c : Cfg) (X : Cx) (op : Co) (g : Gh) (st : Sto) (H : Hp) (p : Nat) (y : W) (v1 v2 : V) (Q : VK), op = .eq → CtxOk T d c X → Wf g H → RelSt T g st H → RelR T.K g H (.obj p) v1 → RelR T.K g H y v2 →
  Po T g H (fun _ _ _ _ => False) [] (fun b st' g' H' => Q (.bl b) H') (evEq T.G n d p (.obj p) y st) → rW X (copOf op) v1 v2 H Q
def SQn (T : Tb) (n d : Nat) : Prop := ∀ (c : Cfg) (X : Cx) (g : Gh) (st : Sto) (H : Hp) (p : Nat) (y : W) (v1 v2 : V) (Q : VK), CtxOk T (d + 1) c X → Wf g H → RelSt T g st H → RelR T.K g H (.obj p) v1 → RelR T.K g H y v2 →
  Po T g H (fun _ _ _ _ => False) [] (fun b st' g' H' => Q (.bl !b) H') (evEq T.G n d p (.obj p) y st) → rW X .NotEq v1 v2 H Q
structure SQ (T : Tb) (n d : Nat) : Prop where
  e : SQe T n d
  n : ∀ k, d = k + 1 → SQn T n k
section
variable {T : Tb} {n d : Nat} {c : Cfg} {X : Cx} {W : WX} {g : Gh} {st : Sto} {H : Hp} {σE : Fr} {σ : L2.St} {Q : VK}
theorem CtxOk.hu (a : CtxOk T d c X) : X.A.units + 65 < cLine := by have := a.room.un; omega
theorem noexc_po {α : Type} {P : α → Sto → Gh → Hp → Prop} {r : R α} {W' : WX} {σ' : L2.St} (h : Po T g H W σ P r.noexc) : Po T g H W' σ' P r := by
  cases r with
  | ok a st => exact h
  | exc c pl st => exact h.elim
  | err => exact h.elim
theorem cmpC (sq : SQ T n d) {op : Co} {w1 w2 : Pv.W} {v1 v2 : V} {P : Pv.W → Sto → Gh → Hp → Prop} (cx : CtxOk T d c X) (wf : Wf g H) (rs : RelSt T g st H) (r1 : RelR T.K g H w1 v1) (r2 : RelR T.K g H w2 v2)
    (h : Po T g H W σ P (evC T.G (n + 1) d op w1 w2 st)) (k : ∀ b st' g' H', Ext g H g' H' → Wf g' H' → RelSt T g' st' H' → P (.bl b) st' g' H' → Q (.bl b) H') :
    (fun x y H Q => rCmp X.K op x y H Q ∨ rW X (copOf op) x y H Q) v1 v2 H Q := by
  rw [evC.eq_def] at h
  simp only at h
  split at h
  · rename_i p
    refine .inr (sq.e c X .eq g st H _ w2 v1 v2 Q rfl cx wf rs r1 r2 ?_)
    refine (noexc_po (W' := fun _ _ _ _ => False) (σ' := []) h).bind.mono fun b st' g' H' e wf' rs' h' => ?_
    exact k b st' g' H' e wf' rs' (h'.ok wf' rs')
  · rename_i p
    cases d with
    | zero => exact h.elim
    | succ d =>
      refine .inr (sq.n d rfl c X g st H _ w2 v1 v2 Q cx wf rs r1 r2 ?_)
      refine (noexc_po (W' := fun _ _ _ _ => False) (σ' := []) h).bind.mono fun b st' g' H' e wf' rs' h' => ?_
      exact k (!b) st' g' H' e wf' rs' (h'.ok wf' rs')
  · obtain ⟨w, hw, h'⟩ := h.o2r wf rs
    cases hc : cmpop op w1 w2 with
    | none => rw [hc] at hw; exact nomatch hw
    | some b =>
      rw [hc] at hw
      injection hw with hw
      subst hw
      rw [cx.hK]
      exact .inl (cmp_ok hc r1 r2 (k b st g H .refl wf rs (h' g H .refl wf rs)))
theorem evC_pos {P : Pv.W → Sto → Gh → Hp → Prop} {op : Co} {w1 w2 : Pv.W} (h : Po T g H W σ P (evC T.G n d op w1 w2 st)) : ∃ m, n = m + 1 := by
  cases n with
  | zero => simp only [evC] at h; exact h.elim
  | succ m => exact ⟨m, rfl⟩
theorem s_cmp (se : SE T n d) (sq : ∀ m, m < n → SQ T m d) {op : Co} {a b : Expr} {x y : Ex} {pos : Pos} (ta : TrE T c a x) (tb : TrE T c b y) (hm : behindInMarks (copOf op) b = false) (at_ : At T d c X W g st H σE σ)
    (h : Po T g H W σ (fun w st' g' H' => ∀ v, RelZ T.K g' H' w v → Q v H') ((evE T.G n d σE st x).bind fun x st => (evE T.G n d σE st y).bind fun y st => evC T.G n d op x y st)) : wE X (.Compare a [copOf op] [b] pos) σ H Q := by
  refine (pe_cmpR ((op_cmp at_.ctx.hu op).or op_w) pe_w pe_w hm).w ?_
  show wE X a σ H fun v H1 => wE X b σ H1 fun u H2 => (fun x y H Q => rCmp X.K op x y H Q ∨ rW X (copOf op) x y H Q) v u H2 Q
  refine se.bo ta at_ h.bind fun w1 st1 g1 H1 v1 a1 e1 r1 h1 => ?_
  refine se.bo tb a1 h1.bind fun w2 st2 g2 H2 v2 a2 e2 r2 h2 => ?_
  obtain ⟨m, rfl⟩ := evC_pos h2
  exact cmpC (sq m (Nat.lt_succ_self m)) a2.ctx a2.wf a2.rst (r1.ext a1.wf e2) r2 h2 fun b st' g' H' _ _ _ h' => h' _ (.bl b)
theorem t_cmp (se : SE T n d) (sq : ∀ m, m < n → SQ T m d) {op : Co} {a b : Expr} {x y : Ex} {pos : Pos} {Q : Bool → Hp → Prop} (ta : TrE T c a x) (tb : TrE T c b y) (hm : behindInMarks (copOf op) b = false) (at_ : At T d c X W g st H σE σ)
    (h : Po T g H W σ (fun w st' g' H' => ∀ b, truthy w = some b → Q b H') ((evE T.G n d σE st x).bind fun x st => (evE T.G n d σE st y).bind fun y st => evC T.G n d op x y st)) : wT X (.Compare a [copOf op] [b] pos) σ H Q := by
  refine (pt_cmpR ((op_cmp at_.ctx.hu op).or op_w) pe_w pe_w hm).w ?_
  show wE X a σ H fun v H1 => wE X b σ H1 fun u H2 => (fun x y H Q => rCmp X.K op x y H Q ∨ rW X (copOf op) x y H Q) v u H2 _
  refine se.bo ta at_ h.bind fun w1 st1 g1 H1 v1 a1 e1 r1 h1 => ?_
  refine se.bo tb a1 h1.bind fun w2 st2 g2 H2 v2 a2 e2 r2 h2 => ?_
  obtain ⟨m, rfl⟩ := evC_pos h2
  exact cmpC (sq m (Nat.lt_succ_self m)) a2.ctx a2.wf a2.rst (r1.ext a1.wf e2) r2 h2 fun b st' g' H' _ _ _ h' => ⟨b, rfl, h' b rfl⟩
/-- a < b < c -/
theorem s_cmp2 (se : SE T n d) {op op' : Co} {a b e : Expr} {x y z : Ex} {pos : Pos} (ta : TrE T c a x) (tb : TrE T c b y) (te : TrE T c e z) (hm : behindInMarks (copOf op') e = false) (at_ : At T d c X W g st H σE σ)
    (h : Po T g H W σ (fun w st' g' H' => ∀ v, RelZ T.K g' H' w v → Q v H') ((evE T.G n d σE st x).bind fun x st => (evE T.G n d σE st y).bind fun y st => match cmpop op x y with
      | some true => (evE T.G n d σE st z).bind fun z st => o2r ((cmpop op' y z).map .bl) st
      | some false => .ok (.bl false) st
      | none => .err)) : wE X (.Compare a [copOf op, copOf op'] [b, e] pos) σ H Q := by
  refine (pe_chain (op_cmp at_.ctx.hu op) (op_cmp at_.ctx.hu op') pe_w pe_w pe_w (hm := hm)).w ?_
  show wE X a σ H fun v H1 => wE X b σ H1 fun u H2 => rCmp X.K op v u H2 fun z H3 => ∃ k, z = .bl k ∧ (if k = true then wE X e σ H3 fun w' H4 => rCmp X.K op' u w' H4 Q else Q (.bl false) H3)
  rw [at_.ctx.hK]
  refine se.bo ta at_ h.bind fun w1 st1 g1 H1 v1 a1 e1 r1 h1 => ?_
  refine se.bo tb a1 h1.bind fun w2 st2 g2 H2 v2 a2 e2 r2 h2 => ?_
  cases hc : cmpop op w1 w2 with
  | none => rw [hc] at h2; exact h2.elim
  | some b =>
    rw [hc] at h2
    refine cmp_ok hc (r1.ext a1.wf e2) r2 ⟨b, rfl, ?_⟩
    cases b with
    | false => exact iteF (h2.ok a2.wf a2.rst _ (.bl false))
    | true =>
      refine iteT (se.bo te a2 h2.bind fun w3 st3 g3 H3 v3 a3 e3 r3 h3 => ?_)
      obtain ⟨w, hw, h4⟩ := h3.o2r a3.wf a3.rst
      cases hc2 : cmpop op' w2 w3 with
      | none => rw [hc2] at hw; exact nomatch hw
      | some b =>
        rw [hc2] at hw
        injection hw with hw
        subst hw
        exact cmp_ok hc2 (r2.ext a2.wf e3) r3 (h4 g3 H3 .refl a3.wf a3.rst _ (.bl b))
theorem t_cmp2 (se : SE T n d) {op op' : Co} {a b e : Expr} {x y z : Ex} {pos : Pos} {Q : Bool → Hp → Prop} (ta : TrE T c a x) (tb : TrE T c b y) (te : TrE T c e z) (hm : behindInMarks (copOf op') e = false) (at_ : At T d c X W g st H σE σ)
    (h : Po T g H W σ (fun w st' g' H' => ∀ b, truthy w = some b → Q b H') ((evE T.G n d σE st x).bind fun x st => (evE T.G n d σE st y).bind fun y st => match cmpop op x y with
      | some true => (evE T.G n d σE st z).bind fun z st => o2r ((cmpop op' y z).map .bl) st
      | some false => .ok (.bl false) st
      | none => .err)) : wT X (.Compare a [copOf op, copOf op'] [b, e] pos) σ H Q := by
  refine (pt_chain (op_cmp at_.ctx.hu op) (op_cmp at_.ctx.hu op') pe_w pe_w pe_w (hm := hm)).w ?_
  show wE X a σ H fun v H1 => wE X b σ H1 fun u H2 => rCmp X.K op v u H2 fun z H3 => ∃ k, z = .bl k ∧ (if k = true then wE X e σ H3 fun w' H4 => rCmp X.K op' u w' H4 fun z H5 => ∃ k, z = .bl k ∧ Q k H5 else ∃ k, V.bl false = .bl k ∧ Q k H3)
  rw [at_.ctx.hK]
  refine se.bo ta at_ h.bind fun w1 st1 g1 H1 v1 a1 e1 r1 h1 => ?_
  refine se.bo tb a1 h1.bind fun w2 st2 g2 H2 v2 a2 e2 r2 h2 => ?_
  cases hc : cmpop op w1 w2 with
  | none => rw [hc] at h2; exact h2.elim
  | some b =>
    rw [hc] at h2
    refine cmp_ok hc (r1.ext a1.wf e2) r2 ⟨b, rfl, ?_⟩
    cases b with
    | false => exact iteF ⟨false, rfl, h2.ok a2.wf a2.rst _ rfl⟩
    | true =>
      refine iteT (se.bo te a2 h2.bind fun w3 st3 g3 H3 v3 a3 e3 r3 h3 => ?_)
      obtain ⟨w, hw, h4⟩ := h3.o2r a3.wf a3.rst
      cases hc2 : cmpop op' w2 w3 with
      | none => rw [hc2] at hw; exact nomatch hw
      | some b =>
        rw [hc2] at hw
        injection hw with hw
        subst hw
        exact cmp_ok hc2 (r2.ext a2.wf e3) r3 ⟨b, rfl, h4 g3 H3 .refl a3.wf a3.rst b rfl⟩
end
end Pv
end

section
set_option Elab.async false
set_option linter.all false
set_option maxRecDepth 100000
namespace Pv
open PySem PySem.Spec PyProof.Rows L2

theorem RelZs.isEmpty {K : PySem.W.Frag} {g : Gh} {H : Hp} {ws : List W} {vs : List V} (r : RelZs K g H ws vs) : ws.isEmpty = vs.isEmpty := by cases r <;> rfl
theorem tru_rel {K : PySem.W.Frag} {g : Gh} {H : Hp} {w : W} {v : V} {b : Bool} (h : truthy w = some b) (r : RelR K g H w v) : TruV K v H b := by
  unfold truthy at h
  split at h
  · cases r.non; injection h with h; exact h.symm
  · cases r.bl; injection h with h; exact h.symm
  · cases r.int; injection h with h; exact h.symm
  · rename_i x
    cases r.str
    cases hl : Nat.ble x.cps.size 16777216 with
    | false => rw [hl] at h; exact nomatch h
    | true =>
      rw [hl] at h
      injection h with h
      have hl := Nat.le_of_ble_eq_true hl
      refine ⟨by rw [sizeLine_eq]; exact hl, ?_⟩
      rw [← h]
      show (x.cps.size != 0) = (((x.cps.size : Nat) : Int) != 0)
      cases x.cps.size with
      | zero => rfl
      | succ n => simp [bne]; omega
  · obtain ⟨a, vs, rfl, ha, z⟩ := r.tup
    injection h with h
    exact .inr (.inl ⟨vs, ha, by rw [← z.isEmpty, h]⟩)
  · obtain ⟨a, vs, rfl, ha, z⟩ := r.lst
    injection h with h
    exact .inl ⟨vs, ha, by rw [← z.isEmpty, h]⟩
  · obtain ⟨a, kvs, rfl, ha, hk, z⟩ := r.dic
    injection h with h
    refine .inr (.inr ⟨kvs, ha, ?_⟩)
    rw [← h, hk]
    cases kvs <;> rfl
  · exact nomatch h

def SAnd (T : Tb) (n d : Nat) : Prop := ∀ (c : Cfg) (es : List Expr) (xs : List Ex), TrEs T c [] es xs → ∀ (pos : Pos) (X : Cx) (W : WX) (g : Gh) (st : Sto) (H : Hp) (σE : Fr) (σ : L2.St) (Q : VK), At T d c X W g st H σE σ →
  Po T g H W σ (fun w st' g' H' => ∀ v, RelZ T.K g' H' w v → Q v H') (evAnd T.G n d σE st xs) → wE X (.BoolOp .And es pos) σ H Q
def SOr (T : Tb) (n d : Nat) : Prop := ∀ (c : Cfg) (es : List Expr) (xs : List Ex), TrEs T c [] es xs → ∀ (pos : Pos) (X : Cx) (W : WX) (g : Gh) (st : Sto) (H : Hp) (σE : Fr) (σ : L2.St) (Q : VK), At T d c X W g st H σE σ →
  Po T g H W σ (fun w st' g' H' => ∀ v, RelZ T.K g' H' w v → Q v H') (evOr T.G n d σE st xs) → wE X (.BoolOp .Or es pos) σ H Q
def wW (X : Cx) (e : Expr) : TT := fun σ H Q => ∀ (whole : Sem Value) (pins : List (Addr × PySem.Obj)) (s : Shared), Inv X pins σ H s → wpAny (model X.prog X.w) X.A (isTrue e X.env whole) (TP X pins σ Q) X.xe s
theorem pw_w {X : Cx} {e : Expr} : PW X e (wW X e) := ⟨fun whole pins s σ H Q I h => h whole pins s I⟩
theorem _root_.L2.PW.w {X : Cx} {e : Expr} {t : TT} (h : PW X e t) {σ : L2.St} {H : Hp} {Q : Bool → Hp → Prop} (ht : t σ H Q) : wW X e σ H Q := fun whole pins s I => h.run whole pins s σ H Q I ht
def STA (T : Tb) (n d : Nat) : Prop := ∀ (c : Cfg) (es : List Expr) (xs : List Ex), TrTs T c es xs → es ≠ [] → ∀ (pos : Pos) (X : Cx) (W : WX) (g : Gh) (st : Sto) (H : Hp) (σE : Fr) (σ : L2.St) (Q : Bool → Hp → Prop), At T d c X W g st H σE σ →
  Po T g H W σ (fun b st' g' H' => Q b H') (evTA T.G n d σE st xs) → wW X (.BoolOp .And es pos) σ H Q
def STO (T : Tb) (n d : Nat) : Prop := ∀ (c : Cfg) (es : List Expr) (xs : List Ex), TrTs T c es xs → es ≠ [] → ∀ (pos : Pos) (X : Cx) (W : WX) (g : Gh) (st : Sto) (H : Hp) (σE : Fr) (σ : L2.St) (Q : Bool → Hp → Prop), At T d c X W g st H σE σ →
  Po T g H W σ (fun b st' g' H' => Q b H') (evTO T.G n d σE st xs) → wW X (.BoolOp .Or es pos) σ H Q
section
variable {T : Tb} {n d : Nat} {c : Cfg} {X : Cx} {W : WX} {g : Gh} {st : Sto} {H : Hp} {σE : Fr} {σ : L2.St} {Q : VK}
theorem s_not (se : SE T n d) {a : Expr} {x : Ex} {pos : Pos} (ta : TrE T c a x) (at_ : At T d c X W g st H σE σ)
    (h : Po T g H W σ (fun w st' g' H' => ∀ v, RelZ T.K g' H' w v → Q v H') ((evE T.G n d σE st x).bind fun w st => match w with | .bl b => .ok (.bl !b) st | _ => .err)) : wE X (.UnaryOp .Not a pos) σ H Q := by
  refine (pe_not pe_w).w ?_
  show wE X a σ H fun v H1 => ∃ b, v = .bl b ∧ Q (.bl (!b)) H1
  refine se.bo ta at_ h.bind fun w1 st1 g1 H1 v1 a1 e1 r1 h1 => ?_
  cases w1 with
  | bl b => exact ⟨b, r1.bl, h1.ok a1.wf a1.rst _ (.bl _)⟩
  | _ => exact h1.elim
theorem s_ite (se : SE T n d) (stt : STt T n d) {t a b : Expr} {z x y : Ex} {pos : Pos} (tt : TrT T c t z) (ta : TrE T c a x) (tb : TrE T c b y) (hx : isO x = false) (hy : isO y = false) (at_ : At T d c X W g st H σE σ)
    (h : Po T g H W σ (fun w st' g' H' => ∀ v, RelZ T.K g' H' w v → Q v H') ((evT T.G n d σE st z).bind fun t st => match t with | true => evE T.G n d σE st x | false => evE T.G n d σE st y)) : wE X (.IfExp t a b pos) σ H Q := by
  refine (pe_ifExp pt_w pe_w pe_w).w ?_
  show wT X t σ H fun b1 H1 => if b1 = true then wE X a σ H1 Q else wE X b σ H1 Q
  refine stt c t z tt X W g st H σE σ _ at_ (h.bind.mono fun b1 st1 g1 H1 e1 wf1 rs1 h1 => ?_)
  have a1 := at_.ext e1 wf1 rs1
  cases b1 with
  | true => exact iteT (se.lk ta hx a1 h1 fun w st' g' H' v _ _ r h' => h' v r)
  | false => exact iteF (se.lk tb hy a1 h1 fun w st' g' H' v _ _ r h' => h' v r)
theorem sAnd_step (se : SE T n d) (sa : SAnd T n d) : SAnd T (n + 1) d := by
  intro c es xs ts pos X W g st H σE σ Q at_ h
  cases ts with
  | nil => simp only [evAnd] at h; exact h.elim
  | @more _ e x es xs te ho ts =>
    cases ts with
    | nil =>
      simp only [evAnd] at h
      exact (pe_one pe_w).w (se.lk te ho at_ h fun w st' g' H' v _ _ r h' => h' v r)
    | @more _ e' x' es xs te' ho' ts =>
      simp only [evAnd] at h
      refine (pe_and (pos := pos) pe_w pe_w).w ?_
      show wE X e σ H fun v H1 => ∃ b, v = .bl b ∧ if b = true then wE X (.BoolOp .And (e' :: es) pos) σ H1 Q else Q (.bl false) H1
      refine se.bo te at_ h.bind fun w1 st1 g1 H1 v1 a1 e1 r1 h1 => ?_
      cases w1 with
      | bl b =>
        refine ⟨b, r1.bl, ?_⟩
        cases b with
        | true => exact iteT (sa c _ _ (.more te' ho' ts) pos X W g1 st1 H1 σE σ Q a1 h1)
        | false => exact iteF (h1.ok a1.wf a1.rst _ (.bl false))
      | _ => exact h1.elim
theorem sOr_step (se : SE T n d) (sa : SOr T n d) : SOr T (n + 1) d := by
  intro c es xs ts pos X W g st H σE σ Q at_ h
  cases ts with
  | nil => simp only [evOr] at h; exact h.elim
  | @more _ e x es xs te ho ts =>
    cases ts with
    | nil =>
      simp only [evOr] at h
      exact (pe_one pe_w).w (se.lk te ho at_ h fun w st' g' H' v _ _ r h' => h' v r)
    | @more _ e' x' es xs te' ho' ts =>
      simp only [evOr] at h
      refine (pe_or (pos := pos) pe_w pe_w).w ?_
      show wE X e σ H fun v H1 => ∃ b, v = .bl b ∧ if b = true then Q (.bl true) H1 else wE X (.BoolOp .Or (e' :: es) pos) σ H1 Q
      refine se.bo te at_ h.bind fun w1 st1 g1 H1 v1 a1 e1 r1 h1 => ?_
      cases w1 with
      | bl b =>
        refine ⟨b, r1.bl, ?_⟩
        cases b with
        | true => exact iteT (h1.ok a1.wf a1.rst _ (.bl true))
        | false => exact iteF (sa c _ _ (.more te' ho' ts) pos X W g1 st1 H1 σE σ Q a1 h1)
      | _ => exact h1.elim
theorem sTA_step (stt : STt T n d) (sa : STA T n d) : STA T (n + 1) d := by
  intro c es xs ts hne pos X W g st H σE σ Q at_ h
  cases ts with
  | nil => exact absurd rfl hne
  | @cons _ e x es xs te ts =>
    simp only [evTA] at h
    cases ts with
    | nil =>
      refine (pw_and1 pt_w).w ?_
      refine stt c e x te X W g st H σE σ Q at_ (h.bind.mono fun b st1 g1 H1 e1 wf1 rs1 h1 => ?_)
      cases b with
      | true =>
        cases n with
        | zero => simp only [evTA] at h1; exact h1.elim
        | succ m => simp only [evTA] at h1; exact h1.ok wf1 rs1
      | false => exact h1.ok wf1 rs1
    | @cons _ e' x' es xs te' ts =>
      refine (pw_and (pos := pos) pt_w pw_w).w ?_
      show wT X e σ H fun b H1 => if b = true then wW X (.BoolOp .And (e' :: es) pos) σ H1 Q else Q false H1
      refine stt c e x te X W g st H σE σ _ at_ (h.bind.mono fun b st1 g1 H1 e1 wf1 rs1 h1 => ?_)
      cases b with
      | true => exact iteT (sa c _ _ (.cons te' ts) (by simp) pos X W g1 st1 H1 σE σ Q (at_.ext e1 wf1 rs1) h1)
      | false => exact iteF (h1.ok wf1 rs1)
theorem sTO_step (stt : STt T n d) (sa : STO T n d) : STO T (n + 1) d := by
  intro c es xs ts hne pos X W g st H σE σ Q at_ h
  cases ts with
  | nil => exact absurd rfl hne
  | @cons _ e x es xs te ts =>
    simp only [evTO] at h
    cases ts with
    | nil =>
      refine (pw_or1 pt_w).w ?_
      refine stt c e x te X W g st H σE σ Q at_ (h.bind.mono fun b st1 g1 H1 e1 wf1 rs1 h1 => ?_)
      cases b with
      | false =>
        cases n with
        | zero => simp only [evTO] at h1; exact h1.elim
        | succ m => simp only [evTO] at h1; exact h1.ok wf1 rs1
      | true => exact h1.ok wf1 rs1
    | @cons _ e' x' es xs te' ts =>
      refine (pw_or (pos := pos) pt_w pw_w).w ?_
      show wT X e σ H fun b H1 => if b = true then Q true H1 else wW X (.BoolOp .Or (e' :: es) pos) σ H1 Q
      refine stt c e x te X W g st H σE σ _ at_ (h.bind.mono fun b st1 g1 H1 e1 wf1 rs1 h1 => ?_)
      cases b with
      | true => exact iteT (h1.ok wf1 rs1)
      | false => exact iteF (sa c _ _ (.cons te' ts) (by simp) pos X W g1 st1 H1 σE σ Q (at_.ext e1 wf1 rs1) h1)
theorem evT_val {x : Ex} (h : tv x = true) : evT T.G (n + 1) d σE st x = (evE T.G n d σE st x).bind fun w st => o2r (truthy w) st := by
  cases x <;> first | (simp [tv] at h; done) | (rw [evT.eq_def])
theorem plainT_ok {e : Expr} (h : plainT e = true) (env : Env) : ∀ whole, isTrue e env whole = (do let v ← whole; standAt e.pos; holding [v] (PySem.truthy v)) := by
  intro whole
  cases e with
  | UnaryOp op a pos => cases op <;> first | rfl | exact nomatch h
  | BoolOp _ _ _ => exact nomatch h
  | IfExp _ _ _ _ => exact nomatch h
  | Compare _ _ _ _ => exact nomatch h
  | _ => rfl
theorem sT_step (se : SE T n d) (stt : STt T n d) (sa : STA T n d) (so : STO T n d) (sq : ∀ m, m < n → SQ T m d) (se' : ∀ m, m < n → SE T m d) (sq' : ∀ m, m < n → ∀ k, k < m → SQ T k d) : STt T (n + 1) d := by
  intro c e x tt X W g st H σE σ Q at_ h
  cases tt with
  | not ta =>
    simp only [evT] at h
    refine (pt_not pt_w).w ?_
    exact stt c _ _ ta X W g st H σE σ _ at_ (h.bind.mono fun b st1 g1 H1 e1 wf1 rs1 h1 => h1.ok wf1 rs1)
  | and ts hne => simp only [evT] at h; exact (PW.pt pw_w).w (sa c _ _ ts hne _ X W g st H σE σ Q at_ h)
  | or ts hne => simp only [evT] at h; exact (PW.pt pw_w).w (so c _ _ ts hne _ X W g st H σE σ Q at_ h)
  | cmp te htv =>
    rw [evT_val htv] at h
    cases n with
    | zero => simp only [evE] at h; exact h.elim
    | succ m =>
      cases te with
      | cmp ta tb hm =>
        simp only [evE] at h
        refine t_cmp (se' m (Nat.lt_succ_self m)) (fun k hk => sq' m (Nat.lt_succ_self m) k hk) ta tb hm at_ (h.bind.mono fun w st1 g1 H1 e1 wf1 rs1 h1 b hb => ?_)
        obtain ⟨b', hb', h2⟩ := h1.o2r wf1 rs1
        rw [hb] at hb'
        injection hb' with hb'
        subst hb'
        exact h2 g1 H1 .refl wf1 rs1
      | cmp2 ta tb te hm =>
        simp only [evE] at h
        refine t_cmp2 (se' m (Nat.lt_succ_self m)) ta tb te hm at_ (h.bind.mono fun w st1 g1 H1 e1 wf1 rs1 h1 b hb => ?_)
        obtain ⟨b', hb', h2⟩ := h1.o2r wf1 rs1
        rw [hb] at hb'
        injection hb' with hb'
        subst hb'
        exact h2 g1 H1 .refl wf1 rs1
  | val te hp htv =>
    rw [evT_val htv] at h
    refine (pt_truth pe_w (plainT_ok hp X.env)).w ?_
    show wE X e σ H fun v H1 => ∃ k, TruV X.K v H1 k ∧ Q k H1
    rw [at_.ctx.hK]
    refine se.bo te at_ h.bind fun w st1 g1 H1 v a1 e1 r1 h1 => ?_
    obtain ⟨b, hb, h2⟩ := h1.o2r a1.wf a1.rst
    exact ⟨b, tru_rel hb r1, h2 g1 H1 .refl a1.wf a1.rst⟩
end
end Pv
end

section
set_option Elab.async false
set_option linter.all false
set_option maxRecDepth 100000
namespace Pv
open PySem PySem.Spec PyProof.Rows L2

/-! ### a call's ghosts -/
def hideT : Option Tag → Option Tag
  | some (.sl _) => some .ot
  | t => t
def Gh.hide (g : Gh) : Gh := { g with ow := fun a => hideT (g.ow a) }
def outT : Option Tag → Option Tag
  | some .sh => some .sh
  | some (.fld n f) => some (.fld n f)
  | _ => none
open Classical in
noncomputable def Gh.merge (g : Gh) (H : Hp) (g' : Gh) : Gh := { ow := fun a => if H a = none then outT (g'.ow a) else g.ow a, io := g'.io, lam := g'.lam }
section
variable {T : Tb} {K : PySem.W.Frag} {g g' : Gh} {H H' : Hp} {w : W} {v : V} {st : Sto}
theorem hideT_none {t : Option Tag} (h : hideT t = none) : t = none := by
  cases t with
  | none => rfl
  | some t => cases t <;> exact nomatch h
theorem hideT_sh {t : Option Tag} (h : hideT t = some .sh) : t = some .sh := by
  cases t with
  | none => exact nomatch h
  | some t => cases t <;> first | rfl | exact nomatch h
theorem hideT_fld {t : Option Tag} {n f : Nat} (h : hideT t = some (.fld n f)) : t = some (.fld n f) := by
  cases t with
  | none => exact nomatch h
  | some t => cases t <;> first | exact h | exact nomatch h
theorem hideT_notFld {t : Option Tag} (h : notFld t) : notFld (hideT t) := fun n f z => h n f (hideT_fld z)
theorem hideT_sl {t : Option Tag} (i : Nat) : hideT t ≠ some (.sl i) := by
  cases t with
  | none => exact nofun
  | some t => cases t <;> exact nofun
theorem hide_wf (wf : Wf g H) : Wf g.hide H := fun a t h => by
  cases e : g.ow a with
  | none =>
    have h : hideT (g.ow a) = some t := h
    rw [e] at h; exact nomatch h
  | some t' => exact wf a t' e
theorem hide_mo : Mo K g H g.hide H where
  sh := fun a h => by show hideT (g.ow a) = _; rw [h]; rfl
  lst := fun _ _ h _ => h
  frz := fun _ _ _ h => h
  tup := fun _ _ h => h
  io := fun _ _ h => h
  lam := rfl
  ext := fun _ _ h => h
theorem RootO.hide {t : Option Tag} (r : RootO K g H t w v) : RootO K g.hide H (hideT t) w v := by
  cases r with
  | lst h q r => exact .lst h (by show hideT (g.ow _) = _; rw [q]) (r.mo hide_mo)
  | dic h q k r => exact .dic h (by show hideT (g.ow _) = _; rw [q]) k (r.mo hide_mo)
theorem FldR.hide {n f : Nat} (r : FldR T g H n f w v) : FldR T g.hide H n f w v := by
  rcases r with r | ⟨o, r⟩
  · exact .inl (r.mo hide_mo)
  · exact .inr ⟨o, r.hide⟩
theorem FsR.hide {n : Nat} : ∀ {fs : List (Nat × W)} {vs : List (Str × V)}, FsR T g H n fs vs → FsR T g.hide H n fs vs
  | _, _, .nil => .nil
  | _, _, .cons r rs => .cons r.hide (FsR.hide rs)
theorem RelSt.hide (r : RelSt T g st H) : RelSt T g.hide st H :=
  ⟨r.len, fun n o e => let ⟨x, dx, fs, h1, h2, h3⟩ := r.ob n o e; ⟨x, dx, fs, h1, h2, h3.hide⟩, r.inj, r.na, r.lam, r.tb.ow fun p n f q => by show hideT (g.ow p) = _; rw [q]; rfl⟩
theorem RelR.hide (r : RelR K g H w v) : RelB K g.hide H w v := by
  rcases r with r | ⟨t, n, r⟩
  · exact .inl (r.mo hide_mo)
  · exact .inr ⟨hideT t, hideT_notFld n, fun i => hideT_sl i, r.hide⟩
theorem merge_none {a : Addr} (h : H a = none) : (g.merge H g').ow a = outT (g'.ow a) := if_pos h
theorem merge_some {a : Addr} {o : HO} (h : H a = some o) : (g.merge H g').ow a = g.ow a := if_neg (by rw [h]; simp)
theorem outT_some {t : Option Tag} {u : Tag} (h : outT t = some u) : t = some u := by
  cases t with
  | none => exact nomatch h
  | some t => cases t <;> first | exact h | exact nomatch h
/-- what the callee's ghost says of an object that stood ahead -/
theorem back_tag (e : Ext g.hide H g' H') {a : Addr} {o : HO} (h : H a = some o) : g'.ow a = hideT (g.ow a) := by
  cases q : hideT (g.ow a) with
  | none => exact e.nt a o h q
  | some t => exact e.tag a t q
theorem merge_ext (wf : Wf g H) (e : Ext g.hide H g' H') : Ext g H (g.merge H g') H' where
  tag := fun a t h => by
    obtain ⟨o, q, _⟩ := wf a t h
    rw [merge_some q]; exact h
  nt := fun a o h n => by rw [merge_some h]; exact n
  keep := fun a o h n i => e.keep a o h (hideT_notFld n) i
  ins := e.ins
  there := e.there
  io := e.io
  lam := e.lam
theorem merge_wf (wf : Wf g H) (e : Ext g.hide H g' H') (wf' : Wf g' H') : Wf (g.merge H g') H' := fun a t h => by
  cases q : H a with
  | none =>
    rw [merge_none q] at h
    exact wf' a t (outT_some h)
  | some o =>
    rw [merge_some q] at h
    have b := back_tag e q
    rw [h] at b
    cases c : hideT (some t) with
    | none => exact nomatch hideT_none c
    | some t' => rw [c] at b; exact wf' a t' b
theorem merge_sh (e : Ext g.hide H g' H') {a : Addr} (h : g'.ow a = some .sh) : (g.merge H g').ow a = some .sh := by
  cases q : H a with
  | none => rw [merge_none q, h]; rfl
  | some o => rw [merge_some q]; exact hideT_sh ((back_tag e q).symm.trans h)
theorem merge_fld (e : Ext g.hide H g' H') {a : Addr} {n f : Nat} (h : g'.ow a = some (.fld n f)) : (g.merge H g').ow a = some (.fld n f) := by
  cases q : H a with
  | none => rw [merge_none q, h]; rfl
  | some o => rw [merge_some q]; exact hideT_fld ((back_tag e q).symm.trans h)
theorem merge_mo (e : Ext g.hide H g' H') : Mo K g' H' (g.merge H g') H' where
  sh := fun a h => merge_sh e h
  lst := fun _ _ h _ => h
  frz := fun _ _ _ h => h
  tup := fun _ _ h => h
  io := fun _ _ h => h
  lam := rfl
  ext := fun _ _ h => h
theorem FldR.merge (e : Ext g.hide H g' H') {n f : Nat} (r : FldR T g' H' n f w v) : FldR T (g.merge H g') H' n f w v := by
  rcases r with r | ⟨o, r⟩
  · exact .inl (r.mo (merge_mo e))
  · refine .inr ⟨o, ?_⟩
    cases r with
    | lst h q r => exact .lst h (merge_fld e q) (r.mo (merge_mo e))
    | dic h q k r => exact .dic h (merge_fld e q) k (r.mo (merge_mo e))
theorem FsR.merge (e : Ext g.hide H g' H') {n : Nat} : ∀ {fs : List (Nat × W)} {vs : List (Str × V)}, FsR T g' H' n fs vs → FsR T (g.merge H g') H' n fs vs
  | _, _, .nil => .nil
  | _, _, .cons r rs => .cons (r.merge e) (FsR.merge e rs)
theorem RelSt.merge (e : Ext g.hide H g' H') (r : RelSt T g' st H') : RelSt T (g.merge H g') st H' :=
  ⟨r.len, fun n o q => let ⟨x, dx, fs, h1, h2, h3⟩ := r.ob n o q; ⟨x, dx, fs, h1, h2, h3.merge e⟩, r.inj, r.na, r.lam, r.tb.ow fun p n f q => merge_fld e q⟩
theorem RelK.merge {k : Kn} (hk : k ≠ .bo) (e : Ext g.hide H g' H') (r : RelK K k H g' H' w v) : RelK K k H (g.merge H g') H' w v := by
  cases k with
  | bo => exact absurd rfl hk
  | lk => exact RelZ.mo (merge_mo e) r
  | fr =>
    rcases (show RelFr K H g' H' w v from r) with ⟨c, r⟩ | ⟨r, n⟩
    · exact .inl ⟨c, r.mo (merge_mo e)⟩
    · refine .inr ⟨?_, n⟩
      cases r with
      | lst h q r2 => exact .lst h (by rw [merge_none (n _ rfl), q]; rfl) (RelZs.mo (merge_mo e) r2)
      | dic h q k r2 => exact .dic h (by rw [merge_none (n _ rfl), q]; rfl) k (RelZs.mo (merge_mo e) r2)
theorem RelPl.merge {pl : List (Nat × Pv.W)} {dd : Option Addr} (e : Ext g.hide H g' H') (r : RelPl T pl g' H' dd) : RelPl T pl (g.merge H g') H' dd := by
  cases pl with
  | nil => exact r
  | cons p ps =>
    obtain ⟨f, w⟩ := p
    cases ps with
    | nil =>
      obtain ⟨d, v, h1, h2, h3⟩ := (show ∃ d v, dd = some d ∧ H' d = some (.xd [(T.nm f, v)]) ∧ RelZ T.K g' H' w v from r)
      exact ⟨d, v, h1, h2, h3.mo (merge_mo e)⟩
    | cons _ _ => exact (show False from r).elim
end

section
variable {T : Tb} {n d : Nat} {c : Cfg} {X : Cx} {W : WX} {g : Gh} {st : Sto} {H : Hp} {σE : Fr} {σ : L2.St} {Q : VK}
theorem evF_len {P : Pv.W → Sto → Gh → Hp → Prop} {f : Nat} {fd : FDef} {ws : List Pv.W} (hf : T.G.fn.find f = some fd) (h : Po T g H W σ P (evF T.G n d f ws st)) : ws.length = fd.np := by
  cases n with
  | zero => simp only [evF] at h; exact h.elim
  | succ n =>
    cases d with
    | zero => simp only [evF] at h; exact h.elim
    | succ d =>
      simp only [evF, hf] at h
      cases hb : Nat.beq ws.length fd.np with
      | false => rw [hb] at h; exact h.elim
      | true => exact Nat.eq_of_beq_eq_true hb
/-- the callee's promise, from the evaluator's answer -/
theorem spF_of {f : Nat} {fd : FDef} {ws : List Pv.W} {vs : List V} (hf : T.G.fn.find f = some fd) (wf : Wf g H) (rs : RelSt T g st H)
    (ha : ∀ (i : Nat) (w : Pv.W), ws[i]? = some w → ∃ v, vs[i]? = some v ∧ (if i ∈ fd.bor then RelR T.K g H w v else RelZ T.K g H w v)) (hl : ws.length = vs.length)
    (h : Po T g H W σ (fun w st' g' H' => ∀ v, RelK T.K (if fd.fr then .fr else .lk) H g' H' w v → Q v H') (evF T.G n d f ws st)) : spF T d f fd vs H Q (WE W σ) := by
  refine ⟨by rw [← hl]; exact evF_len hf h, n, st, g.hide, ws, hide_wf wf, rs.hide, fun a i => hideT_sl i, fun i w hw => ?_, hl, ?_⟩
  · obtain ⟨v, h1, h2⟩ := ha i w hw
    refine ⟨v, h1, ?_⟩
    split
    · rename_i hb; rw [if_pos hb] at h2; exact h2.hide
    · rename_i hb; rw [if_neg hb] at h2; exact h2.mo hide_mo
  · have hk : (if fd.fr = true then Kn.fr else Kn.lk) ≠ Kn.bo := by split <;> decide
    cases q : evF T.G n d f ws st with
    | ok w st' =>
      rw [q] at h
      intro g' H' e wf' rs' v r
      exact h _ H' (merge_ext wf e) (merge_wf wf e wf') (rs'.merge e) v (r.merge hk e)
    | exc ci pl st' =>
      rw [q] at h
      intro g' H' dd e wf' rs' r
      exact h _ H' dd (merge_ext wf e) (merge_wf wf e wf') (rs'.merge e) (r.merge e)
    | err => rw [q] at h; exact h
theorem RelMs.get {K : PySem.W.Frag} : ∀ {ms : List Bool} {ws : List Pv.W} {vs : List V} {i : Nat} {w : Pv.W}, RelMs K g H ms ws vs → ws[i]? = some w → ∃ v, vs[i]? = some v ∧ (if ms[i]? = some true then RelR K g H w v else RelZ K g H w v)
  | _, _, _, _, _, .nil, e => by simp at e
  | m :: ms, _, _, 0, _, .cons r _, e => by
    simp at e; subst e
    refine ⟨_, rfl, ?_⟩
    cases m <;> simpa using r
  | m :: ms, _, _, i + 1, w, .cons _ t, e => by
    obtain ⟨u, h1, h2⟩ := RelMs.get (i := i) (w := w) t (by simpa using e)
    exact ⟨u, by simpa using h1, by simpa using h2⟩
  | [], _, _, 0, _, .more r _, e => by
    simp at e; subst e
    exact ⟨_, rfl, by simpa using r⟩
  | [], _, _, i + 1, w, .more _ t, e => by
    obtain ⟨u, h1, h2⟩ := RelMs.get (i := i) (w := w) t (by simpa using e)
    exact ⟨u, by simpa using h1, by simpa using h2⟩
theorem kn_call {f : Nat} {fd : FDef} {xs : List Ex} (hf : T.G.fn.find f = some fd) : kn T (.call f xs) = if fd.fr then .fr else .lk := by
  simp only [kn, hf]
theorem plain_args {T : Tb} {c : Cfg} (pos : Pos) (env : Env) : ∀ {ms : List Bool} {es : List Expr} {xs : List Ex}, TrEs T c ms es xs → (backTo pos (starEach es env)).any (·.1) = false
  | _, _, _, .nil => rfl
  | _, _, _, .cons te _ ts => by rw [star_ok te]; show (false || (backTo pos (starEach _ env)).any (·.1)) = false; rw [plain_args pos env ts]; rfl
  | _, _, _, .more te _ ts => by rw [star_ok te]; show (false || (backTo pos (starEach _ env)).any (·.1)) = false; rw [plain_args pos env ts]; rfl
theorem TrEs.tail {ms : List Bool} {e : Expr} {es : List Expr} {x : Ex} {xs : List Ex} (t : TrEs T c ms (e :: es) (x :: xs)) : TrE T c e x ∧ ∃ ms', TrEs T c ms' es xs := by
  cases t with
  | cons h _ t => exact ⟨h, _, t⟩
  | more h _ t => exact ⟨h, _, t⟩
theorem s_call (ses : SEs T n d) {f : Nat} {fd : FDef} {e : Expr} {es : List Expr} {x : Ex} {xs : List Ex} {p pos : Pos} (hf : T.G.fn.find f = some fd) (hg : GlS c.sc (T.nm f)) (hm : T.mg (T.nm f) = some (.ref (T.fa f)))
    (ts : TrEs T c ((List.range fd.np).map fun i => decide (i ∈ fd.bor)) (e :: es) (x :: xs)) (a : At T d c X W g st H σE σ)
    (h : Po T g H W σ (fun w st' g' H' => ∀ v, RelK T.K (if fd.fr then .fr else .lk) H g' H' w v → Q v H') ((evEs T.G n d σE st (x :: xs)).bind fun ws st => evF T.G n d f ws st)) : wE X (.Call (.Name (T.nm f) p) (e :: es) [] pos) σ H Q := by
  obtain ⟨fdt, ps, hk, hb, hl, F⟩ := (a.ctx.fns d (Nat.le_refl d) f fd hf).ex
  obtain ⟨te, ms', ts'⟩ := ts.tail
  refine (pe_callS (E := WE W) (sp := spF T d f fd) (by rw [a.ctx.hK, a.ctx.hm]; exact F) a.ctx.room (by show X.env.scope.names.lookup _ = _; rw [a.ctx.sc]; exact hg.1) (by rw [a.ctx.hm]; exact hm) (by rw [a.ctx.hK]; exact hk) (by rw [a.ctx.hK]; exact hb)
    (fun σ => passAt a.tk σ) pa_w hg.2 (star_ok te es X.env) (plain_args pos X.env ts')).w ?_
  show wA X (e :: es) σ H fun vs H1 => spF T d f fd vs H1 Q (WE W σ)
  refine ses c _ (e :: es) (x :: xs) ts X W g st H σE σ _ a (h.bind.mono fun ws st1 g1 H1 e1 wf1 rs1 h1 vs rv => ?_)
  refine spF_of hf wf1 rs1 (fun i w hw => ?_) rv.length (h1.mono fun w st' g' H' e2 wf2 rs2 h2 v r => h2 v ?_)
  · obtain ⟨v, h3, h4⟩ := rv.get hw
    refine ⟨v, h3, ?_⟩
    have hi : i < fd.np := by
      have h5 := evF_len hf h1
      have h6 := (List.getElem?_eq_some_iff.mp hw).1
      omega
    have hms : ((List.range fd.np).map fun i => decide (i ∈ fd.bor))[i]? = some (decide (i ∈ fd.bor)) := by
      rw [List.getElem?_map, List.getElem?_range hi]; rfl
    rw [hms] at h4
    by_cases hbi : i ∈ fd.bor
    · rw [if_pos (by rw [decide_eq_true hbi])] at h4; rw [if_pos hbi]; exact h4
    · rw [if_neg (by rw [decide_eq_false hbi]; simp)] at h4; rw [if_neg hbi]; exact h4
  · cases hfr : fd.fr with
    | false => rw [hfr] at r; exact r
    | true => rw [hfr] at r; exact RelFr.back (fun a z => e1.free z) (show RelFr T.K H1 g' H' w v from r)
theorem pe_call0S {CX : CXT} {k : Nat} {f : Addr} {fd : FuncData} {ps : List Str} {sp : Sp} {E : L2.St → XK} {x : Str} {p pos : Pos} (F : FnOk X.prog X.w X.K X.mg X.base CX k f fd ps sp) (hr : Room k X.A) (hg : Gl X x) (hm : X.mg x = some (.ref f)) (hk : PySem.W.keepIn X.K (.ref f) = true) (hb : Binds X.K fd ps []) (hx : ∀ σ, PassesAt CX X σ (E σ))
    (hdb : (x == ("__debug__" : Str)) = false) : PE X (.Call (.Name x p) [] [] pos) (fun σ H Q => sp [] H Q (E σ)) := by
  refine ⟨fun pins s σ H Q I h => ?_⟩
  refine wpAny_Call_Name_kw (ld_glob I hg hm ?_ hdb)
  exact PySem.W.callWith_K0 I.kIn hk (run_fnS (us := []) F hr hb (hx σ) I .nil h)
theorem s_call0 {f : Nat} {fd : FDef} {p pos : Pos} (hf : T.G.fn.find f = some fd) (hg : GlS c.sc (T.nm f)) (hm : T.mg (T.nm f) = some (.ref (T.fa f))) (a : At T d c X W g st H σE σ)
    (h : Po T g H W σ (fun w st' g' H' => ∀ v, RelK T.K (if fd.fr then .fr else .lk) H g' H' w v → Q v H') (evF T.G n d f [] st)) : wE X (.Call (.Name (T.nm f) p) [] [] pos) σ H Q := by
  obtain ⟨fdt, ps, hk, hb, hl, F⟩ := (a.ctx.fns d (Nat.le_refl d) f fd hf).ex
  refine (pe_call0S (E := WE W) (sp := spF T d f fd) (by rw [a.ctx.hK, a.ctx.hm]; exact F) a.ctx.room (by show X.env.scope.names.lookup _ = _; rw [a.ctx.sc]; exact hg.1) (by rw [a.ctx.hm]; exact hm) (by rw [a.ctx.hK]; exact hk) (by rw [a.ctx.hK]; exact hb)
    (fun σ => passAt a.tk σ) hg.2).w ?_
  exact spF_of hf a.wf a.rst (fun i w hw => by simp at hw) rfl h
end
end Pv
end

section
set_option Elab.async false
set_option linter.all false
set_option maxRecDepth 100000
namespace Pv
open PySem PySem.Spec PyProof.Rows L2

theorem bfv_boot {b : Bf} {nm : Str} {u : Value} (h : BfV b nm u) : bootBuiltins nm = some u := by cases h <;> decide +kernel
theorem bfv_name {b : Bf} {nm : Str} {u : Value} (h : BfV b nm u) : nm ≠ "__name__" := by cases h <;> decide +kernel
theorem allT_some : ∀ (ws : List W) (b : Bool), allT ws = some b → ∃ bs : List Bool, ws = bs.map W.bl ∧ b = bs.all id
  | [], b, h => ⟨[], rfl, by injection h with h; exact h.symm⟩
  | w :: ws, b, h => by
    cases w with
    | bl c =>
      simp only [allT] at h
      cases q : allT ws with
      | none => rw [q] at h; exact nomatch h
      | some b' =>
        rw [q] at h
        injection h with h
        obtain ⟨bs, rfl, rfl⟩ := allT_some ws b' q
        exact ⟨c :: bs, rfl, by rw [← h]; rfl⟩
    | _ => exact nomatch h
theorem anyT_some : ∀ (ws : List W) (b : Bool), anyT ws = some b → ∃ bs : List Bool, ws = bs.map W.bl ∧ b = bs.any id
  | [], b, h => ⟨[], rfl, by injection h with h; exact h.symm⟩
  | w :: ws, b, h => by
    cases w with
    | bl c =>
      simp only [anyT] at h
      cases q : anyT ws with
      | none => rw [q] at h; exact nomatch h
      | some b' =>
        rw [q] at h
        injection h with h
        obtain ⟨bs, rfl, rfl⟩ := anyT_some ws b' q
        exact ⟨c :: bs, rfl, by rw [← h]; rfl⟩
    | _ => exact nomatch h
theorem RelZs.bls {K : PySem.W.Frag} {g : Gh} {H : Hp} : ∀ {bs : List Bool} {vs : List V}, RelZs K g H (bs.map W.bl) vs → vs = bs.map V.bl
  | [], _, .nil => rfl
  | b :: bs, _, .cons h t => by cases h; rw [RelZs.bls t]; rfl
section
variable {T : Tb} {n d : Nat} {c : Cfg} {X : Cx} {W : WX} {g : Gh} {st : Sto} {H : Hp} {σE : Fr} {σ : L2.St} {Q : VK}
theorem CtxOk.gl (a : CtxOk T d c X) {x : Str} (h : GlS c.sc x) : Gl X x := by show X.env.scope.names.lookup x = _; rw [a.sc]; exact h.1
/-- a call of a built-in with one value that is only read -/
theorem s_bf1 (se : SE T n d) {x : Ex} {e : Expr} {nm : Str} {u : Value} {p pos : Pos} {r : List V → Hp → VK → Prop} {P : Pv.W → Sto → Gh → Hp → Prop} {b : Bf} (hb : BfV b nm u) (hc : CallR X u r) (hg : GlS c.sc nm) (hm : T.mg nm = none) (te : TrE T c e x)
    (a : At T d c X W g st H σE σ) (h : Po T g H W σ P (evE T.G n d σE st x)) (k : ∀ w st' g' H' v, At T d c X W g' st' H' σE σ → Ext g H g' H' → RelR T.K g' H' w v → P w st' g' H' → r [v] H' Q) : wE X (.Call (.Name nm p) [e] [] pos) σ H Q := by
  have main : wA X [e] σ H fun vs H1 => r vs H1 Q := by
    refine (pa_cons pe_w pa_nil (star_ok te [] X.env)).w ?_
    show wE X e σ H fun v H1 => r [v] H1 Q
    exact se.bo te a h k
  have hpl : (backTo pos (starEach [] X.env)).any (·.1) = false := rfl
  cases hb with
  | len => exact (pe_callB (pos := pos) (p := p) hc (a.ctx.gl hg) (by rw [a.ctx.hm]; exact hm) (bfv_boot .len) pa_w (bfv_name .len) hg.2 (star_ok te [] X.env) hpl).w main
  | all => exact (pe_callB (pos := pos) (p := p) hc (a.ctx.gl hg) (by rw [a.ctx.hm]; exact hm) (bfv_boot .all) pa_w (bfv_name .all) hg.2 (star_ok te [] X.env) hpl).w main
  | any => exact (pe_callB (pos := pos) (p := p) hc (a.ctx.gl hg) (by rw [a.ctx.hm]; exact hm) (bfv_boot .any) pa_w (bfv_name .any) hg.2 (star_ok te [] X.env) hpl).w main
  | list => exact (pe_callTy (pos := pos) (p := p) hc (a.ctx.gl hg) (by rw [a.ctx.hm]; exact hm) (bfv_boot .list) pa_w (bfv_name .list) hg.2 (star_ok te [] X.env) hpl).w main
  | tuple => exact (pe_callTy (pos := pos) (p := p) hc (a.ctx.gl hg) (by rw [a.ctx.hm]; exact hm) (bfv_boot .tuple) pa_w (bfv_name .tuple) hg.2 (star_ok te [] X.env) hpl).w main
  | int => exact (pe_callTy (pos := pos) (p := p) hc (a.ctx.gl hg) (by rw [a.ctx.hm]; exact hm) (bfv_boot .int) pa_w (bfv_name .int) hg.2 (star_ok te [] X.env) hpl).w main
theorem evEs1 {P : List Pv.W → Sto → Gh → Hp → Prop} {x : Ex} (h : Po T g H W σ P (evEs T.G n d σE st [x])) (wf : Wf g H) : ∃ m, n = m + 1 ∧ Po T g H W σ (fun w st' g' H' => P [w] st' g' H') (evE T.G m d σE st x) := by
  cases n with
  | zero => simp only [evEs] at h; exact h.elim
  | succ m =>
    refine ⟨m, rfl, ?_⟩
    simp only [evEs] at h
    refine h.bind.mono fun w st' g' H' e wf' rs' h' => ?_
    have h' := h'.bind
    cases m with
    | zero => simp only [evEs] at h'; exact h'.elim
    | succ k => simp only [evEs] at h'; exact (h'.ok wf' rs').ok wf' rs'
theorem bf_ok {b : Bf} {nm : Str} {u : Value} (hb : BfV b nm u) (hbl : b ≠ .list) (hbt : b ≠ .tuple) {w1 w : Pv.W} {v1 : V} (h : bfun b [w1] = some w) (r1 : RelR T.K g H w1 v1) (hK : X.K = T.K) (hc : X.calm = true)
    (k : ∀ v, RelZ T.K g H w v → Q v H) : ∃ r, CallR X u r ∧ r [v1] H Q := by
  cases hb with
  | len =>
    refine ⟨_, call_len, v1, ?_⟩
    cases w1 with
    | str x =>
      cases r1.str
      simp only [bfun, ssize] at h
      cases hl : Nat.ble x.cps.size 16777216 with
      | false => rw [hl] at h; exact nomatch h
      | true =>
        rw [hl] at h
        injection h with h
        have hl := Nat.le_of_ble_eq_true hl
        exact ⟨x.cps.size, rfl, ⟨by rw [sizeLine_eq]; exact hl, rfl⟩, k _ (by rw [← h]; exact .int _)⟩
    | tup ws =>
      obtain ⟨a, vs, rfl, ha, z⟩ := r1.tup
      injection h with h
      exact ⟨vs.length, rfl, .inr ⟨vs, by rw [hK]; exact ha, rfl⟩, k _ (by rw [← h, ← z.length]; exact .int _)⟩
    | lst ws =>
      obtain ⟨a, vs, rfl, ha, z⟩ := r1.lst
      injection h with h
      exact ⟨vs.length, rfl, .inl ⟨vs, by rw [hK]; exact ha, rfl⟩, k _ (by rw [← h, ← z.length]; exact .int _)⟩
    | set ws => rcases r1 with r | ⟨_, _, r⟩ <;> cases r
    | _ => exact nomatch h
  | all =>
    refine ⟨_, cr_all hc, ?_⟩
    cases w1 with
    | lst ws =>
      obtain ⟨a, vs, rfl, ha, z⟩ := r1.lst
      simp only [bfun] at h
      cases q : allT ws with
      | none => rw [q] at h; exact nomatch h
      | some bb =>
        rw [q] at h
        injection h with h
        obtain ⟨bs, rfl, rfl⟩ := allT_some ws bb q
        cases z.bls
        exact ⟨a, bs, rfl, by rw [hK]; exact ha, k _ (by rw [← h]; exact .bl _)⟩
    | _ => exact nomatch h
  | any =>
    refine ⟨_, cr_any hc, ?_⟩
    cases w1 with
    | lst ws =>
      obtain ⟨a, vs, rfl, ha, z⟩ := r1.lst
      simp only [bfun] at h
      cases q : anyT ws with
      | none => rw [q] at h; exact nomatch h
      | some bb =>
        rw [q] at h
        injection h with h
        obtain ⟨bs, rfl, rfl⟩ := anyT_some ws bb q
        cases z.bls
        exact ⟨a, bs, rfl, by rw [hK]; exact ha, k _ (by rw [← h]; exact .bl _)⟩
    | _ => exact nomatch h
  | list => exact absurd rfl hbl
  | tuple => exact absurd rfl hbt
  | int =>
    refine ⟨_, call_int1, ?_⟩
    cases w1 with
    | int i => cases r1.int; injection h with h; exact .inl ⟨i, rfl, k _ (by rw [← h]; exact .int _)⟩
    | bl b => cases r1.bl; injection h with h; exact .inr ⟨b, rfl, k _ (by rw [← h, b2i_eq]; exact .int _)⟩
    | _ => exact nomatch h
end
end Pv
end

section
set_option Elab.async false
set_option linter.all false
set_option maxRecDepth 100000
namespace Pv
open PySem PySem.Spec PyProof.Rows L2

def rC (X : Cx) (u : Value) : List V → Hp → VK → Prop := fun xs H Q => ∀ (pins : List (Addr × PySem.Obj)) (s : Shared) (σ : L2.St) (us : List Value), Inv X pins σ H s → Vals xs us → wpAny (model X.prog X.w) X.A (call u us) (EP X pins σ Q) X.xe s
theorem call_w {X : Cx} {u : Value} : CallR X u (rC X u) := fun pins s σ H xs us Q I r h => h pins s σ us I r
theorem _root_.L2.CallR.w {X : Cx} {u : Value} {r : List V → Hp → VK → Prop} (h : CallR X u r) {xs : List V} {H : Hp} {Q : VK} (hr : r xs H Q) : rC X u xs H Q := fun pins s σ us I rv => h pins s σ H xs us Q I rv hr
section
variable {T : Tb} {n d : Nat} {c : Cfg} {X : Cx} {W : WX} {g : Gh} {st : Sto} {H : Hp} {σE : Fr} {σ : L2.St} {Q : VK}
theorem RelR.seq {w1 : Pv.W} {ws : List Pv.W} {v : V} (h : seqOf w1 = some ws) (r : RelR T.K g H w1 v) : ∃ a vs, v = .ref a ∧ (SqL T.K H a vs ∨ SqT T.K H a vs) ∧ RelZs T.K g H ws vs := by
  cases w1 with
  | tup us => injection h with h; subst h; obtain ⟨a, vs, e, ha, z⟩ := r.tup; exact ⟨a, vs, e, .inr ha, z⟩
  | lst us => injection h with h; subst h; obtain ⟨a, vs, e, ha, z⟩ := r.lst; exact ⟨a, vs, e, .inl ha, z⟩
  | _ => exact nomatch h
theorem s_bf (se : ∀ m, m ≤ n → SE T m d) {b : Bf} {nm : Str} {u : Value} {e : Expr} {x : Ex} {p pos : Pos} (hb : BfV b nm u) (hg : GlS c.sc nm) (hm : T.mg nm = none) (te : TrE T c e x) (a : At T d c X W g st H σE σ)
    (h : Po T g H W σ (fun w st' g' H' => ∀ v, RelK T.K (kn T (.bf b [x])) H g' H' w v → Q v H') (evE T.G (n + 1) d σE st (.bf b [x]))) : wE X (.Call (.Name nm p) [e] [] pos) σ H Q := by
  by_cases h1 : b = .list
  · subst h1
    simp only [evE] at h
    refine s_bf1 (se n (Nat.le_refl _)) hb (call_w (X := X)) hg hm te a h.bind fun w st1 g1 H1 v a1 e1 r1 h1 => ?_
    obtain ⟨w2, hw, h2⟩ := h1.o2r a1.wf a1.rst
    cases q : seqOf w with
    | none => rw [q] at hw; exact nomatch hw
    | some ws =>
      rw [q] at hw
      injection hw with hw
      subst hw
      obtain ⟨p, vs, rfl, hs, z⟩ := r1.seq q
      cases hb
      refine call_list_of.w ⟨p, vs, rfl, by rw [a1.ctx.hK]; exact hs, fun l hl => ?_⟩
      exact h2 g1 _ (.new hl) (a1.wf.new hl) (a1.rst.new hl) _ (.inr ⟨.lst upd_same (a1.wf.no hl) (z.mo ((Ext.new hl).mo a1.wf)), fun b z => by cases z; exact e1.free hl⟩)
  · by_cases h2 : b = .tuple
    · subst h2
      simp only [evE] at h
      refine s_bf1 (se n (Nat.le_refl _)) hb (call_w (X := X)) hg hm te a h.bind fun w st1 g1 H1 v a1 e1 r1 h1 => ?_
      obtain ⟨w2, hw, h2⟩ := h1.o2r a1.wf a1.rst
      cases q : seqOf w with
      | none => rw [q] at hw; exact nomatch hw
      | some ws =>
        rw [q] at hw
        injection hw with hw
        subst hw
        obtain ⟨p, vs, rfl, hs, z⟩ := r1.seq q
        cases hb
        rcases hs with hs | hs
        · refine call_tuple_of.w ⟨p, vs, rfl, .inl ⟨by rw [a1.ctx.hK]; exact hs, fun l hl => ?_⟩⟩
          exact h2 g1 _ (.new hl) (a1.wf.new hl) (a1.rst.new hl) _ (.tup (.of upd_same) (z.mo ((Ext.new hl).mo a1.wf)))
        · refine call_tuple_of.w ⟨p, vs, rfl, .inr ⟨by rw [a1.ctx.hK]; exact hs, ?_⟩⟩
          exact h2 g1 H1 .refl a1.wf a1.rst _ (.tup hs z)
    · have hk : kn T (.bf b [x]) = .lk := by cases hb <;> first | rfl | exact absurd rfl h1 | exact absurd rfl h2
      rw [hk] at h
      have h3 : Po T g H W σ (fun w st' g' H' => ∀ v, RelZ T.K g' H' w v → Q v H') ((evEs T.G n d σE st [x]).bind fun ws st => o2r (bfun b ws) st) := by
        cases hb <;> first | exact absurd rfl h1 | exact absurd rfl h2 | (simp only [evE] at h; exact h)
      obtain ⟨m, rfl, h4⟩ := evEs1 h3.bind a.wf
      refine s_bf1 (se m (Nat.le_succ m)) hb (call_w (X := X)) hg hm te a h4 fun w st1 g1 H1 v a1 e1 r1 h5 => ?_
      obtain ⟨w2, hw, h6⟩ := h5.o2r a1.wf a1.rst
      obtain ⟨r, hr, hrr⟩ := bf_ok (X := X) (Q := Q) hb h1 h2 hw r1 a1.ctx.hK a1.ctx.calm fun v rz => h6 g1 H1 .refl a1.wf a1.rst v rz
      exact hr.w hrr

/-! ### isinstance -/
theorem RelR.ty {K : PySem.W.Frag} {w : Pv.W} {v : V} {k : Kd} {b : Bool} (h : isKd w k = some b) (r : RelR K g H w v) : ∃ t, TyX K H v (.type t) ∧ ∀ nm, clsName k = some nm → kitB t nm = some b := by
  cases k with
  | cls c => cases w <;> exact nomatch h
  | _ =>
    cases w with
    | non => cases r.non; refine ⟨"NoneType", .base .non, fun nm hn => ?_⟩; injection hn with hn; subst hn; injection h with h; subst h; decide +kernel
    | bl x => cases r.bl; refine ⟨"bool", .base (.bl _), fun nm hn => ?_⟩; injection hn with hn; subst hn; injection h with h; subst h; decide +kernel
    | int x => cases r.int; refine ⟨"int", .base (.int _), fun nm hn => ?_⟩; injection hn with hn; subst hn; injection h with h; subst h; decide +kernel
    | str x => cases r.str; refine ⟨"str", .base (.str _), fun nm hn => ?_⟩; injection hn with hn; subst hn; injection h with h; subst h; decide +kernel
    | tup ws =>
      obtain ⟨a, vs, rfl, ha, z⟩ := r.tup
      refine ⟨"tuple", ?_, fun nm hn => by injection hn with hn; subst hn; injection h with h; subst h; decide +kernel⟩
      rcases ha with (ha | ⟨o, ha⟩) | ⟨o, its, n, h1, h2, h3, h4, h5⟩
      · exact .base (.tup ha)
      · exact .fTuple ha
      · exact .kTuple h1 h2
    | lst ws =>
      obtain ⟨a, vs, rfl, ha, z⟩ := r.lst
      refine ⟨"list", ?_, fun nm hn => by injection hn with hn; subst hn; injection h with h; subst h; decide +kernel⟩
      rcases ha with (ha | ⟨o, ha⟩) | ⟨o, its, n, h1, h2, h3, h4, h5, h6⟩
      · exact .base (.lst ha)
      · exact .base (.frz ha)
      · exact .kList h1 h2
    | dic ks ws =>
      obtain ⟨a, kvs, rfl, ha, hk, z⟩ := r.dic
      exact ⟨"dict", .base (.dK ha), fun nm hn => by injection hn with hn; subst hn; injection h with h; subst h; decide +kernel⟩
    | set _ => exact nomatch h
    | obj _ => exact nomatch h
    | fn _ _ => exact nomatch h
theorem boot_cls {k : Kd} {nm : String} (h : clsName k = some nm) : bootBuiltins (Str.ofString nm) = some (.type nm) := by
  cases k <;> first | (injection h with h; subst h; decide +kernel) | exact nomatch h
theorem cls_ne {k : Kd} {nm : String} (h : clsName k = some nm) : Str.ofString nm ≠ "__name__" := by
  cases k <;> first | (injection h with h; subst h; decide +kernel) | exact nomatch h
theorem boot_isi : bootBuiltins "isinstance" = some (.builtin "isinstance") := by decide +kernel
theorem s_isi1 (se : SE T n d) {k : Kd} {nm : String} {e : Expr} {x : Ex} {p p2 pos : Pos} (hk : clsName k = some nm) (hg : GlS c.sc "isinstance") (hm : T.mg "isinstance" = none) (hg2 : GlS c.sc (Str.ofString nm)) (hm2 : T.mg (Str.ofString nm) = none) (te : TrE T c e x)
    (a : At T d c X W g st H σE σ) (h : Po T g H W σ (fun w st' g' H' => ∀ v, RelZ T.K g' H' w v → Q v H') ((evE T.G n d σE st x).bind fun x st => o2r ((isAny st x [k]).map .bl) st)) :
    wE X (.Call (.Name "isinstance" p) [e, .Name (Str.ofString nm) p2] [] pos) σ H Q := by
  have hs2 : starEach [Expr.Name (Str.ofString nm) p2] X.env = (false, eval (Expr.Name (Str.ofString nm) p2) X.env) :: starEach [] X.env := rfl
  have pc : PE X (Expr.Name (Str.ofString nm) p2) (tC (.ty nm)) := pe_bltn (a.ctx.gl hg2) (by rw [a.ctx.hm]; exact hm2) (boot_cls hk) (show RelV (.ty nm) (.type nm) from rfl) (cls_ne hk) hg2.2
  refine (pe_callB (pos := pos) (p := p) call_isi (a.ctx.gl hg) (by rw [a.ctx.hm]; exact hm) boot_isi (pa_cons pe_w (pa_cons pc pa_nil hs2) (star_ok te _ X.env)) (by decide +kernel) hg.2 (star_ok te _ X.env) rfl).w ?_
  show wE X e σ H fun v H1 => rIsi X.K [v, .ty nm] H1 Q
  rw [a.ctx.hK]
  refine se.bo te a h.bind fun w st1 g1 H1 v a1 e1 r1 h1 => ?_
  obtain ⟨w2, hw, h2⟩ := h1.o2r a1.wf a1.rst
  have hkd : ∃ b, isKd w k = some b ∧ w2 = .bl b := by
    have key : isAny st1 w [k] = match isKd w k with | some b => some b | none => none := by
      cases k with
      | cls c => exact nomatch hk
      | _ =>
        simp only [isAny]
        split <;> rename_i q <;> rw [q]
    rw [key] at hw
    cases q : isKd w k with
    | none => rw [q] at hw; exact nomatch hw
    | some b => rw [q] at hw; injection hw with hw; exact ⟨b, rfl, hw.symm⟩
  obtain ⟨b, hb, rfl⟩ := hkd
  obtain ⟨t, hty, hkit⟩ := r1.ty hb
  exact ⟨v, .ty nm, .type t, .type nm, b, rfl, .ty nm, hty, kit_ty (hkit nm hk), h2 g1 H1 .refl a1.wf a1.rst _ (.bl b)⟩

/-! ### subscripts and slices -/
def rIxD : R2 := fun x y H Q => ∃ a v, x = .ref a ∧ DGet H a y (some v) ∧ Q v H
theorem ix_dict (hu : X.A.units + 1 < cLine) : IxR X rIxD := by
  intro value slice pins s σ H x y v u Q I rx ry h hs
  obtain ⟨a, z, rfl, gd, q⟩ := h
  obtain rfl : v = Value.ref a := rx
  exact tail_any (dict_typeIs I gd) PySem.F.slot_dict_getitem.lookup (d_getItem hu I gd ry fun w' s3 I3 rw' => ⟨z, H, I3, rw', q⟩) hs
theorem ixOf_eq (n : Nat) (i : Int) : ixOf n i = ixN n i := by
  unfold ixOf ixN
  by_cases h0 : 0 ≤ i
  · rw [decide_eq_true h0, if_pos h0]
    by_cases h1 : i < n
    · rw [decide_eq_true h1, if_pos h1]; rfl
    · rw [decide_eq_false h1, if_neg h1]; rfl
  · rw [decide_eq_false h0, if_neg h0]
    by_cases h1 : -(n : Int) ≤ i
    · rw [decide_eq_true h1, if_pos h1]; show some _ = some _; rw [Int.add_comm]
    · rw [decide_eq_false h1, if_neg h1]; rfl
theorem look_key (k : Key) : ∀ (kvs : List (Key × V)) (ws : List Pv.W) (w : Pv.W), look (kW k) (kvs.map fun p => kW p.1) ws = some w → RelZs T.K g H ws (kvs.map (·.2)) → ∃ v, valV kvs k = some v ∧ RelZ T.K g H w v
  | [], [], _, h, _ => nomatch h
  | [], _ :: _, _, h, _ => nomatch h
  | p :: r, [], _, h, _ => nomatch h
  | p :: r, u :: us, w, h, .cons hz hzs => by
    simp only [List.map_cons, look, kW_weq] at h
    by_cases hk : p.1 = k
    · rw [decide_eq_true hk] at h
      injection h with h
      subst h
      exact ⟨p.2, valV_pos hk, hz⟩
    · rw [decide_eq_false hk] at h
      obtain ⟨v, h1, h2⟩ := look_key k r us w h hzs
      exact ⟨v, by rw [valV_neg hk]; exact h1, h2⟩
theorem s_ix (se : SE T n d) {a b : Expr} {x y : Ex} {pos : Pos} (ta : TrE T c a x) (tb : TrE T c b y) (hp : PlainIx b) (at_ : At T d c X W g st H σE σ)
    (h : Po T g H W σ (fun w st' g' H' => ∀ v, RelZ T.K g' H' w v → Q v H') ((evE T.G n d σE st x).bind fun x st => (evE T.G n d σE st y).bind fun y st => o2r (ixop x y) st)) : wE X (.Subscript a b pos) σ H Q := by
  refine (pe_ix ((ix_seq (X := X)).or (ix_dict (by have := at_.ctx.hu; omega))) pe_w pe_w hp).w ?_
  show wE X a σ H fun v H1 => wE X b σ H1 fun u H2 => (fun x y H Q => rIx X.K x y H Q ∨ rIxD x y H Q) v u H2 Q
  rw [at_.ctx.hK]
  refine se.bo ta at_ h.bind fun w1 st1 g1 H1 v1 a1 e1 r1 h1 => ?_
  refine se.bo tb a1 h1.bind fun w2 st2 g2 H2 v2 a2 e2 r2 h2 => ?_
  obtain ⟨w, hw, h3⟩ := h2.o2r a2.wf a2.rst
  have k : ∀ v, RelZ T.K g2 H2 w v → Q v H2 := fun v r => h3 g2 H2 .refl a2.wf a2.rst v r
  have r3 := r1.ext a1.wf e2
  clear r1 h1
  unfold ixop at hw
  split at hw
  · rename_i ws i
    cases r2.int
    obtain ⟨p, vs, rfl, hs, z⟩ := r3.tup
    cases q : ixOf ws.length i with
    | none => rw [q] at hw; exact nomatch hw
    | some j =>
      rw [q] at hw
      obtain ⟨v, h4, h5⟩ := z.get hw
      exact .inl (.inr (.inl ⟨p, vs, i, v, rfl, rfl, hs, by unfold atI; rw [← z.length, ← ixOf_eq, q]; exact h4, k v h5⟩))
  · rename_i ws i
    cases r2.int
    obtain ⟨p, vs, rfl, hs, z⟩ := r3.lst
    cases q : ixOf ws.length i with
    | none => rw [q] at hw; exact nomatch hw
    | some j =>
      rw [q] at hw
      obtain ⟨v, h4, h5⟩ := z.get hw
      exact .inl (.inl ⟨p, vs, i, v, rfl, rfl, hs, by unfold atI; rw [← z.length, ← ixOf_eq, q]; exact h4, k v h5⟩)
  · rename_i ks ws
    cases hb : isKy w2 with
    | false => rw [hb] at hw; exact nomatch hw
    | true =>
      rw [hb] at hw
      obtain ⟨key, rfl⟩ := isKy_k hb
      obtain ⟨p, kvs, rfl, hd, rfl, z⟩ := r3.dic
      cases r2.key
      obtain ⟨v, h4, h5⟩ := look_key key kvs ws w hw z
      exact .inr ⟨p, v, rfl, by rw [← h4]; exact .k hd, k v h5⟩
  · exact nomatch hw
theorem sAt_eq (n d : Nat) (o : Option Int) : sAt n d o = HT.sIx n d o := by
  cases o with
  | none => rfl
  | some i =>
    show clip n i = if i < 0 then (i + (n : Int)).toNat else min i.toNat n
    unfold clip
    by_cases h : i < 0
    · rw [decide_eq_true h, if_pos h]; show (_ : Int).toNat = _; rw [Int.add_comm]
    · rw [decide_eq_false h, if_neg h]; rfl
theorem slice_rel {ws : List Pv.W} {vs : List V} (z : RelZs T.K g H ws vs) (lo hi : Option Int) : RelZs T.K g H (slice ws lo hi) (cutV vs lo hi) := by
  unfold slice cutV
  rw [sAt_eq, sAt_eq, z.length]
  exact (z.drop _).take _
theorem s_sl (se : SE T n d) (so : SO T n d) {a : Expr} {lo hi : Option Expr} {x : Ex} {l h' : Option Ex} {p2 pos : Pos} (ta : TrE T c a x) (tl : TrO T c lo l) (th : TrO T c hi h') (at_ : At T d c X W g st H σE σ)
    (h : Po T g H W σ (fun w st' g' H' => ∀ v, RelFr T.K H g' H' w v → Q v H') ((evE T.G n d σE st x).bind fun x st => (evO T.G n d σE st l).bind fun l st => (evO T.G n d σE st h').bind fun h st => match x with
      | .tup ws => .ok (.tup (slice ws l h)) st
      | .lst ws => .ok (.lst (slice ws l h)) st
      | _ => .err)) : wE X (.Subscript a (.Slice lo hi none p2) pos) σ H Q := by
  refine (pe_slice ((sl_list (X := X)).or sl_tupA) pe_w po_w po_w).w ?_
  show wE X a σ H fun v H1 => wPart X lo σ H1 fun lo H2 => wPart X hi σ H2 fun hi H3 => (fun x lo hi H Q => rSlL X.K x lo hi H Q ∨ rSlA X.K x lo hi H Q) v lo hi H3 Q
  rw [at_.ctx.hK]
  refine se.bo ta at_ h.bind fun w1 st1 g1 H1 v1 a1 e1 r1 h1 => ?_
  refine so c lo l tl X W g1 st1 H1 σE σ _ a1 (h1.bind.mono fun o1 st2 g2 H2 e2 wf2 rs2 h2 => ?_)
  refine so c hi h' th X W g2 st2 H2 σE σ _ (a1.ext e2 wf2 rs2) (h2.bind.mono fun o2 st3 g3 H3 e3 wf3 rs3 h3 => ?_)
  have r1 := (r1.ext a1.wf e2).ext wf2 e3
  cases w1 with
  | tup ws =>
    obtain ⟨p, vs, rfl, hs, z⟩ := r1.tup
    refine .inr ⟨p, vs, rfl, hs, fun hw => ?_, fun hw q hq => ?_⟩
    · refine h3.ok wf3 rs3 _ (.inl ⟨rfl, .tup (vs := vs) hs ?_⟩)
      have : cutV vs o1 o2 = vs := by
        unfold cutV
        rw [hw.1, hw.2]; simp
      have q := slice_rel z o1 o2
      rw [this] at q
      exact q
    · exact h3 g3 _ (.new hq) (wf3.new hq) (rs3.new hq) _ (.inl ⟨rfl, .tup (.of upd_same) ((slice_rel z o1 o2).mo ((Ext.new hq).mo wf3))⟩)
  | lst ws =>
    obtain ⟨p, vs, rfl, hs, z⟩ := r1.lst
    refine .inl ⟨p, vs, rfl, hs, fun q hq => ?_⟩
    exact h3 g3 _ (.new hq) (wf3.new hq) (rs3.new hq) _ (.inr ⟨.lst upd_same (wf3.no hq) ((slice_rel z o1 o2).mo ((Ext.new hq).mo wf3)), fun b z => by cases z; exact e1.free (e2.free (e3.free hq))⟩)
  | _ => exact h3.elim
end
end Pv
end

section
set_option Elab.async false
set_option linter.all false
set_option maxRecDepth 100000
namespace Pv
open PySem PySem.Spec PyProof.Rows L2

section
variable {T : Tb} {n d : Nat} {c : Cfg} {X : Cx} {W : WX} {g : Gh} {st : Sto} {H : Hp} {σE : Fr} {σ : L2.St} {tg : Expr} {R : It → Hp → Prop}
/-- an iterator over a value that has come -/
theorem iter_list {pins : List (Addr × PySem.Obj)} {s1 : Shared} {a : Addr} {xs : List V} {E : Value → Shared → Prop} (I1 : Inv X pins σ H s1) (hq : SqL X.K H a xs) (q : R (Itl X.K a) H) : wpAny (model X.prog X.w) X.A (pyIter (.ref a)) (PIE X pins σ tg R) E s1 := by
  obtain ⟨its, rv, p, hz⟩ := I1.list hq
  refine wpAny_pyIter_list p.isList ?_
  refine ⟨s1.heap.objs.size, [s1.heap.objs.size], _, _, H, rfl, I1.kept (t' := s1.toks) fun b o e => Heap.get?_push_of_some _ e, turn_list a _, ⟨_, Heap.get?_push_size _ rfl, rfl, rfl⟩, fun b hb => ?_, q⟩
  have e : b = s1.heap.objs.size := by simpa using hb
  subst e
  exact I1.fpOk (Nat.le_refl _) (I1.hok.fresh (Nat.le_refl _))
theorem iter_tup {pins : List (Addr × PySem.Obj)} {s1 : Shared} {a : Addr} {xs : List V} {E : Value → Shared → Prop} (I1 : Inv X pins σ H s1) (hq : SqT X.K H a xs) (q : R (Itt X.K a) H) : wpAny (model X.prog X.w) X.A (pyIter (.ref a)) (PIE X pins σ tg R) E s1 := by
  obtain ⟨its, rv, p, hz⟩ := I1.tuple hq
  refine wpAny_pyIter_tuple (show s1.heap.IsTuple a its.toArray from p) ?_
  refine ⟨s1.heap.objs.size, [s1.heap.objs.size], _, _, H, rfl, I1.kept (t' := s1.toks) fun b o e => Heap.get?_push_of_some _ e, turn_tuple a _, ⟨_, Heap.get?_push_size _ rfl, rfl, rfl⟩, fun b hb => ?_, q⟩
  have e : b = s1.heap.objs.size := by simpa using hb
  subst e
  exact I1.fpOk (Nat.le_refl _) (I1.hok.fresh (Nat.le_refl _))
theorem iter_str {pins : List (Addr × PySem.Obj)} {s1 : Shared} {x : Str} {t : Tok} {E : Value → Shared → Prop} (I1 : Inv X pins σ H s1) (q : R (Its x) H) : wpAny (model X.prog X.w) X.A (pyIter (.str x t)) (PIE X pins σ tg R) E s1 := by
  cases ha : x.cps.all (· < 128)
  · exact wpAny_pyIter_wide ha (pi_one (tk := s1.toks) I1 _ (turn_str _ x t "str_iterator" (.inr rfl)) ⟨_, Heap.get?_push_size _ rfl, rfl, rfl⟩ q)
  · exact wpAny_pyIter_ascii ha (pi_one (tk := s1.toks) I1 _ (turn_str _ x t "str_ascii_iterator" (.inl rfl)) ⟨_, Heap.get?_push_size _ rfl, rfl, rfl⟩ q)
theorem jok_list {M : List Nat} {a : Addr} {ws : List Pv.W} (wf : Wf g H) (r : RelRM T.K M g H (.lst ws) (.ref a)) : JOk T M (Itl T.K a) g H ws := by
  intro i g' H' e wf'
  obtain ⟨a', vs, ea, hs, z⟩ := (r.extM wf e).r.lst
  cases ea
  refine ⟨fun w hw => ?_, fun hl => ⟨vs, hs, by rw [← z.length]; exact hl⟩⟩
  obtain ⟨v, h1, h2⟩ := z.get hw
  refine ⟨⟨vs, v, hs, h1⟩, fun x H2 ⟨eH, y⟩ => ?_⟩
  subst eH
  have := y vs hs
  rw [h1] at this
  cases this
  exact ⟨g', .refl, wf', fun _ r => r, h2⟩
theorem jok_tup {M : List Nat} {a : Addr} {ws : List Pv.W} (wf : Wf g H) (r : RelRM T.K M g H (.tup ws) (.ref a)) : JOk T M (Itt T.K a) g H ws := by
  intro i g' H' e wf'
  obtain ⟨a', vs, ea, hs, z⟩ := (r.extM wf e).r.tup
  cases ea
  refine ⟨fun w hw => ?_, fun hl => ⟨vs, hs, by rw [← z.length]; exact hl⟩⟩
  obtain ⟨v, h1, h2⟩ := z.get hw
  refine ⟨⟨vs, v, hs, h1⟩, fun x H2 ⟨eH, y⟩ => ?_⟩
  subst eH
  have := y vs hs
  rw [h1] at this
  cases this
  exact ⟨g', .refl, wf', fun _ r => r, h2⟩
theorem jok_str {M : List Nat} {x : Str} : JOk T M (Its x) g H (x.cps.toList.map fun c => .str ⟨#[c]⟩) := by
  intro i g' H' e wf'
  refine ⟨fun w hw => ?_, fun hl => by rw [List.length_map] at hl; show x.cps.size ≤ i; simpa using hl⟩
  rw [List.getElem?_map] at hw
  cases hc : x.cps.toList[i]? with
  | none => rw [hc] at hw; exact nomatch hw
  | some k =>
    rw [hc] at hw
    injection hw with hw
    subst hw
    have hi : i < x.cps.size := by
      have := (List.getElem?_eq_some_iff.mp hc).1
      simpa using this
    refine ⟨hi, fun y H2 ⟨eH, k', hk', ey⟩ => ?_⟩
    subst eH
    have : x.cps[i]? = some k := by rw [← hc]; simp
    rw [this] at hk'
    injection hk' with hk'
    subst hk'
    subst ey
    exact ⟨g', .refl, wf', fun _ r => r, .str _⟩
theorem rng_get : ∀ (n : Nat) (lo : Int) (i : Nat) (w : Pv.W), (rng lo n)[i]? = some w → i < n ∧ w = .int (lo + i)
  | 0, _, _, _, h => by simp [rng] at h
  | n + 1, lo, 0, w, h => by simp [rng] at h; exact ⟨Nat.succ_pos _, by rw [← h]; simp⟩
  | n + 1, lo, i + 1, w, h => by
    simp only [rng, List.getElem?_cons_succ] at h
    obtain ⟨h1, h2⟩ := rng_get n (lo + 1) i w h
    exact ⟨Nat.succ_lt_succ h1, by rw [h2]; congr 1; push_cast; omega⟩
theorem rng_length : ∀ (n : Nat) (lo : Int), (rng lo n).length = n
  | 0, _ => rfl
  | n + 1, lo => by simp [rng, rng_length n]
theorem jok_range {M : List Nat} {lo : Int} {k : Nat} : JOk T M (Itr lo k) g H (rng lo k) := by
  intro i g' H' e wf'
  refine ⟨fun w hw => ?_, fun hl => by rw [rng_length] at hl; exact hl⟩
  obtain ⟨h1, rfl⟩ := rng_get k lo i w hw
  refine ⟨h1, fun y H2 ⟨eH, ey⟩ => ?_⟩
  subst eH ey
  exact ⟨g', .refl, wf', fun _ r => r, .int _⟩
theorem evI_val {x : Ex} (h : ti x = true) : evI T.G (n + 1) d σE st x = (evE T.G n d σE st x).bind fun w st => o2r (itemsI w) st := by
  cases x with
  | bf b es => cases b <;> first | (simp [ti] at h; done) | (rw [evI.eq_def])
  | bm m o es => cases m <;> first | (simp [ti] at h; done) | (rw [evI.eq_def])
  | scomp _ _ => simp [ti] at h
  | _ => rw [evI.eq_def]
/-- what is walked has come -/
theorem walk_ok {M : List Nat} {e : Expr} (hK : X.K = T.K) (key : wE X e σ H fun v H1 => ∃ w g1 ws, Wf g1 H1 ∧ RelRM T.K M g1 H1 w v ∧ itemsI w = some ws ∧ ∀ J, JOk T M J g1 H1 ws → R J H1) : wI X tg e σ H R := by
  intro pins s I
  refine thn (key pins s I) fun u s1 ⟨v, H1, I1, rv, w, g1, ws, wf1, r1, hw, h3⟩ => ?_
  cases w with
  | tup us =>
    injection hw with hw; subst hw
    obtain ⟨a, vs, rfl, hs, z⟩ := r1.r.tup
    cases rv
    exact iter_tup I1 (by rw [hK]; exact hs) (by rw [hK]; exact h3 _ (jok_tup wf1 r1))
  | lst us =>
    injection hw with hw; subst hw
    obtain ⟨a, vs, rfl, hs, z⟩ := r1.r.lst
    cases rv
    exact iter_list I1 (by rw [hK]; exact hs) (by rw [hK]; exact h3 _ (jok_list wf1 r1))
  | str y =>
    injection hw with hw; subst hw
    cases r1.r.str
    obtain ⟨t, rfl⟩ := rv
    exact iter_str I1 (h3 _ jok_str)
  | _ => exact nomatch hw
theorem sI_step (se : SE T n d) : SI T (n + 1) d := by
  intro c M e x tr tg X W g st H σE σ R at_ h
  cases tr with
  | val te hti ho =>
    rw [evI_val hti] at h
    refine walk_ok (T := T) (M := M) at_.ctx.hK ?_
    refine se.lk te ho at_ h.bind fun w st1 g1 H1 v a1 e1 r1 h1 => ?_
    obtain ⟨ws, hw, h2⟩ := h1.o2r a1.wf a1.rst
    exact ⟨w, g1, ws, a1.wf, .inl r1, hw, h2 g1 H1 .refl a1.wf a1.rst⟩
  | @own _ _ id pos i h1 h2 h3 h4 h5 =>
    rw [evI_val rfl] at h
    refine walk_ok (T := T) (M := M) at_.ctx.hK ?_
    have h := h.bind
    cases n with
    | zero => rw [evE.eq_def] at h; exact h.elim
    | succ n =>
      simp only [evE] at h
      obtain ⟨w, e, h⟩ := getv_some h
      obtain ⟨v, e2, r⟩ := at_.rf.at_ i w e
      obtain ⟨ws, hw, hh⟩ := (h.ok at_.wf at_.rst).o2r at_.wf at_.rst
      refine (pe_var (i := i) (by rw [at_.ctx.hN]; exact h1) (by rw [at_.ctx.sc]; exact h2) h3 h4).w ⟨v, e2, w, g, ws, at_.wf, ?_, hw, hh g H .refl at_.wf at_.rst⟩
      unfold SlR at r
      split at r
      · rcases r with ⟨_, r⟩ | r
        · exact .inl r
        · exact .inr ⟨_, notFld_sl i, fun j hj z => h5 (by injection z with z; injection z with z; rw [z]; exact hj), r⟩
      · split at r
        · rcases r with r | ⟨t, n, q, r⟩
          · exact .inl r
          · exact .inr ⟨t, n, fun j _ => q j, r⟩
        · exact .inl r
  | @range1 _ _ a x p pos hg hm te ho =>
    simp only [evI] at h
    refine (pi_range1 (tg := tg) (at_.ctx.gl hg) (by rw [at_.ctx.hm]; exact hm) (pa_cons pe_w pa_nil (star_ok te [] X.env)) (star_ok te [] X.env)).w ?_
    show wE X a σ H fun v H1 => ∃ j : Int, [v] = [.int j] ∧ -(2 ^ 62) ≤ j ∧ j < 2 ^ 62 ∧ R (Itr 0 j.toNat) H1
    refine se.bo te at_ h.bind fun w st1 g1 H1 v a1 e1 r1 h1 => ?_
    cases w with
    | int i =>
      cases r1.int
      have h1 : Po T g1 H1 W σ (fun ws st' g' H' => ∀ J, JOk T M J g' H' ws → R J H') (bif decide (-(2 ^ 62) ≤ i) && decide (i < 2 ^ 62) then .ok (rng 0 i.toNat) st1 else .err) := h1
      cases hb : (decide (-(2 ^ 62) ≤ i) && decide (i < 2 ^ 62)) with
      | false => rw [hb] at h1; exact h1.elim
      | true =>
        rw [hb] at h1
        simp only [Bool.and_eq_true, decide_eq_true_eq] at hb
        exact ⟨i, rfl, hb.1, hb.2, (Po.ok h1 a1.wf a1.rst) _ jok_range⟩
    | _ => exact h1.elim
end
end Pv
end

section
set_option Elab.async false
set_option linter.all false
set_option maxRecDepth 100000
namespace Pv
open PySem PySem.Spec PyProof.Rows L2

/-! ### slots -/
section
variable {T : Tb} {n d : Nat} {c : Cfg} {X : Cx} {W : WX} {g g' : Gh} {st : Sto} {H H' : Hp} {σE : Fr} {σ : L2.St}
theorem RelF.set {i : Nat} {w : Pv.W} {v : V} (r : RelF T c g H σE σ) (h : SlR T c g H i w v) : RelF T c g H (σE.set i (some w)) (σ.set i (some v)) := by
  refine ⟨by rw [List.length_set, List.length_set]; exact r.len, fun j u hj => ?_⟩
  by_cases hij : i = j
  · subst hij
    by_cases hi : i < σE.length
    · rw [List.getElem?_set_self hi] at hj
      cases hj
      exact ⟨v, by rw [List.getElem?_set_self (by rw [← r.len]; exact hi)], h⟩
    · rw [List.getElem?_eq_none (by rw [List.length_set]; omega)] at hj
      cases hj
  · rw [List.getElem?_set_ne hij] at hj ⊢
    exact r.at_ j u hj
theorem RelF.unset {i : Nat} (r : RelF T c g H σE σ) : RelF T c g H (σE.set i none) (σ.set i none) := by
  refine ⟨by rw [List.length_set, List.length_set]; exact r.len, fun j u hj => ?_⟩
  by_cases hij : i = j
  · subst hij
    by_cases hi : i < σE.length
    · rw [List.getElem?_set_self hi] at hj; cases hj
    · rw [List.getElem?_eq_none (by rw [List.length_set]; omega)] at hj; cases hj
  · rw [List.getElem?_set_ne hij] at hj ⊢
    exact r.at_ j u hj
theorem RelF.wipe (r : RelF T c g H σE σ) : ∀ vs : List Nat, RelF T c g H (wipeF σE vs) (wipe σ vs)
  | [] => r
  | v :: vs => (RelF.wipe r vs).unset
theorem RelF.cfg {c' : Cfg} (h1 : c'.own = c.own) (h2 : c'.bor = c.bor) (r : RelF T c g H σE σ) : RelF T c' g H σE σ :=
  ⟨r.len, fun i w h => let ⟨v, e, s⟩ := r.at_ i w h; ⟨v, e, by unfold SlR at s ⊢; rw [h1, h2]; exact s⟩⟩
theorem wipe_get {σ : L2.St} {i : Nat} : ∀ {vs : List Nat}, i ∈ vs → (wipe σ vs)[i]? = none ∨ (wipe σ vs)[i]? = some none
  | v :: vs, h => by
    unfold L2.wipe
    by_cases hv : v = i
    · subst hv
      by_cases hl : v < (wipe σ vs).length
      · exact .inr (List.getElem?_set_self hl)
      · exact .inl (List.getElem?_eq_none (by rw [List.length_set]; omega))
    · rw [List.getElem?_set_ne hv]
      rcases List.mem_cons.mp h with e | e
      · exact absurd e.symm hv
      · exact wipe_get e
/-- two lists that differ at vs alone are one when wiped -/
theorem wipe_same {σ σ' : L2.St} (hl : σ'.length = σ.length) {vs : List Nat} (h : ∀ i, i ∉ vs → σ'[i]? = σ[i]?) : wipe σ' vs = wipe σ vs := by
  apply List.ext_getElem?
  intro i
  by_cases hi : i ∈ vs
  · have e1 : (wipe σ' vs).length = (wipe σ vs).length := by rw [wipe_length, wipe_length, hl]
    rcases wipe_get (σ := σ') hi with a | a <;> rcases wipe_get (σ := σ) hi with b | b
    · rw [a, b]
    · have h1 := List.getElem?_eq_none_iff.mp a
      have h2 := (List.getElem?_eq_some_iff.mp b).1
      omega
    · have h1 := List.getElem?_eq_none_iff.mp b
      have h2 := (List.getElem?_eq_some_iff.mp a).1
      omega
    · rw [a, b]
  · rw [wipe_out hi, wipe_out hi, h i hi]

/-! ### targets that are names -/
def wGs (X : Cx) (es : List Expr) : TGs := fun vs σ H Q => ∀ (pins : List (Addr × PySem.Obj)) (s : Shared) (us : List Value), Inv X pins σ H s → Vals vs us → wpAny (model X.prog X.w) X.A (assignInOrder ((assignEach es X.env).map (·.2)) us) (fun _ s' => ∃ σ' H', Inv X pins σ' H' s' ∧ Q σ' H') X.xe s
theorem pgs_w {X : Cx} {es : List Expr} : PGs X es (wGs X es) := ⟨fun pins s σ H vs us Q I r h => h pins s us I r⟩
theorem _root_.L2.PGs.w {X : Cx} {es : List Expr} {t : TGs} (h : PGs X es t) {vs : List V} {σ : L2.St} {H : Hp} {Q : L2.St → Hp → Prop} (ht : t vs σ H Q) : wGs X es vs σ H Q := fun pins s us I r => h.run pins s σ H vs us Q I r ht
def TgPost (T : Tb) (c : Cfg) (X : Cx) (g : Gh) (st : Sto) (H : Hp) (σ : L2.St) (tg : Expr) (t : Tg) (v : V) : R Fr → Prop
  | .ok σE' st' => st' = st ∧ ∀ Q : L2.St → Hp → Prop, (∀ σ', RelF T c g H σE' σ' → σ'.length = σ.length → (∀ i, i ∉ tgS t → σ'[i]? = σ[i]?) → Q σ' H) → wG X tg v σ H Q
  | .exc _ _ _ => False
  | .err => True
def TgsPost (T : Tb) (c : Cfg) (X : Cx) (g : Gh) (st : Sto) (H : Hp) (σ : L2.St) (es : List Expr) (ts : List Tg) (vs : List V) : R Fr → Prop
  | .ok σE' st' => st' = st ∧ es.length = vs.length ∧ ∀ Q : L2.St → Hp → Prop, (∀ σ', RelF T c g H σE' σ' → σ'.length = σ.length → (∀ i, i ∉ tgSs ts → σ'[i]? = σ[i]?) → Q σ' H) → wGs X es vs σ H Q
  | .exc _ _ _ => False
  | .err => True
theorem TrTg.plain {c : Cfg} {tg : Expr} {t : Tg} (h : TrTg T c tg t) (es : List Expr) (env : Env) : assignEach (tg :: es) env = (false, assign tg env) :: assignEach es env := by cases h <;> rfl
theorem TrTgs.star {c : Cfg} (env : Env) : ∀ {es : List Expr} {ts : List Tg}, TrTgs T c es ts → (assignEach es env).findIdx? (·.1) = none ∧ (assignEach es env).length = es.length
  | _, _, .nil => ⟨rfl, rfl⟩
  | _, _, .cons (es := es) h t => by
    obtain ⟨h1, h2⟩ := TrTgs.star env t
    rw [h.plain]
    refine ⟨?_, by simp [h2]⟩
    rw [List.findIdx?_cons]
    simp only [Bool.false_eq_true, if_false]
    rw [h1]; rfl
theorem asgT_0 {G : Gb} {σE : Fr} {st : Sto} {t : Tg} {w : Pv.W} : asgT G 0 d σE st t w = .err := by rw [asgT.eq_def]
theorem asgTs_0 {G : Gb} {σE : Fr} {st : Sto} {t : List Tg} {w : List Pv.W} : asgTs G 0 d σE st t w = .err := by rw [asgTs.eq_def]
theorem asgT_nm {G : Gb} {σE : Fr} {st : Sto} {i : Nat} {w : Pv.W} : asgT G (n + 1) d σE st (.nm i) w = .ok (σE.set i (some w)) st := by rw [asgT.eq_def]
theorem asgT_tu {G : Gb} {σE : Fr} {st : Sto} {ts : List Tg} {w : Pv.W} : asgT G (n + 1) d σE st (.tu ts) w = match w with | .tup ws => asgTs G n d σE st ts ws | _ => .err := by rw [asgT.eq_def] <;> (cases w <;> rfl)
theorem asgTs_nil {G : Gb} {σE : Fr} {st : Sto} {ws : List Pv.W} : asgTs G (n + 1) d σE st [] ws = match ws with | [] => .ok σE st | _ => .err := by rw [asgTs.eq_def] <;> (cases ws <;> rfl)
theorem asgTs_cons {G : Gb} {σE : Fr} {st : Sto} {t : Tg} {ts : List Tg} {ws : List Pv.W} : asgTs G (n + 1) d σE st (t :: ts) ws = match ws with | [] => .err | w :: ws => (asgT G n d σE st t w).bind fun σ st => asgTs G n d σ st ts ws := by rw [asgTs.eq_def] <;> (cases ws <;> rfl)
theorem asg_pure (c : Cfg) : ∀ n : Nat, (∀ (tg : Expr) (t : Tg) (σE : Fr) (st : Sto) (w : Pv.W), TrTg T c tg t → (∀ ci pl st', asgT T.G n d σE st t w ≠ .exc ci pl st') ∧ ∀ a st', asgT T.G n d σE st t w = .ok a st' → st' = st) ∧
    ∀ (es : List Expr) (ts : List Tg) (σE : Fr) (st : Sto) (ws : List Pv.W), TrTgs T c es ts → (∀ ci pl st', asgTs T.G n d σE st ts ws ≠ .exc ci pl st') ∧ (∀ a st', asgTs T.G n d σE st ts ws = .ok a st' → st' = st) ∧ ∀ a st', asgTs T.G n d σE st ts ws = .ok a st' → es.length = ws.length := by
  intro n
  induction n with
  | zero =>
    refine ⟨fun tg t σE st w h => ?_, fun es ts σE st ws h => ?_⟩
    · rw [asgT_0]; exact ⟨fun _ _ _ => nofun, fun _ _ => nofun⟩
    · rw [asgTs_0]; exact ⟨fun _ _ _ => nofun, fun _ _ => nofun, fun _ _ => nofun⟩
  | succ n ih =>
    obtain ⟨ih1, ih2⟩ := ih
    refine ⟨fun tg t σE st w h => ?_, fun es ts σE st ws h => ?_⟩
    · cases h with
      | nm h1 h2 h3 h4 => rw [asgT_nm]; exact ⟨fun _ _ _ => nofun, fun _ _ e => by injection e with _ e; exact e.symm⟩
      | nmC h1 h2 h3 h4 h5 => rw [asgT_nm]; exact ⟨fun _ _ _ => nofun, fun _ _ e => by injection e with _ e; exact e.symm⟩
      | tu ht =>
        rw [asgT_tu]
        cases w with
        | tup ws => obtain ⟨k1, k2, _⟩ := ih2 _ _ σE st ws ht; exact ⟨k1, k2⟩
        | _ => exact ⟨fun _ _ _ => nofun, fun _ _ => nofun⟩
    · cases h with
      | nil =>
        rw [asgTs_nil]
        cases ws with
        | nil => exact ⟨fun _ _ _ => nofun, fun _ _ e => by injection e with _ e; exact e.symm, fun _ _ _ => rfl⟩
        | cons _ _ => exact ⟨fun _ _ _ => nofun, fun _ _ => nofun, fun _ _ => nofun⟩
      | @cons _ e t es ts h1 h2 =>
        rw [asgTs_cons]
        cases ws with
        | nil => exact ⟨fun _ _ _ => nofun, fun _ _ => nofun, fun _ _ => nofun⟩
        | cons w ws =>
          obtain ⟨k1, k2⟩ := ih1 _ _ σE st w h1
          show (∀ ci pl st', (asgT T.G n d σE st t w).bind _ ≠ _) ∧ (∀ a st', (asgT T.G n d σE st t w).bind _ = _ → _) ∧ ∀ a st', (asgT T.G n d σE st t w).bind _ = _ → _
          cases q : asgT T.G n d σE st t w with
          | exc ci pl st' => exact absurd q (k1 _ _ _)
          | err => exact ⟨fun _ _ _ => nofun, fun _ _ => nofun, fun _ _ => nofun⟩
          | ok σ1 st1 =>
            have := k2 _ _ q
            subst this
            obtain ⟨k3, k4, k5⟩ := ih2 _ _ σ1 st1 ws h2
            exact ⟨k3, k4, fun a st' e => by rw [List.length_cons, List.length_cons, k5 a st' e]⟩
theorem tg_both (c : Cfg) (X : Cx) (W : WX) (g : Gh) (st : Sto) (H : Hp) : ∀ n : Nat,
    (∀ (tg : Expr) (t : Tg) (σE : Fr) (σ : L2.St) (w : Pv.W) (v : V), TrTg T c tg t → At T d c X W g st H σE σ → RelZ T.K g H w v → TgPost T c X g st H σ tg t v (asgT T.G n d σE st t w)) ∧
    ∀ (es : List Expr) (ts : List Tg) (σE : Fr) (σ : L2.St) (ws : List Pv.W) (vs : List V), TrTgs T c es ts → At T d c X W g st H σE σ → RelZs T.K g H ws vs → TgsPost T c X g st H σ es ts vs (asgTs T.G n d σE st ts ws) := by
  intro n
  induction n with
  | zero =>
    refine ⟨fun tg t σE σ w v h a r => ?_, fun es ts σE σ ws vs h a r => ?_⟩
    · rw [asgT_0]; trivial
    · rw [asgTs_0]; trivial
  | succ n ih =>
    obtain ⟨ih1, ih2⟩ := ih
    refine ⟨fun tg t σE σ w v h a r => ?_, fun es ts σE σ ws vs h a r => ?_⟩
    · cases h with
      | @nm _ id pos i h1 h2 h3 h4 =>
        rw [asgT_nm]
        refine ⟨rfl, fun Q h => ?_⟩
        have hx : X.env.scope.names.lookup id = some .local := by rw [a.ctx.sc]; exact h2
        refine (pg_name (i := i) (by rw [a.ctx.hN]; exact a.ctx.nd) (by rw [a.ctx.hN]; exact h1) (.inl hx) (.inr hx)).w ?_
        refine h _ (a.rf.set ?_) (List.length_set ..) fun j hj => ?_
        · unfold SlR; rw [if_neg h3, if_neg h4]; exact r
        · exact List.getElem?_set_ne (fun e => hj (by subst e; exact List.mem_singleton.mpr rfl))
      | @nmC _ id pos i h1 h2 h5 h3 h4 =>
        rw [asgT_nm]
        refine ⟨rfl, fun Q h => ?_⟩
        have hx : Loc X.env.scope id := by rw [a.ctx.sc]; exact h2
        refine (pg_name (i := i) (by rw [a.ctx.hN]; exact a.ctx.nd) (by rw [a.ctx.hN]; exact h1) hx (.inl (a.ctx.fnc h5 id))).w ?_
        refine h _ (a.rf.set ?_) (List.length_set ..) fun j hj => ?_
        · unfold SlR; rw [if_neg h3, if_neg h4]; exact r
        · exact List.getElem?_set_ne (fun e => hj (by subst e; exact List.mem_singleton.mpr rfl))
      | @tu _ es ts k pos htg =>
        rw [asgT_tu]
        cases w with
        | tup ws =>
          cases r with
          | @tup p vs _ hs z =>
            have key := ih2 es ts σE σ ws vs htg a z
            show TgPost T c X g st H σ _ _ _ (asgTs T.G n d σE st ts ws)
            cases q : asgTs T.G n d σE st ts ws with
            | exc ci pl st' => rw [q] at key; exact key.elim
            | err => trivial
            | ok σE' st' =>
              rw [q] at key
              obtain ⟨e1, e2, key⟩ := key
              refine ⟨e1, fun Q h => ?_⟩
              obtain ⟨s1, s2⟩ := TrTgs.star X.env htg
              refine (pg_tup (n := es.length) a.ctx.calm pgs_w s2 s1).w ?_
              exact ⟨p, vs, rfl, by rw [a.ctx.hK]; exact hs, e2.symm, key Q h⟩
        | _ => trivial
    · cases h with
      | nil =>
        rw [asgTs_nil]
        cases r with
        | nil => exact ⟨rfl, rfl, fun Q h => pgs_nil.w ⟨rfl, h σ a.rf rfl fun _ _ => rfl⟩⟩
        | cons _ _ => trivial
      | @cons _ e t es ts h1 h2 =>
        rw [asgTs_cons]
        cases r with
        | nil => trivial
        | @cons w v ws vs rz rzs =>
          show TgsPost T c X g st H σ (e :: es) (t :: ts) (v :: vs) ((asgT T.G n d σE st t w).bind fun σ st => asgTs T.G n d σ st ts ws)
          have k1 := ih1 e t σE σ w v h1 a rz
          cases q : asgT T.G n d σE st t w with
          | exc ci pl st' => rw [q] at k1; exact k1.elim
          | err => trivial
          | ok σE1 st1 =>
            rw [q] at k1
            obtain ⟨e1, k1⟩ := k1
            subst e1
            show TgsPost T c X g st1 H σ (e :: es) (t :: ts) (v :: vs) (asgTs T.G n d σE1 st1 ts ws)
            obtain ⟨p1, p2, p3⟩ := (asg_pure c n).2 es ts σE1 st1 ws h2
            cases q2 : asgTs T.G n d σE1 st1 ts ws with
            | exc ci pl st' => exact absurd q2 (p1 _ _ _)
            | err => trivial
            | ok σE2 st2 =>
              refine ⟨p2 _ _ q2, ?_, fun Q h => ?_⟩
              · rw [List.length_cons, List.length_cons, p3 _ _ q2, rzs.length]
              · refine (pgs_cons pg_w pgs_w (by rw [h1.plain]; rfl)).w ?_
                refine ⟨v, vs, rfl, k1 _ fun σ1 rf1 l1 s1 => ?_⟩
                have a1 : At T d c X W g st1 H σE1 σ1 := ⟨a.ctx, a.tk, a.wf, a.rst, rf1⟩
                have k2 := ih2 es ts σE1 σ1 ws vs h2 a1 rzs
                rw [q2] at k2
                obtain ⟨_, _, k2⟩ := k2
                refine k2 Q fun σ2 rf2 l2 s2 => h σ2 rf2 (l2.trans l1) fun i hi => ?_
                simp only [tgSs, List.mem_append, not_or] at hi
                rw [s2 i hi.2, s1 i hi.1]
end
end Pv
end

section
set_option Elab.async false
set_option linter.all false
set_option maxRecDepth 100000
namespace Pv
open PySem PySem.Spec PyProof.Rows L2

theorem takes_no {X : Cx} : Takes X (fun _ _ _ _ => False) := fun _ _ ⟨_, _, _, _, _, _, _, _, _, _, _, _, _, _, _, _, w⟩ => w.elim
theorem Po.of_ok {α : Type} {T : Tb} {g : Gh} {H : Hp} {W : WX} {σ : L2.St} {r : R α} {a : α} {st : Sto} (h : r = .ok a st) : Po T g H W σ (fun b st' _ _ => b = a ∧ st' = st) r := by
  subst h
  exact fun _ _ _ _ _ => ⟨rfl, rfl⟩
/-- the value is known -/
theorem Po.ok_of {α : Type} {T : Tb} {g : Gh} {H : Hp} {σ : L2.St} {P : α → Sto → Gh → Hp → Prop} {r : R α} (h : Po T g H (fun _ _ _ _ => False) σ P r) (wf : Wf g H) (k : ∀ ci pl st', r ≠ .exc ci pl st') : ∃ a st', r = .ok a st' := by
  cases r with
  | ok a st => exact ⟨a, st, rfl⟩
  | exc c pl st => exact absurd rfl (k _ _ _)
  | err => exact h.elim
section
variable {T : Tb} {n d : Nat} {c : Cfg} {X : Cx} {W : WX} {g g' : Gh} {st : Sto} {H H' : Hp} {σE : Fr} {σ : L2.St} {sc' : Scope}
theorem Ext.updN {D : Addr} {o : HO} (e : Ext g H g' H') (h : H D = none) : Ext g H g' (upd H' D o) where
  tag := e.tag
  nt := e.nt
  keep := fun a u q n i => by rw [upd_ne (ne_of_none q h)]; exact e.keep a u q n i
  ins := fun a C dx fs q => by
    obtain ⟨fs', q'⟩ := e.ins a C dx fs q
    exact ⟨fs', by rw [upd_ne (ne_of_none q h)]; exact q'⟩
  there := fun a u q => by
    obtain ⟨o', q'⟩ := e.there a u q
    exact ⟨o', by rw [upd_ne (ne_of_none q h)]; exact q'⟩
  io := e.io
  lam := e.lam
/-- a list of no one else's is changed -/
theorem mut_mo {K : PySem.W.Frag} {D : Addr} {acc : List V} {o : HO} (hD : H D = some (.lst acc)) (ht : g.ow D ≠ some .sh) : Mo K g H g (upd H D o) where
  sh := fun _ h => h
  lst := fun a u q t => by rw [upd_ne (fun z => ht (by rw [← z]; exact t))]; exact q
  frz := fun a x u q => by rw [upd_ne (ne_of q hD (by intro z; cases z))]; exact q
  tup := fun a xs q => by rw [upd_ne (ne_of q hD (by intro z; cases z))]; exact q
  io := fun _ _ h => h
  lam := rfl
  ext := fun a φ q => by rw [upd_ne (ne_of q hD (by intro z; cases z))]; exact q
theorem mut_st {D : Addr} {acc : List V} {o : HO} (hD : H D = some (.lst acc)) (ht : g.ow D ≠ some .sh) (hf : notFld (g.ow D)) (r : RelSt T g st H) : RelSt T g st (upd H D o) :=
  ⟨r.len, fun n ob e => let ⟨x, dx, fs, h1, h2, h3⟩ := r.ob n ob e
    ⟨x, dx, fs, h1, by rw [upd_ne (ne_of h2 hD (by intro z; cases z))]; exact h2, h3.mo (mut_mo hD ht) fun a u f q t => by rw [upd_ne (fun z => hf n f (by rw [← z]; exact t))]; exact q⟩, r.inj, r.na, r.lam, r.tb.upd hf hD (fun _ => nofun)⟩
theorem mut_wf {D : Addr} {acc acc' : List V} (hD : H D = some (.lst acc)) (wf : Wf g H) : Wf g (upd H D (.lst acc')) := fun a t h => by
  obtain ⟨o, q, l⟩ := wf a t h
  by_cases e : a = D
  · subst e; exact ⟨_, upd_same, LD_lst⟩
  · exact ⟨o, by rw [upd_ne e]; exact q, l⟩

/-! ### a comprehension's block -/
def AllB (X : Cx) (sc' : Scope) (F : Cx → Prop) : Prop := ∀ (s0 : Shared) (H0 : Hp) (C : Addr) (cl : List (Str × Addr)) (fp : List Addr), F (X.blk s0 H0 sc' (compEnvC sc' cl C X.env) fp)
def wEb (X : Cx) (sc' : Scope) (e : Expr) : TE := fun σ H Q => AllB X sc' fun X' => wE X' e σ H Q
def wGb (X : Cx) (sc' : Scope) (e : Expr) : TG := fun v σ H Q => AllB X sc' fun X' => wG X' e v σ H Q
def wTs (X : Cx) (ifs : List Expr) : TT := fun σ H Q => ∀ (pins : List (Addr × PySem.Obj)) (s : Shared), Inv X pins σ H s →
  wpAny (model X.prog X.w) X.A (forIn ifs true fun c r => if r = true then do let ok ← isTrue c X.env (eval c X.env); pure (ForInStep.yield ok) else pure (ForInStep.yield r)) (TP X pins σ Q) X.xe s
def wTsb (X : Cx) (sc' : Scope) (ifs : List Expr) : TT := fun σ H Q => AllB X sc' fun X' => wTs X' ifs σ H Q
def wIb (X : Cx) (sc' : Scope) (tg iter : Expr) : TI := fun σ H R => AllB X sc' fun X' => wI X' tg iter σ H R
theorem blk_ctx (a : CtxOk T d c X) (s0 : Shared) (H0 : Hp) (C : Addr) (cl : List (Str × Addr)) (fp : List Addr) : CtxOk T d { c with sc := relS sc' c.sc, fn := false, lq := none } (X.blk s0 H0 sc' (compEnvC sc' cl C X.env) fp) where
  hN := a.hN
  nd := a.nd
  calm := a.calm
  room := a.room
  hK := a.hK
  hm := a.hm
  sc := by
    show relabel sc' X.env = relS sc' c.sc
    rw [← a.sc]; rfl
  fns := a.fns
  cls := a.cls
  fnc := fun z => by cases z
  lams := a.lams
  lq := fun q z => by cases z
theorem ifs_ok (stt : ∀ m, m < n → STt T m d) {ifs : List Expr} {is : List Ex} {Q : Bool → Hp → Prop} (ts : TrTs T c ifs is) (hl : is.length ≤ 1) (a : At T d c X W g st H σE σ) (h : Po T g H W σ (fun b st' g' H' => Q b H') (evTA T.G n d σE st is)) : wTs X ifs σ H Q := by
  cases ts with
  | nil =>
    cases n with
    | zero => rw [evTA.eq_def] at h; exact h.elim
    | succ m => simp only [evTA] at h; exact fun pins s I => pts_nil.run pins s σ H Q I (h.ok a.wf a.rst)
  | @cons _ e x es xs te ts =>
    cases ts with
    | cons _ _ => simp at hl
    | nil =>
      cases n with
      | zero => rw [evTA.eq_def] at h; exact h.elim
      | succ m =>
        simp only [evTA] at h
        refine fun pins s I => (pts_one (pt_w (X := X))).run pins s σ H Q I ?_
        refine stt m (Nat.lt_succ_self m) c e x te X W g st H σE σ Q a (h.bind.mono fun b st1 g1 H1 e1 wf1 rs1 h1 => ?_)
        cases b with
        | true =>
          cases m with
          | zero => rw [evTA.eq_def] at h1; exact h1.elim
          | succ k => simp only [evTA] at h1; exact h1.ok wf1 rs1
        | false => exact h1.ok wf1 rs1
theorem evGL_0 {G : Gb} {t : Tg} {ws : List Pv.W} {is : List Ex} {gs : List Gn} {x : Ex} : evGL G 0 d σE st t ws is gs x = .err := by rw [evGL.eq_def]
theorem evGL_nil {G : Gb} {t : Tg} {is : List Ex} {gs : List Gn} {x : Ex} : evGL G (n + 1) d σE st t [] is gs x = .ok [] st := by rw [evGL.eq_def]
theorem evGL_cons {G : Gb} {t : Tg} {w : Pv.W} {ws : List Pv.W} {is : List Ex} {gs : List Gn} {x : Ex} : evGL G (n + 1) d σE st t (w :: ws) is gs x =
    (asgT G n d σE st t w).bind fun σ' st => (evTA G n d σ' st is).bind fun b st => match b with
      | true => (evG G n d σ' st gs x).bind fun xs st => (evGL G n d σE st t ws is gs x).bind fun ys st => .ok (xs ++ ys) st
      | false => evGL G n d σE st t ws is gs x := by rw [evGL.eq_def] <;> rfl
theorem evG_nil {G : Gb} {x : Ex} {ws : List Pv.W} {st' : Sto} (h : evG G n d σE st [] x = .ok ws st') : ∃ m w, n = m + 1 ∧ evE G m d σE st x = .ok w st' ∧ ws = [w] := by
  cases n with
  | zero => rw [evG.eq_def] at h; exact nomatch h
  | succ m =>
    simp only [evG] at h
    obtain ⟨w, st1, h1, h2⟩ := R.bind_ok h
    injection h2 with h3 h4
    subst h4
    exact ⟨m, w, rfl, h1, h3.symm⟩
/-- the loop's state -/
structure LI (T : Tb) (d : Nat) (g1 : Gh) (H1 : Hp) (D : Addr) (σw : Fr) (t : Tg) (is : List Ex) (gs : List Gn) (x : Ex) (stE : Sto) (total : List Pv.W) (N : Nat) (rest : List Pv.W) (Hc : Hp) : Prop where
  ex : ∃ (k : Nat) (gc : Gh) (stc : Sto) (acc : List V) (accW zs : List Pv.W), k ≤ N ∧ Ext g1 H1 gc Hc ∧ Wf gc Hc ∧ RelSt T gc stc Hc ∧ Hc D = some (.lst acc) ∧ gc.ow D = none ∧ RelZs T.K gc Hc accW acc ∧
    evGL T.G k d σw stc t rest is gs x = .ok zs stE ∧ accW ++ zs = total
theorem app_step {D : Addr} {acc : List V} {accW : List Pv.W} {w : Pv.W} {v : V} (wf : Wf g H) (rs : RelSt T g st H) (hD : H D = some (.lst acc)) (ht : g.ow D = none) (z : RelZs T.K g H accW acc) (r : RelZ T.K g H w v) :
    Wf g (upd H D (.lst (acc ++ [v]))) ∧ RelSt T g st (upd H D (.lst (acc ++ [v]))) ∧ RelZs T.K g (upd H D (.lst (acc ++ [v]))) (accW ++ [w]) (acc ++ [v]) := by
  have n1 : g.ow D ≠ some .sh := by rw [ht]; exact nofun
  refine ⟨mut_wf hD wf, mut_st hD n1 (by rw [ht]; exact notFld_none) rs, (z.append (.cons r .nil)).mo (mut_mo hD n1)⟩
theorem tLc_ok (se : ∀ m, m ≤ n → SE T m d) (stt : ∀ m, m ≤ n → STt T m d) (si : ∀ m, m ≤ n → SI T m d) {elt tg iter : Expr} {ifs : List Expr} {own : List (Str × Nat)} {x : Ex} {t : Tg} {it : Ex} {is : List Ex} {Q : VK}
    (hi : TrI T c [] iter it) (hns : notSet iter = true) (ok : BlkOk c.N c.sc sc' own) (hv : own.map (·.2) = tgS t) (ht : TrTg T { c with sc := relS sc' c.sc, fn := false, lq := none } tg t) (hifs : TrTs T { c with sc := relS sc' c.sc, fn := false, lq := none } ifs is) (hil : is.length ≤ 1) (he : TrE T { c with sc := relS sc' c.sc, fn := false, lq := none } elt x) (ho : isO x = false)
    (a : At T d c X W g st H σE σ) (h : Po T g H W σ (fun w st' g' H' => ∀ v, RelFr T.K H g' H' w v → Q v H') (((evGs T.G n d σE st [.mk t it is] x).bind fun ws st => bif small ws.length then .ok (.lst ws) st else .err).noexc)) :
    tLc (wI X tg iter) (wGb X sc' tg) (wTsb X sc' ifs) (wEb X sc' elt) (own.map (·.2)) σ H Q := by
  have a0 : At T d c X (fun _ _ _ _ => False) g st H σE σ := ⟨a.ctx, takes_no, a.wf, a.rst, a.rf⟩
  have h0 := noexc_po (W' := fun _ _ _ _ => False) (σ' := σ) h
  -- the whole answer is known
  cases hr : (evGs T.G n d σE st [.mk t it is] x).bind fun ws st => bif small ws.length then R.ok (Pv.W.lst ws) st else .err with
  | err => rw [hr] at h0; exact h0.elim
  | exc ci pl st' => rw [hr] at h; exact h.elim
  | ok wL stE =>
    rw [hr] at h0
    obtain ⟨total, stE', hg, hsm⟩ := R.bind_ok hr
    have hsm2 : small total.length = true ∧ wL = .lst total ∧ stE' = stE := by
      cases q : small total.length with
      | false => rw [q] at hsm; exact nomatch hsm
      | true => rw [q] at hsm; injection hsm with q1 q2; exact ⟨rfl, q1.symm, q2⟩
    obtain ⟨hsz, rfl, rfl⟩ := hsm2
    have hsz : total.length ≤ sizeLine := by rw [sizeLine_eq]; exact Nat.le_of_ble_eq_true hsz
    cases n with
    | zero => rw [evGs.eq_def] at hg; exact nomatch hg
    | succ n =>
      simp only [evGs, gnS, List.append_nil] at hg
      obtain ⟨ws, st1, hws, hgl⟩ := R.bind_ok hg
      rw [hv]
      refine si n (Nat.le_succ n) c [] iter it hi tg X _ g st H σE σ _ a0 ((Po.of_ok hws).mono fun ws' st1' g1 H1 e1 wf1 rs1 ⟨q1, q2⟩ J hJ => ?_)
      subst q1 q2
      intro D hD
      have hD0 : H D = none := e1.free hD
      refine ⟨fun i m Hc => m = ws'.length - i ∧ i ≤ ws'.length ∧ LI T d g1 H1 D (wipeF σE (tgS t)) t is [] x stE' total n (ws'.drop i) Hc, ⟨_, rfl, Nat.zero_le _, ⟨n, g1, st1', [], [], total, Nat.le_refl _, .new hD, wf1.new hD, rs1.new hD, upd_same, wf1.no hD, .nil, hgl, rfl⟩⟩, ?_⟩
      rintro i m Hc ⟨rfl, hil2, ⟨k, gc, stc, acc, accW, zs, hk, ec, wfc, rsc, hDc, htc, zc, hev, htot⟩⟩
      obtain ⟨hgo, hstop⟩ := hJ i gc Hc (ec.toM _) wfc
      by_cases hlt : i < ws'.length
      · right
        have hdrop : ws'.drop i = ws'[i] :: ws'.drop (i + 1) := List.drop_eq_getElem_cons hlt
        obtain ⟨hg1, hyld⟩ := hgo ws'[i] (List.getElem?_eq_getElem hlt)
        refine ⟨hg1, LI T d g1 H1 D (wipeF σE (tgS t)) t is [] x stE' total n (ws'.drop (i + 1)), fun H' q => ⟨_, by omega, rfl, hlt, q⟩, fun y H' hy => ?_⟩
        obtain ⟨g2, e2, wf2, rs2, rz⟩ := hyld y H' hy
        have rs2 := rs2 stc rsc
        rw [hdrop] at hev
        cases k with
        | zero => rw [evGL_0] at hev; exact nomatch hev
        | succ k =>
          rw [evGL_cons] at hev
          obtain ⟨σ1, st2, hasg, hev⟩ := R.bind_ok hev
          obtain ⟨b, st3, htst, hev⟩ := R.bind_ok hev
          have hst := ((asg_pure { c with sc := relS sc' c.sc, fn := false, lq := none } k).1 tg t _ _ _ ht).2 _ _ hasg
          subst hst
          intro s0 H0 C cl fp
          have aw : At T d { c with sc := relS sc' c.sc, fn := false, lq := none } (X.blk s0 H0 sc' (compEnvC sc' cl C X.env) fp) (fun _ _ _ _ => False) g2 st2 H' (wipeF σE (tgS t)) (wipe σ (tgS t)) :=
            ⟨blk_ctx a.ctx s0 H0 C cl fp, takes_no, wf2, rs2, RelF.cfg (c := c) (c' := { c with sc := relS sc' c.sc, fn := false, lq := none }) rfl rfl ((((a.rf.ext a.wf e1).ext wf1 ec).ext wfc e2).wipe (tgS t))⟩
          have k1 := (tg_both (d := d) { c with sc := relS sc' c.sc, fn := false, lq := none } (X.blk s0 H0 sc' (compEnvC sc' cl C X.env) fp) (fun _ _ _ _ => False) g2 st2 H' k).1 tg t (wipeF σE (tgS t)) (wipe σ (tgS t)) ws'[i] y ht aw rz
          rw [hasg] at k1
          refine k1.2 _ fun σ2 rf2 hl2 hs2 => ⟨?_, ?_⟩
          · have := wipe_same (σ := wipe σ (tgS t)) (σ' := σ2) hl2 (vs := tgS t) hs2
            rw [this]
            exact wipe_same (wipe_length σ (tgS t)) fun j hj => wipe_out hj
          intro s0 H0 C cl fp
          have aw2 : At T d { c with sc := relS sc' c.sc, fn := false, lq := none } (X.blk s0 H0 sc' (compEnvC sc' cl C X.env) fp) (fun _ _ _ _ => False) g2 st2 H' σ1 σ2 := ⟨blk_ctx a.ctx s0 H0 C cl fp, takes_no, wf2, rs2, rf2⟩
          refine ifs_ok (n := k) (fun m hm => stt m (by omega)) hifs hil aw2 ((Po.of_ok htst).mono fun b' st3' g3 H3 e3 wf3 rs3 ⟨q1, q2⟩ => ?_)
          subst q1 q2
          have hD2 : H' D = some (.lst acc) := e2.keep D _ hDc (by rw [htc]; exact notFld_none) (fun _ _ _ z => by cases z)
          have ht2 : g2.ow D = none := e2.nt D _ hDc htc
          have hD3 : H3 D = some (.lst acc) := e3.keep D _ hD2 (by rw [ht2]; exact notFld_none) (fun _ _ _ z => by cases z)
          have ht3 : g3.ow D = none := e3.nt D _ hD2 ht2
          have z3 : RelZs T.K g3 H3 accW acc := (zc.mo (e2.mo wfc)).mo (e3.mo wf2)
          cases b' with
          | false =>
            refine iteF ⟨k, g3, st3', acc, accW, zs, by omega, (ec.trans e2).trans e3, wf3, rs3, hD3, ht3, z3, hev, htot⟩
          | true =>
            refine iteT ?_
            intro s0 H0 C cl fp
            obtain ⟨xs, st4, hx, hev⟩ := R.bind_ok hev
            obtain ⟨ys, st5, hys, hev⟩ := R.bind_ok hev
            injection hev with q1 q2
            subst q1 q2
            obtain ⟨k', w, hk', hw, rfl⟩ := evG_nil hx
            have aw3 : At T d { c with sc := relS sc' c.sc, fn := false, lq := none } (X.blk s0 H0 sc' (compEnvC sc' cl C X.env) fp) (fun _ _ _ _ => False) g3 st3' H3 σ1 σ2 := ⟨blk_ctx a.ctx s0 H0 C cl fp, takes_no, wf3, rs3, rf2.ext wf2 e3⟩
            refine (se k' (by omega)).lk he ho aw3 (Po.of_ok hw) fun w' st4' g4 H4 v a4 e4 r4 ⟨q1, q2⟩ => ?_
            subst q1 q2
            have hD4 : H4 D = some (.lst acc) := e4.keep D _ hD3 (by rw [ht3]; exact notFld_none) (fun _ _ _ z => by cases z)
            have ht4 : g4.ow D = none := e4.nt D _ hD3 ht3
            have z4 : RelZs T.K g4 H4 accW acc := z3.mo (e4.mo wf3)
            obtain ⟨p1, p2, p3⟩ := app_step a4.wf a4.rst hD4 ht4 z4 r4
            refine ⟨acc, hD4, ?_, ⟨k, g4, st4', acc ++ [v], accW ++ [w'], ys, by omega, (((ec.trans e2).trans e3).trans e4).updN hD, p1, p2, upd_same, ht4, p3, hys, by rw [← htot]; simp⟩⟩
            have := congrArg List.length htot
            simp only [List.length_append, List.length_cons] at this
            have hzl := z4.length
            omega
      · left
        have hi : i = ws'.length := by omega
        refine ⟨hstop (by omega), ?_⟩
        rw [hi, List.drop_length] at hev
        cases k with
        | zero => rw [evGL_0] at hev; exact nomatch hev
        | succ k =>
          rw [evGL_nil] at hev
          injection hev with q1 q2
          subst q1 q2
          rw [List.append_nil] at htot
          subst htot
          refine h0 gc Hc (e1.trans ec) wfc rsc _ (.inr ⟨.lst hDc htc zc, fun b z => by cases z; exact hD0⟩)
theorem hfs_of {iter : Expr} (hns : notSet iter = true) (env : Env) : ∀ x, foldedSetIterable iter env x = pure x := fun x => by cases iter <;> first | rfl | exact nomatch hns
theorem s_comp (se : ∀ m, m ≤ n → SE T m d) (stt : ∀ m, m ≤ n → STt T m d) (si : ∀ m, m ≤ n → SI T m d) {elt tg iter : Expr} {ifs : List Expr} {own : List (Str × Nat)} {pos : Pos} {x : Ex} {t : Tg} {it : Ex} {is : List Ex} {Q : VK}
    (hi : TrI T c [] iter it) (hns : notSet iter = true) (ok : BlkOk c.N c.sc sc' own) (hv : own.map (·.2) = tgS t) (ht : TrTg T { c with sc := relS sc' c.sc, fn := false, lq := none } tg t) (hifs : TrTs T { c with sc := relS sc' c.sc, fn := false, lq := none } ifs is) (hil : is.length ≤ 1) (he : TrE T { c with sc := relS sc' c.sc, fn := false, lq := none } elt x) (ho : isO x = false)
    (a : At T d c X W g st H σE σ) (h : Po T g H W σ (fun w st' g' H' => ∀ v, RelFr T.K H g' H' w v → Q v H') (((evGs T.G n d σE st [.mk t it is] x).bind fun ws st => bif small ws.length then .ok (.lst ws) st else .err).noexc)) :
    wE X (.ListComp elt [⟨tg, iter, ifs, 0⟩] sc' pos) σ H Q :=
  (pe_lc (wi := wI X tg iter) (g := wGb X sc' tg) (tt := wTsb X sc' ifs) (te := wEb X sc' elt) (own := own) a.ctx.calm (by rw [a.ctx.hN]; exact a.ctx.nd) pi_w (by rw [a.ctx.hN, a.ctx.sc]; exact ok)
        (fun s0 H0 C cl fp => ⟨fun pins s σ H v u Q I r hq => hq s0 H0 C cl fp pins s u I r⟩) (fun s0 H0 C cl fp => ⟨fun pins s σ H Q I hq => hq s0 H0 C cl fp pins s I⟩) (fun s0 H0 C cl fp => ⟨fun pins s σ H Q I hq => hq s0 H0 C cl fp pins s I⟩) (hfs_of hns X.env)).w
    (tLc_ok se stt si hi hns ok hv ht hifs hil he ho a h)
/-- name = [..] on one line -/
theorem s_setcomp (se : ∀ m, m ≤ n → SE T m d) (stt : ∀ m, m ≤ n → STt T m d) (si : ∀ m, m ≤ n → SI T m d) {elt tg iter : Expr} {ifs : List Expr} {own : List (Str × Nat)} {pos spos py : Pos} {y : Str} {i : Nat} {x : Ex} {t : Tg} {it : Ex} {is : List Ex} {D : Ends}
    (hi : TrI T c [] iter it) (hns : notSet iter = true) (ok : BlkOk c.N c.sc sc' own) (hv : own.map (·.2) = tgS t) (ht : TrTg T { c with sc := relS sc' c.sc, fn := false, lq := none } tg t) (hifs : TrTs T { c with sc := relS sc' c.sc, fn := false, lq := none } ifs is) (hil : is.length ≤ 1) (he : TrE T { c with sc := relS sc' c.sc, fn := false, lq := none } elt x) (ho : isO x = false)
    (hy : c.N[i]? = some y) (hyl : c.sc.names.lookup y = some .local) (hsw : swapsWith (.ListComp elt [⟨tg, iter, ifs, 0⟩] sc' pos) (some (.Name y py)) spos.line X.env = pure true)
    (a : At T d c X W g st H σE σ) (h : Po T g H W σ (fun w st' g' H' => ∀ v, RelFr T.K H g' H' w v → D.nx (σ.set i (some v)) H') (((evGs T.G n d σE st [.mk t it is] x).bind fun ws st => bif small ws.length then .ok (.lst ws) st else .err).noexc)) :
    wS X (.Assign [.Name y py] (.ListComp elt [⟨tg, iter, ifs, 0⟩] sc' pos) spos) D σ H :=
  (ps_setLc (wi := wI X tg iter) (g := wGb X sc' tg) (tt := wTsb X sc' ifs) (te := wEb X sc' elt) (own := own) a.ctx.calm (by rw [a.ctx.hN]; exact a.ctx.nd) (by rw [a.ctx.hN]; exact hy) (by rw [a.ctx.sc]; exact hyl) hsw pi_w (by rw [a.ctx.hN, a.ctx.sc]; exact ok)
        (fun s0 H0 C cl fp => ⟨fun pins s σ H v u Q I r hq => hq s0 H0 C cl fp pins s u I r⟩) (fun s0 H0 C cl fp => ⟨fun pins s σ H Q I hq => hq s0 H0 C cl fp pins s I⟩) (fun s0 H0 C cl fp => ⟨fun pins s σ H Q I hq => hq s0 H0 C cl fp pins s I⟩) (hfs_of hns X.env)).w
    (show tLc _ _ _ _ _ σ H (fun v H1 => D.nx (σ.set i (some v)) H1) from tLc_ok se stt si hi hns ok hv ht hifs hil he ho a h)
end
end Pv
end

section
set_option Elab.async false
set_option linter.all false
set_option maxRecDepth 100000
namespace Pv
open PySem PySem.Spec PyProof.Rows L2

/-! ### objects -/
theorem base_non {o : Expr} (h : notCall o = true) (m : Str) (env : Env) (w : Sem Value) : attributeBase o m env w = w := by
  cases o <;> first | rfl | exact nomatch h
theorem few_ok {T : Tb} {c : Cfg} (pos : Pos) (env : Env) : ∀ {ms : List Bool} {es : List Expr} {xs : List Ex}, TrEs T c ms es xs → (backTo pos (starEach es env)).all (fun x => !x.1) = true
  | _, _, _, .nil => rfl
  | _, _, _, .cons te _ ts => by rw [star_ok te]; exact few_ok pos env ts
  | _, _, _, .more te _ ts => by rw [star_ok te]; exact few_ok pos env ts
theorem meth_form {o : Expr} {m : Str} {apos pos : Pos} {es : List Expr} (hc : notCall o = true) (hl : (apos.endLine == pos.line) = true) (env : Env) (hf : (backTo pos (starEach es env)).all (fun x => !x.1) = true) (hn : es.length < 30) :
    eval (.Call (.Attribute o m apos) es [] pos) env = (do
      let u ← eval o env
      standAt apos.atName
      let fx ← holding [u] (getMethod u m (do return (← importBound o env).getD true))
      callWith pos fx.1 fx.2 (backTo pos (starEach es env)) (backToKw pos (keywordEach [] env))) := by
  have h1 : methodCallForm (es.length + 0) (backTo pos (starEach es env)) (backToKw pos (keywordEach [] env)) = true := by
    unfold methodCallForm
    rw [hf]
    show (true && true && decide (es.length + 0 + 0 < 30)) = true
    rw [decide_eq_true (by omega)]; rfl
  rw [arm_eval_Call, base_non hc]
  show (do
      let ov ← eval o env
      standAt apos.atName
      methodCall o m apos pos env ov (es.length + 0) (backTo pos (starEach es env)) (backToKw pos (keywordEach [] env))) = _
  unfold methodCall methodCallPos
  rw [h1, hl]
  rfl
section
variable {X : Cx} {k : Nat} {m : Str} {E : L2.St → XK} {o : Expr} {es : List Expr} {ta : TE} {t : TA} {apos pos : Pos}
/-- what a method's call asks: the class, the def and its promise as the object has them -/
def wMeth (X : Cx) (k : Nat) (m : Str) (E : L2.St → XK) (ta : TE) (t : TA) : TE := fun σ H Q => ta σ H fun x H1 => ∃ (a C f dx : Addr) (fs : List (Str × V)) (fd : FuncData) (ps : List Str) (sp : Sp),
  x = .ref a ∧ H1 a = some (.ins C dx fs) ∧ Cls X.K C ∧ Meth X.K C m f ∧ fs.lookup m = none ∧ Binds X.K fd ps [] ∧ FnOk X.prog X.w X.K X.mg X.base (L2.CX X.prog X.w) k f fd ps sp ∧ t σ H1 fun vs H2 => sp (.ref a :: vs) H2 Q (E σ)
theorem pe_methW {e : Expr} {rest : List Expr} (he : PE X o ta) (hr : Room k X.A) (hx : ∀ σ, PassesAt (L2.CX X.prog X.w) X σ (E σ)) (ha : PA X (e :: rest) t) (h1 : starEach (e :: rest) X.env = (false, eval e X.env) :: starEach rest X.env) (h2 : (backTo pos (starEach rest X.env)).any (·.1) = false)
    (hf : eval (.Call (.Attribute o m apos) (e :: rest) [] pos) X.env = (do
      let u ← eval o X.env
      standAt apos.atName
      let fx ← holding [u] (getMethod u m (do return (← importBound o X.env).getD true))
      callWith pos fx.1 fx.2 (backTo pos (starEach (e :: rest) X.env)) (backToKw pos (keywordEach [] X.env)))) :
    PE X (.Call (.Attribute o m apos) (e :: rest) [] pos) (wMeth X k m E ta t) := by
  refine ⟨fun pins s σ H Q I h => ?_⟩
  refine PySem.W.methodCall_KW (thn (he.run pins s σ H _ I h) fun u s1 ⟨x, H1, I1, rx, a, C, f, dx, fs, fd, ps, sp, ex, ea, cl, me, nl, hb, F, q⟩ => ?_) hf
  subst ex
  cases rx
  refine getmeth_ok I1 ea cl me nl ?_
  exact PySem.W.callWith_K (first := [.ref a]) (h₀ := X.base) I.ok.mod.kin me.kp (thn (ha.run pos pins s1 σ H1 _ I1 q) fun us s2 ⟨vs, H2, I2, r, q2⟩ => ⟨I2.kIn, run_fnS (us := .ref a :: us) (vs := .ref a :: vs) F hr hb (hx σ) I2 (.cons rfl r) q2⟩) h1 h2
theorem pe_methW0 (he : PE X o ta) (hr : Room k X.A) (hx : ∀ σ, PassesAt (L2.CX X.prog X.w) X σ (E σ))
    (hf : eval (.Call (.Attribute o m apos) [] [] pos) X.env = (do
      let u ← eval o X.env
      standAt apos.atName
      let fx ← holding [u] (getMethod u m (do return (← importBound o X.env).getD true))
      callWith pos fx.1 fx.2 (backTo pos (starEach [] X.env)) (backToKw pos (keywordEach [] X.env)))) :
    PE X (.Call (.Attribute o m apos) [] [] pos) (wMeth X k m E ta tNil) := by
  refine ⟨fun pins s σ H Q I h => ?_⟩
  refine PySem.W.methodCall_KW (thn (he.run pins s σ H _ I h) fun u s1 ⟨x, H1, I1, rx, a, C, f, dx, fs, fd, ps, sp, ex, ea, cl, me, nl, hb, F, q⟩ => ?_) hf
  subst ex
  cases rx
  refine getmeth_ok I1 ea cl me nl ?_
  exact PySem.W.callWith_K0 (first := [.ref a]) I1.kIn me.kp (run_fnS (us := [.ref a]) (vs := [.ref a]) F hr hb (hx σ) I1 (.cons rfl .nil) q)
/-- what making an instance asks -/
def wMake (X : Cx) (k : Nat) (C : Addr) (E : L2.St → XK) (t : TA) : TE := fun σ H Q => t σ H fun vs H1 => ∃ (f : Addr) (fd : FuncData) (ps : List Str) (sp : Sp), Mk X.K C f ∧ Binds X.K fd ps [] ∧ FnOk X.prog X.w X.K X.mg X.base (L2.CX X.prog X.w) k f fd ps sp ∧
  ∀ x dx, H1 x = none → H1 dx = none → dx ≠ x → sp (.ref x :: vs) (upd (upd H1 dx (.own x)) x (.ins C dx [])) (fun v H2 => v = .non ∧ Q (.ref x) H2) (E σ)
theorem pe_makeW {C : Addr} {x : Str} {p : Pos} {e : Expr} {rest : List Expr} (hr : Room (k + 1) X.A) (hx : ∀ σ, PassesAt (L2.CX X.prog X.w) X σ (E σ)) (hg : Gl X x) (hdb : (x == ("__debug__" : Str)) = false) (hm : X.mg x = some (.ref C)) (hk : PySem.W.keepIn X.K (.ref C) = true)
    (ha : PA X (e :: rest) t) (h1 : starEach (e :: rest) X.env = (false, eval e X.env) :: starEach rest X.env) (h2 : (backTo pos (starEach rest X.env)).any (·.1) = false) : PE X (.Call (.Name x p) (e :: rest) [] pos) (wMake X k C E t) := by
  refine ⟨fun pins s σ H Q I h => wpAny_Call_Name_kw (ld_glob I hg hm ?_ hdb)⟩
  refine PySem.W.callWith_K (h₀ := X.base) I.ok.mod.kin hk (thn (ha.run pos pins s σ H _ I h) fun us s1 ⟨vs, H1, I1, r, f, fd, ps, sp, M, hb, F, q⟩ => ⟨I1.kIn, ?_⟩) h1 h2
  have new : ∀ b, s1.heap.objs.size ≤ b → H1 b = none := fun b hb => I1.hok.fresh hb
  have q1 := q (s1.heap.objs.size + 1) s1.heap.objs.size (new _ (Nat.le_succ _)) (new _ (Nat.le_refl _)) (Nat.ne_of_lt (Nat.lt_succ_self _))
  have J := I1.made (C := C)
  have rr : Vals (V.ref (s1.heap.objs.size + 1) :: vs) (Value.ref (s1.heap.objs.size + 1) :: us) := .cons rfl r
  have len : (Value.ref (s1.heap.objs.size + 1) :: us).length = ps.length := by rw [← rr.length]; exact F.len _ _ _ _ q1
  have bnd := hb _ (Value.ref (s1.heap.objs.size + 1) :: us) J.kIn (by rw [List.append_nil]; exact len)
  rw [List.append_nil] at bnd
  refine wpAny_call (make_map (f := f) I1.kIn M.makes M.init (beq_iff_eq.mp M.fn) (codeAny_mono (F.run _ X.stack _ _ ⟨_ :: us, []⟩ _ _ _ (E σ) (hr.make C us []) (J.env0.make C us []) bnd rr q1) fun res s2 h3 => ?_))
  rcases res with e | fl
  · exact hx σ pins _ _ e s2 J h3
  · cases fl <;> first | exact False.elim h3 | skip
    obtain ⟨v, H2, I2, rv, rfl, q3⟩ := J.after h3
    exact ⟨rv, V.ref (s1.heap.objs.size + 1), H2, I2, rfl, q3⟩
end

section
variable {T : Tb} {n d : Nat} {c : Cfg} {X : Cx} {W : WX} {g : Gh} {st : Sto} {H : Hp} {σE : Fr} {σ : L2.St} {Q : VK}
theorem RelR.obj {K : PySem.W.Frag} {p : Nat} {v : V} (r : RelR K g H (.obj p) v) : ∃ x dx, v = .ref x ∧ g.io[p]? = some (x, dx) := by
  rcases r with r | ⟨t, _, r⟩
  · cases r with | obj h => exact ⟨_, _, rfl, h⟩
  · cases r
/-- an object's field -/
theorem fget_rel {F : List Nat} {nn f : Nat} {w : Pv.W} (inj : ∀ a b, a ∈ F → b ∈ F → T.nm a = T.nm b → a = b) : ∀ {fs : List (Nat × Pv.W)} {vs : List (Str × V)}, FsR T g H nn fs vs → (∀ p, p ∈ fs → p.1 ∈ F) → f ∈ F → fget f fs = some w → ∃ v, vs.lookup (T.nm f) = some v ∧ FldR T g H nn f w v
  | _, _, .nil, _, _, h => by simp [fget] at h
  | _, _, .cons (f := k) (w := w1) (v := v1) (fs := fs) (vs := vs) r rs, hF, hf, h => by
    unfold fget at h
    by_cases e : k = f
    · subst e
      rw [show Nat.beq k k = true from Nat.beq_refl k] at h
      injection h with h; subst h
      exact ⟨v1, by simp [List.lookup], r⟩
    · rw [show Nat.beq k f = false from by cases q : Nat.beq k f with | false => rfl | true => exact absurd (Nat.eq_of_beq_eq_true q) e] at h
      obtain ⟨v, h1, h2⟩ := fget_rel inj rs (fun p hp => hF p (List.mem_cons_of_mem _ hp)) hf h
      refine ⟨v, ?_, h2⟩
      rw [List.lookup_cons]
      have hne : (T.nm f == T.nm k) = false := by
        cases q : T.nm f == T.nm k with
        | false => rfl
        | true => exact absurd (inj k f (hF (k, w1) List.mem_cons_self) hf (eq_of_beq q).symm) e
      rw [hne]; exact h1
theorem fget_mem {f : Nat} {w : Pv.W} : ∀ {fs : List (Nat × Pv.W)}, fget f fs = some w → (f, w) ∈ fs
  | [], h => by simp [fget] at h
  | (k, w1) :: fs, h => by
    unfold fget at h
    by_cases e : k = f
    · subst e
      rw [show Nat.beq k k = true from Nat.beq_refl k] at h
      injection h with h; subst h
      exact List.mem_cons_self
    · rw [show Nat.beq k f = false from by cases q : Nat.beq k f with | false => rfl | true => exact absurd (Nat.eq_of_beq_eq_true q) e] at h
      exact List.mem_cons_of_mem _ (fget_mem h)
theorem s_att (se : SE T n d) {f : Nat} {e : Expr} {x : Ex} {pos : Pos} (te : TrE T c e x) (hc : notCall e = true) (hf : T.ownF f = false) (a : At T d c X W g st H σE σ)
    (h : Po T g H W σ (fun w st' g' H' => ∀ v, RelZ T.K g' H' w v → Q v H') ((evE T.G n d σE st x).bind fun x st => match x with
      | .obj p => match st[p]? with
        | some ob => o2r (fget f ob.fs) st
        | none => .err
      | _ => .err)) : wE X (.Attribute e (T.nm f) pos) σ H Q := by
  refine (pe_fld (ta := wE X e) pe_w (base_non hc _ _ _)).w ?_
  show wE X e σ H fun x H1 => ∃ a C dx fs v, x = .ref a ∧ H1 a = some (.ins C dx fs) ∧ Cls X.K C ∧ NoAttr X.K C (T.nm f) ∧ fs.lookup (T.nm f) = some v ∧ Q v H1
  rw [a.ctx.hK]
  refine se.bo te a h.bind fun w st1 g1 H1 v a1 e1 r1 h1 => ?_
  cases w with
  | obj p =>
    obtain ⟨xa, dx, rfl, hio⟩ := r1.obj
    have h1 : Po T g1 H1 W σ _ (match st1[p]? with | some ob => o2r (fget f ob.fs) st1 | none => .err) := h1
    cases hp : st1[p]? with
    | none => rw [hp] at h1; exact h1.elim
    | some ob =>
      rw [hp] at h1
      obtain ⟨w2, hw, h2⟩ := Po.o2r h1 a1.wf a1.rst
      obtain ⟨x', dx', fs, q1, q2, q3⟩ := a1.rst.ob p ob hp
      rw [hio] at q1; cases q1
      obtain ⟨cd, hcd, hxe, hfl⟩ := a1.rst.na p ob hp
      have C := a.ctx.cls _ _ hcd
      have hfm : f ∈ cd.fields := hfl (f, w2) (fget_mem hw)
      obtain ⟨v2, l1, l2⟩ := fget_rel (F := cd.fields) C.inj q3 hfl hfm hw
      refine ⟨xa, _, _, _, v2, rfl, q2, C.cl hxe, C.na f hfm, l1, h2 g1 H1 .refl a1.wf a1.rst v2 ?_⟩
      rcases l2 with l2 | ⟨l2, _⟩
      · exact l2
      · rw [hf] at l2; cases l2
  | _ => exact h1.elim
theorem lookup_no {nn m : Nat} {F : List Nat} (no : ∀ k, k ∈ F → T.nm k ≠ T.nm m) : ∀ {fs : List (Nat × Pv.W)} {vs : List (Str × V)}, FsR T g H nn fs vs → (∀ p, p ∈ fs → p.1 ∈ F) → vs.lookup (T.nm m) = none
  | _, _, .nil, _ => rfl
  | _, _, .cons (f := k) (w := w1) r rs, hF => by
    rw [List.lookup_cons]
    have hne : (T.nm m == T.nm k) = false := by
      cases q : T.nm m == T.nm k with
      | false => rfl
      | true => exact absurd (eq_of_beq q).symm (no k (hF (k, w1) List.mem_cons_self))
    rw [hne]
    exact lookup_no no rs fun p hp => hF p (List.mem_cons_of_mem _ hp)
theorem s_meth (se : SE T n d) (ses : SEs T n d) {m : Nat} {o : Expr} {y : Ex} {es : List Expr} {xs : List Ex} {p pos : Pos} (to : TrE T c o y) (hc : notCall o = true) (hl : (p.endLine == pos.line) = true) (hn : es.length < 30) (ts : TrEs T c [] es xs)
    (a : At T d c X W g st H σE σ) (h : Po T g H W σ (fun w st' g' H' => ∀ v, RelZ T.K g' H' w v → Q v H') ((evE T.G n d σE st y).bind fun x st => match x with
      | .obj p => match st[p]? with
        | some ob => match T.G.cls.find ob.cls with
          | some cd => match cd.meths.lookup m with
            | some f => (evEs T.G n d σE st xs).bind fun ws st => evF T.G n d f (x :: ws) st
            | none => .err
          | none => .err
        | none => .err
      | _ => .err)) : wE X (.Call (.Attribute o (T.nm m) p) es [] pos) σ H Q := by
  have key : wE X o σ H fun x H1 => ∃ (a C f dx : Addr) (fs : List (Str × V)) (fd : FuncData) (ps : List Str) (sp : Sp), x = .ref a ∧ H1 a = some (.ins C dx fs) ∧ Cls X.K C ∧ Meth X.K C (T.nm m) f ∧ fs.lookup (T.nm m) = none ∧ Binds X.K fd ps [] ∧
      FnOk X.prog X.w X.K X.mg X.base (L2.CX X.prog X.w) d f fd ps sp ∧ wA X es σ H1 (fun vs H2 => sp (.ref a :: vs) H2 Q (WE W σ)) ∧ (es = [] → sp [.ref a] H1 Q (WE W σ)) := by
    refine se.bo to a h.bind fun w st1 g1 H1 v a1 e1 r1 h1 => ?_
    cases w with
    | obj p =>
      obtain ⟨xa, dx, rfl, hio⟩ := r1.obj
      simp only at h1
      cases hp : st1[p]? with
      | none => rw [hp] at h1; exact h1.elim
      | some ob =>
        rw [hp] at h1
        simp only at h1
        cases hcd : T.G.cls.find ob.cls with
        | none => rw [hcd] at h1; exact h1.elim
        | some cd =>
          rw [hcd] at h1
          simp only at h1
          cases hm : cd.meths.lookup m with
          | none => rw [hm] at h1; exact h1.elim
          | some f =>
            rw [hm] at h1
            simp only at h1
            obtain ⟨x', dx', fs, q1, q2, q3⟩ := a1.rst.ob p ob hp
            rw [hio] at q1; cases q1
            obtain ⟨cd', hcd', hxe, hfl⟩ := a1.rst.na p ob hp
            rw [hcd] at hcd'; cases hcd'
            have C := a.ctx.cls _ _ hcd
            obtain ⟨me, mno, fd, hfd⟩ := C.meth m f hm
            obtain ⟨fdt, ps, hk, hb, hlp, F⟩ := (a.ctx.fns d (Nat.le_refl d) f fd hfd).ex
            have fin : ∀ {ws : List Pv.W} {vs : List V} {st2 : Sto} {g2 : Gh} {H2 : Hp}, Ext g1 H1 g2 H2 → Wf g2 H2 → RelSt T g2 st2 H2 → RelZs T.K g2 H2 ws vs → Po T g2 H2 W σ (fun w st' g' H' => ∀ v, RelZ T.K g' H' w v → Q v H') (evF T.G n d f (.obj p :: ws) st2) → spF T d f fd (.ref xa :: vs) H2 Q (WE W σ) := by
              intro ws vs st2 g2 H2 e2 wf2 rs2 z h2
              refine spF_of hfd wf2 rs2 (fun i w hw => ?_) (by simp [z.length]) (h2.all.mono fun w st' g' H' e3 wf3 rs3 h3 v r => ?_)
              · have zz : RelZs T.K g2 H2 (.obj p :: ws) (.ref xa :: vs) := .cons (.obj (e2.io _ _ hio)) z
                obtain ⟨v, h3, h4⟩ := zz.get hw
                refine ⟨v, h3, ?_⟩
                split
                · exact .inl h4
                · exact h4
              · obtain ⟨g4, e4, wf4, rs4, rz⟩ := RelK.lk (by split <;> decide) wf2 e3 wf3 rs3 r
                exact h3 g4 e4 wf4 rs4 v rz
            refine ⟨xa, _, _, _, fs, fdt, ps, spF T d f fd, rfl, q2, by rw [a.ctx.hK]; exact C.cl hxe, by rw [a.ctx.hK]; exact me, lookup_no mno q3 hfl, by rw [a.ctx.hK]; exact hb, by rw [a.ctx.hK, a.ctx.hm]; exact F, ?_, ?_⟩
            · refine ses c [] es xs ts X W g1 st1 H1 σE σ _ a1 (h1.bind.mono fun ws st2 g2 H2 e2 wf2 rs2 h2 vs rv => fin e2 wf2 rs2 rv.z h2)
            · intro hes
              subst hes
              cases ts
              cases n with
              | zero => rw [evEs.eq_def] at h1; exact h1.elim
              | succ n =>
                simp only [evEs] at h1
                exact fin .refl a1.wf a1.rst .nil h1
    | _ => exact h1.elim
  have hf := meth_form (o := o) (m := T.nm m) (apos := p) (pos := pos) (es := es) hc hl X.env (few_ok pos X.env ts) hn
  cases ts with
  | nil =>
    refine (pe_methW0 (E := WE W) (ta := wE X o) pe_w a.ctx.room (fun σ => passAt a.tk σ) hf).w ?_
    intro pins s I
    refine thn (key pins s I) fun u s1 ⟨x, H1, I1, rx, a', C, f, dx, fs, fd, ps, sp, q1, q2, q3, q4, q5, q6, q7, _, q9⟩ => ⟨x, H1, I1, rx, a', C, f, dx, fs, fd, ps, sp, q1, q2, q3, q4, q5, q6, q7, q9 rfl⟩
  | more te ho ts =>
    refine (pe_methW (E := WE W) (ta := wE X o) (t := wA X _) pe_w a.ctx.room (fun σ => passAt a.tk σ) pa_w (star_ok te _ X.env) (plain_args pos X.env ts) hf).w ?_
    intro pins s I
    refine thn (key pins s I) fun u s1 ⟨x, H1, I1, rx, a', C, f, dx, fs, fd, ps, sp, q1, q2, q3, q4, q5, q6, q7, q8, _⟩ => ⟨x, H1, I1, rx, a', C, f, dx, fs, fd, ps, sp, q1, q2, q3, q4, q5, q6, q7, q8⟩
theorem Po.ext {α : Type} {g1 : Gh} {H1 : Hp} {P : α → Sto → Gh → Hp → Prop} {r : R α} (e : Ext g H g1 H1) (h : Po T g H W σ P r) : Po T g1 H1 W σ P r := by
  cases r with
  | ok a st => exact fun g' H' e' wf rs => h g' H' (e.trans e') wf rs
  | exc ci pl st => exact fun g' H' dd e' wf rs rp => h g' H' dd (e.trans e') wf rs rp
  | err => exact h
/-- one object more -/
def Gh.more (g : Gh) (x dx : Addr) : Gh := { g with io := g.io ++ [(x, dx)] }
theorem more_io {x dx : Addr} {i : Nat} {p : Addr × Addr} (h : g.io[i]? = some p) : (g.more x dx).io[i]? = some p := by
  show (g.io ++ [(x, dx)])[i]? = _
  rw [List.getElem?_append_left (List.getElem?_eq_some_iff.mp h).1]; exact h
theorem more_mo {K : PySem.W.Frag} {x dx : Addr} : Mo K g H (g.more x dx) H := ⟨fun _ h => h, fun _ _ h _ => h, fun _ _ _ h => h, fun _ _ h => h, fun _ _ h => more_io h, rfl, fun _ _ h => h⟩
theorem FsR.more {x dx : Addr} {nn : Nat} : ∀ {fs : List (Nat × Pv.W)} {vs : List (Str × V)}, FsR T g H nn fs vs → FsR T (g.more x dx) H nn fs vs
  | _, _, .nil => .nil
  | _, _, .cons r rs => .cons (by
      rcases r with r | ⟨o, r⟩
      · exact .inl (r.mo more_mo)
      · refine .inr ⟨o, ?_⟩
        cases r with
        | lst h q r => exact .lst h q (r.mo more_mo)
        | dic h q k r => exact .dic h q k (r.mo more_mo)) (FsR.more rs)
theorem made_ext {x dx C : Addr} (hx : H x = none) (hd : H dx = none) : Ext g H (g.more x dx) (upd (upd H dx (.own x)) x (.ins C dx [])) where
  tag := fun _ _ h => h
  nt := fun _ _ _ h => h
  keep := fun a o h _ _ => by rw [upd_ne (ne_of_none h hx), upd_ne (ne_of_none h hd)]; exact h
  ins := fun a D d2 fs h => ⟨fs, by rw [upd_ne (ne_of_none h hx), upd_ne (ne_of_none h hd)]; exact h⟩
  there := fun a o h => ⟨o, by rw [upd_ne (ne_of_none h hx), upd_ne (ne_of_none h hd)]; exact h⟩
  io := fun _ _ h => more_io h
  lam := rfl
theorem made_wf {x dx C : Addr} (hx : H x = none) (hd : H dx = none) (wf : Wf g H) : Wf (g.more x dx) (upd (upd H dx (.own x)) x (.ins C dx [])) := fun a t h => by
  obtain ⟨o, q, l⟩ := wf a t h
  exact ⟨o, by rw [upd_ne (ne_of_none q hx), upd_ne (ne_of_none q hd)]; exact q, l⟩
theorem made_st {x dx : Addr} {ci : Nat} {cd : CDef} (hx : H x = none) (hd : H dx = none) (hne : dx ≠ x) (hc : T.G.cls.find ci = some cd) (hx0 : cd.isExc = false) (rs : RelSt T g st H) : RelSt T (g.more x dx) (st ++ [⟨ci, []⟩]) (upd (upd H dx (.own x)) x (.ins (T.ca ci) dx [])) := by
  have r1 : RelSt T g st (upd (upd H dx (.own x)) x (.ins (T.ca ci) dx [])) := rs.same fun a o h => by rw [upd_ne (ne_of_none h hx), upd_ne (ne_of_none h hd)]; exact h
  have get : ∀ (i : Nat) (o : Obj), (st ++ [⟨ci, []⟩])[i]? = some o → st[i]? = some o ∨ (i = st.length ∧ o = ⟨ci, []⟩) := fun i o h => by
    by_cases hi : i < st.length
    · rw [List.getElem?_append_left hi] at h; exact .inl h
    · rw [List.getElem?_append_right (by omega)] at h
      have : i - st.length = 0 := by
        cases q : i - st.length with
        | zero => rfl
        | succ k => rw [q] at h; simp at h
      rw [this] at h
      simp at h
      exact .inr ⟨by omega, h.symm⟩
  have gio : ∀ (i : Nat) (p : Addr × Addr), (g.more x dx).io[i]? = some p → g.io[i]? = some p ∨ (i = st.length ∧ p = (x, dx)) := fun i p h => by
    have h : (g.io ++ [(x, dx)])[i]? = some p := h
    by_cases hi : i < g.io.length
    · rw [List.getElem?_append_left hi] at h; exact .inl h
    · rw [List.getElem?_append_right (by omega)] at h
      have : i - g.io.length = 0 := by
        cases q : i - g.io.length with
        | zero => rfl
        | succ k => rw [q] at h; simp at h
      rw [this] at h
      simp at h
      exact .inr ⟨by have := rs.len; omega, h.symm⟩
  have old : ∀ (i : Nat) (p : Addr × Addr), g.io[i]? = some p → ∃ o, H p.1 = some o := fun i p h => by
    have hi : i < st.length := by rw [← rs.len]; exact (List.getElem?_eq_some_iff.mp h).1
    obtain ⟨x', dx', fs, q1, q2, _⟩ := rs.ob i st[i] (List.getElem?_eq_getElem hi)
    rw [h] at q1; cases q1
    exact ⟨_, q2⟩
  refine ⟨by show (g.io ++ [(x, dx)]).length = _; simp [rs.len], fun i o h => ?_, fun i j p q hi hj e => ?_, fun i o h => ?_, r1.lam, r1.tb.ow fun _ _ _ q => q⟩
  · rcases get i o h with h | ⟨rfl, rfl⟩
    · obtain ⟨x', dx', fs, q1, q2, q3⟩ := r1.ob i o h
      exact ⟨x', dx', fs, more_io q1, q2, q3.more⟩
    · refine ⟨x, dx, [], ?_, upd_same, .nil⟩
      show (g.io ++ [(x, dx)])[st.length]? = _
      rw [List.getElem?_append_right (by rw [rs.len]; exact Nat.le_refl _), rs.len, Nat.sub_self]; rfl
  · rcases gio i p hi with hi | ⟨rfl, rfl⟩ <;> rcases gio j q hj with hj | ⟨rfl, rfl⟩
    · exact rs.inj i j p q hi hj e
    · obtain ⟨o, q1⟩ := old i p hi
      rw [e, hx] at q1; cases q1
    · obtain ⟨o, q1⟩ := old j q hj
      rw [← e, hx] at q1; cases q1
    · rfl
  · rcases get i o h with h | ⟨rfl, rfl⟩
    · exact rs.na i o h
    · exact ⟨cd, hc, hx0, fun p hp => nomatch hp⟩
/-- a new object -/
theorem s_make (ses : SEs T n d) {ci : Nat} {e : Expr} {es : List Expr} {x : Ex} {xs : List Ex} {p pos : Pos} (hg : GlS c.sc (T.nm ci)) (hm : T.mg (T.nm ci) = some (.ref (T.ca ci))) (hk : PySem.W.keepIn T.K (.ref (T.ca ci)) = true) (ts : TrEs T c [] (e :: es) (x :: xs))
    (a : At T d c X W g st H σE σ) (h : Po T g H W σ (fun w st' g' H' => ∀ v, RelZ T.K g' H' w v → Q v H') (bif Nat.beq d 0 then .err else (evEs T.G n d σE st (x :: xs)).bind fun ws st => evM T.G n d ci ws st)) : wE X (.Call (.Name (T.nm ci) p) (e :: es) [] pos) σ H Q := by
  cases d with
  | zero => exact h.elim
  | succ k =>
    have h : Po T g H W σ (fun w st' g' H' => ∀ v, RelZ T.K g' H' w v → Q v H') ((evEs T.G n (k + 1) σE st (x :: xs)).bind fun ws st => evM T.G n (k + 1) ci ws st) := h
    obtain ⟨te, ms', ts'⟩ := ts.tail
    refine (pe_makeW (E := WE W) (t := wA X (e :: es)) a.ctx.room (fun σ => passAt a.tk σ) (a.ctx.gl hg) hg.2 (by rw [a.ctx.hm]; exact hm) (by rw [a.ctx.hK]; exact hk) pa_w (star_ok te es X.env) (plain_args pos X.env ts')).w ?_
    refine ses c [] (e :: es) (x :: xs) ts X W g st H σE σ _ a (h.bind.mono fun ws st1 g1 H1 e1 wf1 rs1 h1 vs rv => ?_)
    cases n with
    | zero => rw [evM.eq_def] at h1; exact h1.elim
    | succ n =>
      simp only [evM] at h1
      cases hcd : T.G.cls.find ci with
      | none => rw [hcd] at h1; exact h1.elim
      | some cd =>
        rw [hcd] at h1
        simp only at h1
        cases hi : cd.init with
        | none => rw [hi] at h1; exact h1.elim
        | some f =>
          rw [hi] at h1
          simp only at h1
          obtain ⟨hx0, M, fd, hfd⟩ := (a.ctx.cls ci cd hcd).made f hi
          obtain ⟨fdt, ps, hk2, hb, hlp, F⟩ := (a.ctx.fns k (Nat.le_succ k) f fd hfd).ex
          refine ⟨T.fa f, fdt, ps, spF T k f fd, by rw [a.ctx.hK]; exact M, by rw [a.ctx.hK]; exact hb, by rw [a.ctx.hK, a.ctx.hm]; exact F, fun xa dx hx hd hne => ?_⟩
          have e2 : Ext g1 H1 (g1.more xa dx) _ := made_ext (C := T.ca ci) hx hd
          have wf2 := made_wf (C := T.ca ci) hx hd wf1
          have rs2 := made_st hx hd hne hcd hx0 rs1
          have hio : (g1.more xa dx).io[st1.length]? = some (xa, dx) := by
            show (g1.io ++ [(xa, dx)])[st1.length]? = _
            rw [List.getElem?_append_right (by rw [rs1.len]; exact Nat.le_refl _), rs1.len, Nat.sub_self]; rfl
          have zz : RelZs T.K (g1.more xa dx) _ (.obj st1.length :: ws) (.ref xa :: vs) := .cons (.obj hio) (rv.z.mo (e2.mo wf1))
          refine spF_of hfd wf2 rs2 (fun i w hw => ?_) (by simp [rv.length]) ((h1.bind.ext e2).mono fun w st' g' H' e3 wf3 rs3 h3 v r => ?_)
          · obtain ⟨v, q1, q2⟩ := zz.get hw
            refine ⟨v, q1, ?_⟩
            split
            · exact .inl q2
            · exact q2
          · cases w with
            | non =>
              have hv : v = .non := (RelK.r r).non
              exact ⟨hv, (show Po T g' H' W σ (fun w st' g' H' => ∀ v, RelZ T.K g' H' w v → Q v H') (.ok (.obj st1.length) st') from h3).ok wf3 rs3 (.ref xa) (RelZ.obj (e3.io _ _ hio))⟩
            | _ => exact h3.elim
end
end Pv
end

section
set_option Elab.async false
set_option linter.all false
set_option maxRecDepth 100000
namespace Pv
open PySem PySem.Spec PyProof.Rows L2
section
variable {prog : Program} {w : World} {A : Around} {E : Value → Shared → Prop} {s : Shared} {K : PySem.W.Frag} {x C f : Addr} {ox : PySem.Obj} {od : Option PySem.Obj} {b tb : Value}
/-- a special method that is a builtin's -/
theorem sp_builtin {M : Model} {name : Str} {i : String} {args : List Value} {Q : Option Value → Shared → Prop} (X : K.In s.heap) (I : PySem.W.InstAt s.heap x ox C od) (hs : PySem.W.findIn K (.ref C) name = some (some (.builtin i)))
    (hb : ∀ self, bindSpecial (.builtin i) self = pure (.builtin i, [self])) (q : wpAny M A (call (.builtin i) (.ref x :: args)) (fun v => Q (some v)) E s) : wpAny M A (callSpecialIfBound? (.ref x) name args) Q E s := by
  simp only [callSpecialIfBound?, bindSpecialIfBound?]
  have z : wpAny M A (call (.builtin i) ([.ref x] ++ args) >>= fun v => pure (some v)) Q E s := wpAny_bind (wpAny_mono q (fun _ _ y => wpAny_pure y) fun _ _ y => y)
  refine wpAny_holding (wpAny_bind (wpAny_bind (wpAny_bind ?_)))
  refine I.type.here ((PySem.W.looks_findIn X hs).here ?_)
  simp only [hb]
  refine wpAny_bind (wpAny_askSetting (wpAny_ite ?_))
  split
  · exact wpAny_bind (wpAny_pure (wpAny_pure z))
  · exact wpAny_tryCatch (wpAny_bind (wpAny_pure (wpAny_pure z)))
open Builtin in
theorem obj_ne {Q : Value → Shared → Prop} (hu : A.in1.units < cLine) (X : K.In s.heap) (I : PySem.W.InstAt s.heap x ox C od) (hm : PySem.W.mroIn K C (.type "object") = some true) (he : PySem.W.findIn K (.ref C) "__eq__" = some (some (.ref f))) (hf : PySem.W.isFn K (.ref f) = true)
    (h : wpAny (model prog w) A.in1 (call (.ref f) [.ref x, b]) (fun v s' => ∃ t, v = .bool t ∧ Q (.bool !t) s') E s) : wpAny (model prog w) A (call (.builtin "object.__ne__") [.ref x, b]) Q E s := by
  refine wpAny_call (codeAny_call_builtin (PySem.F.cmp_object).ne.plain PySem.F.cmpEntry_ne (PySem.W.check_slot (i := "object.__ne__") (owner := "object") (n := "__ne__") (by decide +kernel) (by decide +kernel) (I.type.andThen (PySem.W.looks_mroIn X hm)) (PySem.F.cmpArgs_ne _ _) ?_))
  unfold Builtin.«object.__ne__»
  refine wpAny_bind (m := slotArgs "__ne__" 1 _) (wpAny_pure ?_)
  refine wpAny_bind (m := cRoomFor _ _) (wpAny_cRoomFor hu ?_)
  refine wpAny_bind (m := callSpecialIfBound? (.ref x) (Str.ofString "__eq__") [b]) ?_
  refine PySem.W.ifBound_K X I he hf (wpAny_mono h (fun r s' z => ?_) fun _ _ y => y)
  obtain ⟨t, rfl, q⟩ := z
  refine wpAny_bind (m := PySem.truthy (Value.bool t)) (wpAny_truthy_bool ?_)
  exact wpAny_pure q
/-- x != b, by x's own __eq__ -/
theorem cmp_neK {h₀ : Heap} {L : Addr} {m : Str → Option Value} {Q : Value → Shared → Prop} (hu : A.units < cLine) (hu1 : A.in1.units < cLine) (F : PyProof.Rows.Fr h₀ L s.heap m) (X₀ : K.In h₀) (I : PySem.W.InstAt s.heap x ox C od) (hb : PySem.W.Looks (model prog w) s.heap (typeOf b) tb) (hn : PySem.W.notFirst K C tb = true)
    (hs : PySem.W.findIn K (.ref C) "__ne__" = some (some (.builtin "object.__ne__"))) (hm : PySem.W.mroIn K C (.type "object") = some true) (he : PySem.W.findIn K (.ref C) "__eq__" = some (some (.ref f))) (hf : PySem.W.isFn K (.ref f) = true)
    (h : wpAny (model prog w) A.in1 (call (.ref f) [.ref x, b]) (fun v s' => ∃ t, v = .bool t ∧ Q (.bool !t) s') E s) : wpAny (model prog w) A (compareOp .NotEq (.ref x) b) Q E s := by
  have X := X₀.keeps F.keep
  have one : wpAny (model prog w) A (tryCompare (.ref x) "__ne__" b) (fun r s' => ∃ v, r = some v ∧ Q v s') E s := by
    unfold tryCompare
    refine wpAny_bind (sp_builtin X I hs (PySem.F.cmp_object).ne.bind (wpAny_mono (obj_ne (Q := fun v s' => ∃ t, v = .bool t ∧ Q v s') hu1 X I hm he hf (wpAny_mono h (fun v s' z => ?_) fun _ _ y => y)) (fun v s' z => ?_) fun _ _ y => y))
    · obtain ⟨t, e, q⟩ := z
      exact ⟨t, e, _, rfl, q⟩
    · obtain ⟨t, e, q⟩ := z
      subst e
      exact wpAny_pure ⟨_, rfl, q⟩
  show wpAny (model prog w) A (richCompare .NotEq (.ref x) b) Q E s
  unfold richCompare
  simp only [oneThing_ref]
  refine wpAny_holding (wpAny_bind (wpAny_cRoomFor hu ?_))
  refine wpAny_bind (I.type.here (wpAny_bind (hb.here ?_)))
  split
  · rename_i q
    have e : PySem.W.subIn K tb (.ref C) = some false := by
      unfold PySem.W.notFirst at hn
      rw [Bool.or_eq_true] at hn
      rcases hn with e | e
      · rw [beq_iff_eq.mp e] at q; simp at q
      · exact beq_iff_eq.mp e
    refine wpAny_bind ((PySem.W.looks_subIn X e).here ?_)
    simp only [Bool.false_eq_true, if_false]
    refine wpAny_bind (wpAny_mono one (fun r s' z => ?_) fun _ _ y => y)
    obtain ⟨v, e2, hq⟩ := z
    subst e2
    exact wpAny_pure hq
  · refine wpAny_bind (wpAny_pure ?_)
    simp only [Bool.false_eq_true, if_false]
    refine wpAny_bind (wpAny_mono one (fun r s' z => ?_) fun _ _ y => y)
    obtain ⟨v, e2, hq⟩ := z
    subst e2
    exact wpAny_pure hq
end
end Pv
end

section
set_option Elab.async false
set_option linter.all false
set_option maxRecDepth 100000
namespace Pv
open PySem PySem.Spec PyProof.Rows L2
section
variable {T : Tb} {n d : Nat} {c : Cfg} {X : Cx} {W : WX} {g g' : Gh} {st : Sto} {H H' : Hp} {σE : Fr} {σ : L2.St} {Q : VK}
/-- the tables of lambdas grow -/
theorem FldR.moT {nn f : Nat} {w : Pv.W} {v : V} (m : Mo T.K g H g H') (k : ∀ a o, (∀ ps, o ≠ .tbl ps) → H a = some o → H' a = some o) (r : FldR T g H nn f w v) : FldR T g H' nn f w v := by
  rcases r with r | ⟨o, r⟩
  · exact .inl (r.mo m)
  · refine .inr ⟨o, ?_⟩
    cases r with
    | @lst b vs ws h1 h2 h3 => exact .lst (k _ _ (fun _ => nofun) h1) h2 (h3.mo m)
    | @dic b kvs ks ws h1 h2 e h3 => exact .dic (k _ _ (fun _ => nofun) h1) h2 e (h3.mo m)
theorem FsR.moT {nn : Nat} (m : Mo T.K g H g H') (k : ∀ a o, (∀ ps, o ≠ .tbl ps) → H a = some o → H' a = some o) : ∀ {fs : List (Nat × Pv.W)} {vs : List (Str × V)}, FsR T g H nn fs vs → FsR T g H' nn fs vs
  | _, _, .nil => .nil
  | _, _, .cons r rs => .cons (r.moT m k) (FsR.moT m k rs)
theorem s_lam {m : Nat} {L : LamD} {pos : Pos} (hmk : c.lq = some L.q) (hL : T.lam m = some L) (hdef : ∀ env : Env, defaultsOf L.params env = ([], [])) (hfree : noFree L.scope)
    (a : At T d c X W g st H σE σ) (h : Po T g H W σ (fun w st' g' H' => ∀ v, RelZ T.K g' H' w v → Q v H') (.ok (.fn m []) st)) : wE X (.Lambda L.params L.body L.scope pos) σ H Q := by
  obtain ⟨hq, cA, Pt, hcode, TB, hm, hu⟩ := a.ctx.lq _ hmk
  intro pins s I
  refine lam_mk (T := T.tabs) (L := L) I TB hcode hq hm hu a.rst.tb.t (hdef X.env) hfree fun f c' H1 s' I1 e1 e2 t1 hn hf hc => ?_
  obtain ⟨ps, e2⟩ := e2
  obtain ⟨ps0, p0, _⟩ := a.rst.tb.t _ hm
  obtain ⟨nn, ff, hfl⟩ := a.rst.tb.o _ hm
  have kT : ∀ b o, (∀ ps, o ≠ .tbl ps) → H b = some o → H1 b = some o := fun b o hb e => e1 b o (fun z => by rw [z, p0] at e; exact hb _ (Option.some.inj e).symm) e
  have e3 : Ext g H g H1 := ⟨fun _ _ q => q, fun _ _ _ q => q, fun b o e nf _ => e1 b o (fun z => nf nn ff (by rw [z]; exact hfl)) e, fun b C dx fs e => ⟨fs, kT _ _ (fun _ => nofun) e⟩, fun b o e => by
    by_cases hb : b = Pt
    · rw [hb]; exact ⟨_, e2⟩
    · exact ⟨o, e1 b o hb e⟩, fun _ _ q => q, rfl⟩
  have wf1 : Wf g H1 := fun b t q => by
    obtain ⟨o, q1, l⟩ := a.wf b t q
    by_cases hb : b = Pt
    · rw [hb]; exact ⟨_, e2, fun _ => nofun, fun _ _ => nofun, fun _ _ _ => nofun, fun _ => nofun⟩
    · exact ⟨o, e1 b o hb q1, l⟩
  have mo : Mo T.K g H g H1 := e3.mo a.wf
  have rs1 : RelSt T g st H1 := ⟨a.rst.len, fun i o q => let ⟨x, dx, fs, h1, h2, h3⟩ := a.rst.ob i o q; ⟨x, dx, fs, h1, kT _ _ (fun _ => nofun) h2, h3.moT mo kT⟩, a.rst.inj, a.rst.na, a.rst.lam, ⟨t1, a.rst.tb.o⟩⟩
  exact ⟨.ref f, H1, I1, rfl, h g H1 e3 wf1 rs1 _ (.fn (by rw [a.rst.lam]; exact hL) hf hc)⟩
/-- a value that is called -/
theorem pe_cv {CX : CXT} {E : L2.St → XK} {t : TA} {id : Str} {i : Nat} {e : Expr} {es : List Expr} {p pos : Pos} (hN : X.N[i]? = some id) (hv : Vis X.env.scope id) (hd : (id == ("__debug__" : Str)) = false) (hcd : (id == ("__classdict__" : Str)) = false) (hx : ∀ σ, PassesAt CX X σ (E σ))
    (ha : PA X (e :: es) t) (he : starEach (e :: es) X.env = (false, eval e X.env) :: starEach es X.env) (hpl : (backTo pos (starEach es X.env)).any (·.1) = false) :
    PE X (.Call (.Name id p) (e :: es) [] pos) (fun σ H Q => ∃ f, σ[i]? = some (some (.ref f)) ∧ (∃ L c, H f = some (LamO L f c)) ∧ t σ H fun vs H1 => (∃ L c, H1 f = some (LamO L f c)) ∧ ∀ (s : Shared) (us : List Value), Env0 X.prog X.w X.K X.mg X.base X.A X.stack s H1 → Vals vs us → codeAny (model X.prog X.w) X.A (.call (.ref f) ⟨us, []⟩) (CR CX X.stack X.prog X.w H1 s Q (E σ)) s) := by
  refine ⟨fun pins s σ H Q I h => ?_⟩
  obtain ⟨f, hs, ⟨L, c0, hf⟩, ht⟩ := h
  have fnAt : ∀ {s : Shared} {H : Hp} {L : LamD} {c0 : Addr}, HOk X.prog X.w H s.heap → H f = some (LamO L f c0) → PySem.W.FnAt f s.heap := fun {s H L c0} hok e => by
    obtain ⟨pm, ctv, z⟩ := lamO_at hok e
    exact ⟨_, _, _, _, z⟩
  refine wpAny_Call_Name_kw (thn ((pe_var (pos := p) (i := i) hN hv hd hcd).run pins s σ H (fun v H1 => v = .ref f ∧ H1 = H) I ⟨.ref f, hs, rfl, rfl⟩) fun u s1 ⟨v, H1, I1, r1, q1⟩ => ?_)
  obtain ⟨ev, eH⟩ := q1
  subst ev
  subst eH
  obtain rfl : u = Value.ref f := r1
  refine PySem.W.callWith_F (fnAt I1.hok hf) ?_ he hpl
  refine thn (ha.run pos pins s1 σ _ _ I1 ht) fun us s2 ⟨vs, H2, I2, r2, ⟨L2, c2, hf2⟩, q2⟩ => ⟨fnAt I2.hok hf2, ?_⟩
  refine wpAny_call (codeAny_mono (q2 s2 us I2.env0 r2) fun r s3 hq => ?_)
  cases r with
  | error e => exact hx σ pins _ s2 e s3 I2 hq
  | ok fl =>
    cases fl with
    | ret u => exact I2.after hq
    | next => exact hq.elim
    | brk => exact hq.elim
    | cont => exact hq.elim
theorem evL_some {G : Gb} {m : Nat} {ws : List Pv.W} {P : Pv.W → Sto → Gh → Hp → Prop} (h : Po T g H W σ P (evL G n d m ws st)) : ∃ ld, G.lam.find m = some ld := by
  cases n with
  | zero => rw [evL.eq_def] at h; exact h.elim
  | succ n =>
    cases d with
    | zero => rw [evL.eq_def] at h; exact h.elim
    | succ d =>
      rw [evL.eq_def] at h
      simp only at h
      cases q : G.lam.find m with
      | none => rw [q] at h; exact h.elim
      | some ld => exact ⟨ld, rfl⟩
theorem s_cv (ses : SEs T n d) {id : Str} {i : Nat} {e : Expr} {es : List Expr} {x : Ex} {xs : List Ex} {p pos : Pos} (h1 : c.N[i]? = some id) (h2 : VisS c.sc id) (h3 : (id == ("__debug__" : Str)) = false) (h4 : (id == ("__classdict__" : Str)) = false) (h5 : i ∉ c.own) (h6 : i ∉ c.bor) (ts : TrEs T c [] (e :: es) (x :: xs))
    (a : At T d c X W g st H σE σ) (h : Po T g H W σ (fun w st' g' H' => ∀ v, RelZ T.K g' H' w v → Q v H') ((getv σE i st).bind fun y st => match y with | .fn f [] => (evEs T.G n d σE st (x :: xs)).bind fun ws st => evL T.G n d f ws st | _ => .err)) :
    wE X (.Call (.Name id p) (e :: es) [] pos) σ H Q := by
  obtain ⟨te, ms', ts'⟩ := ts.tail
  obtain ⟨w, hw, h⟩ := getv_some h.bind
  have h := h.ok a.wf a.rst
  obtain ⟨v, e2, r⟩ := a.rf.at_ i w hw
  unfold SlR at r
  rw [if_neg h5, if_neg h6] at r
  refine (pe_cv (E := WE W) (CX := L2.CX X.prog X.w) (t := wA X (e :: es)) (by rw [a.ctx.hN]; exact h1) (by rw [a.ctx.sc]; exact h2) h3 h4 (fun σ => passAt a.tk σ) pa_w (star_ok te es X.env) (plain_args pos X.env ts')).w ?_
  cases r with
  | @fn m f c0 L g1 g2 g3 =>
    have hL : T.lam m = some L := by rw [← a.rst.lam]; exact g1
    refine ⟨f, e2, ⟨L, c0, g2⟩, ?_⟩
    refine ses c [] (e :: es) (x :: xs) ts X W g st H σE σ _ a (h.bind.mono fun ws st1 g4 H1 e1 wf1 rs1 h1 vs rv => ?_)
    have mo : Mo T.K g H g4 H1 := e1.mo a.wf
    refine ⟨⟨L, c0, mo.ext _ _ g2⟩, fun s us e0 rv2 => ?_⟩
    obtain ⟨ld, hld⟩ := evL_some h1
    refine a.ctx.lams d (Nat.le_refl d) m ld hld X.A X.stack s H1 us vs Q (WE W σ) f c0 L n st1 g4.hide ws a.ctx.room (by rw [← a.ctx.hK, ← a.ctx.hm]; exact e0) hL (mo.ext _ _ g2) (mo.ext _ _ g3) rv2 (hide_wf wf1) rs1.hide (fun b j => hideT_sl j) (rv.z.mo hide_mo) ?_
    cases q : evL T.G n d m ws st1 with
    | ok w2 st2 =>
      rw [q] at h1
      exact fun g5 H5 e5 wf5 rs5 v5 r5 => h1 _ H5 (merge_ext wf1 e5) (merge_wf wf1 e5 wf5) (rs5.merge e5) v5 (r5.mo (merge_mo e5))
    | exc ci pl st2 =>
      rw [q] at h1
      exact fun g5 H5 dd e5 wf5 rs5 r5 => h1 _ H5 dd (merge_ext wf1 e5) (merge_wf wf1 e5 wf5) (rs5.merge e5) (r5.merge e5)
    | err => rw [q] at h1; exact h1
  | _ => exact h.elim
end
end Pv
end

section
set_option Elab.async false
set_option linter.all false
set_option maxRecDepth 100000
namespace Pv
open PySem PySem.Spec PyProof.Rows L2
/-- == of two instances, by their own def -/
theorem sqe_ok {T : Tb} {d : Nat} : ∀ n, SQe T n d := by
  intro n c X op g st H p y v1 v2 Q hop cx wf rs r1 r2 h
  subst hop
  cases n with
  | zero => rw [evEq.eq_def] at h; exact h.elim
  | succ n =>
    rw [evEq.eq_def] at h
    simp only at h
    cases y with
    | obj q =>
      simp only at h
      cases hp : st[p]? with
      | none => rw [hp] at h; exact h.elim
      | some ob =>
        cases hq : st[q]? with
        | none => rw [hp, hq] at h; exact h.elim
        | some oq =>
          rw [hp, hq] at h
          simp only at h
          cases hcd : T.G.cls.find ob.cls with
          | none => rw [hcd] at h; exact h.elim
          | some cd =>
            rw [hcd] at h
            simp only at h
            cases hm : cd.meths.lookup 0 with
            | none => rw [hm] at h; exact h.elim
            | some f =>
              rw [hm] at h
              simp only at h
              obtain ⟨xa, dx, rfl, hio⟩ := r1.obj
              obtain ⟨ya, dy, rfl, hjo⟩ := r2.obj
              obtain ⟨x', dx', fs, q1, q2, q3⟩ := rs.ob p ob hp
              rw [hio] at q1; cases q1
              obtain ⟨y', dy', gs, q4, q5, q6⟩ := rs.ob q oq hq
              rw [hjo] at q4; cases q4
              obtain ⟨cq, hcq, hxq, _⟩ := rs.na q oq hq
              obtain ⟨cp, hcp, hxp, _⟩ := rs.na p ob hp
              rw [hcd] at hcp; cases hcp
              have C := cx.cls _ _ hcd
              obtain ⟨me, _, fd, hfd⟩ := C.meth 0 f hm
              obtain ⟨fdt, ps, hk, hb, hlp, F⟩ := (cx.fns d (Nat.le_refl d) f fd hfd).ex
              intro pins s σ v u I rx ry
              cases rx
              cases ry
              obtain ⟨mA, JA, _⟩ := ins_get I.hok q2
              obtain ⟨mB, JB, _⟩ := ins_get I.hok q5
              obtain ⟨oA, JA, _⟩ := JA.look
              obtain ⟨oB, JB, _⟩ := JB.look
              obtain ⟨m, hF⟩ := I.fr
              have hat := me.at_
              rw [C.eq0, ← cx.hK] at hat
              have hfn := me.fn
              rw [← cx.hK] at hfn
              refine PySem.W.cmp_K (op := .Eq) (tb := .ref (T.ca oq.cls)) (by have := cx.room.un; omega) hF I.ok.mod.kin JA JB.type (by rw [cx.hK]; exact C.nf hxp _ _ hcq hxq) hat hfn ?_
              have zz : RelZs T.K g H [.obj p, .obj q] [.ref xa, .ref ya] := .cons (.obj hio) (.cons (.obj hjo) .nil)
              have hpo : Po T g H (fun _ _ _ _ => False) [] (fun w st' g' H' => ∀ v, RelK T.K (if fd.fr then .fr else .lk) H g' H' w v → ∃ b, v = .bl b ∧ Q (.bl b) H') (evF T.G n d f [.obj p, .obj q] st) := by
                refine h.bind.mono fun w st' g' H' e wf' rs' h' v r => ?_
                cases w with
                | bl b => exact ⟨b, (RelK.r r).bl, (show Po T g' H' (fun _ _ _ _ => False) [] (fun b st' g' H' => Q (.bl b) H') (.ok b st') from h').ok wf' rs'⟩
                | _ => exact h'.elim
              have sp := spF_of (σ := []) (W := fun _ _ _ _ => False) (vs := [.ref xa, .ref ya]) (Q := fun v H' => ∃ b, v = .bl b ∧ Q (.bl b) H') hfd wf rs (fun i w hw => by
                obtain ⟨v, e1, e2⟩ := zz.get hw
                refine ⟨v, e1, ?_⟩
                split
                · exact .inl e2
                · exact e2) rfl hpo
              have F' : FnOk X.prog X.w X.K X.mg X.base (L2.CX X.prog X.w) d (T.fa f) fdt ps (spF T d f fd) := by rw [cx.hK, cx.hm]; exact F
              refine wpAny_mono (run_fnS (E := WE fun _ _ _ _ => False) (us := [.ref xa, .ref ya]) (vs := [.ref xa, .ref ya]) F' cx.room (by rw [cx.hK]; exact hb) (passAt takes_no σ) I (.cons rfl (.cons rfl .nil)) sp) (fun r s' z => ?_) fun _ _ z => z
              obtain ⟨v3, H3, I3, rv, b, rfl, q7⟩ := z
              cases rv
              exact ⟨.bl b, H3, I3, rfl, q7⟩
    | _ => exact h.elim
/-- a call of a def's object, one step further in -/
theorem run_in1 {X : Cx} {CX : CXT} {k : Nat} {f : Addr} {fd : FuncData} {ps : List Str} {sp : Sp} {E : L2.St → XK} {pins : List (Addr × PySem.Obj)} {σ : L2.St} {H : Hp} {s : Shared} {Q : VK} {us : List Value} {vs : List V} (F : FnOk X.prog X.w X.K X.mg X.base CX k f fd ps sp) (hr : Room (k + 1) X.A) (hb : Binds X.K fd ps []) (hx : PassesAt CX X σ (E σ))
    (I : Inv X pins σ H s) (r : Vals vs us) (h : sp vs H Q (E σ)) : wpAny (model X.prog X.w) X.A.in1 (call (.ref f) us) (EP X pins σ Q) X.xe s := by
  have hl : us.length = ps.length := r.length.symm.trans (F.len vs H Q (E σ) h)
  have b := hb s us I.kIn (by simpa using hl)
  rw [List.append_nil] at b
  refine wpAny_call (codeAny_mono (F.run X.A.in1 X.stack s H ⟨us, []⟩ us vs Q (E σ) hr.in1 I.env0.in1 b r h) fun r s' hq => ?_)
  cases r with
  | error e => exact hx pins H s e s' I hq
  | ok fl =>
    cases fl with
    | ret u => exact I.after hq
    | next => exact hq.elim
    | brk => exact hq.elim
    | cont => exact hq.elim
theorem sqn_ok {T : Tb} {d : Nat} : ∀ n, SQn T n d := by
  intro n c X g st H p y v1 v2 Q cx wf rs r1 r2 h
  cases n with
  | zero => rw [evEq.eq_def] at h; exact h.elim
  | succ n =>
    rw [evEq.eq_def] at h
    simp only at h
    cases y with
    | obj q =>
      simp only at h
      cases hp : st[p]? with
      | none => rw [hp] at h; exact h.elim
      | some ob =>
        cases hq : st[q]? with
        | none => rw [hp, hq] at h; exact h.elim
        | some oq =>
          rw [hp, hq] at h
          simp only at h
          cases hcd : T.G.cls.find ob.cls with
          | none => rw [hcd] at h; exact h.elim
          | some cd =>
            rw [hcd] at h
            simp only at h
            cases hm : cd.meths.lookup 0 with
            | none => rw [hm] at h; exact h.elim
            | some f =>
              rw [hm] at h
              simp only at h
              obtain ⟨xa, dx, rfl, hio⟩ := r1.obj
              obtain ⟨ya, dy, rfl, hjo⟩ := r2.obj
              obtain ⟨x', dx', fs, q1, q2, q3⟩ := rs.ob p ob hp
              rw [hio] at q1; cases q1
              obtain ⟨y', dy', gs, q4, q5, q6⟩ := rs.ob q oq hq
              rw [hjo] at q4; cases q4
              obtain ⟨cq, hcq, hxq, _⟩ := rs.na q oq hq
              obtain ⟨cp, hcp, hxp, _⟩ := rs.na p ob hp
              rw [hcd] at hcp; cases hcp
              have C := cx.cls _ _ hcd
              obtain ⟨me, _, fd, hfd⟩ := C.meth 0 f hm
              obtain ⟨fdt, ps, hk, hb, hlp, F⟩ := (cx.fns d (Nat.le_succ d) f fd hfd).ex
              intro pins s σ v u I rx ry
              cases rx
              cases ry
              obtain ⟨mA, JA, _⟩ := ins_get I.hok q2
              obtain ⟨mB, JB, _⟩ := ins_get I.hok q5
              obtain ⟨oA, JA, _⟩ := JA.look
              obtain ⟨oB, JB, _⟩ := JB.look
              obtain ⟨m, hF⟩ := I.fr
              have hat := me.at_
              rw [C.eq0, ← cx.hK] at hat
              have hfn := me.fn
              rw [← cx.hK] at hfn
              have hat2 := (C.ne hxp).1
              rw [← cx.hK] at hat2
              have hmr := (C.ne hxp).2
              rw [← cx.hK] at hmr
              refine cmp_neK (tb := .ref (T.ca oq.cls)) (by have := cx.room.un; omega) (by have := cx.room.un; show X.A.units + 1 < _; omega) hF I.ok.mod.kin JA JB.type (by rw [cx.hK]; exact C.nf hxp _ _ hcq hxq) hat2 hmr hat hfn ?_
              have zz : RelZs T.K g H [.obj p, .obj q] [.ref xa, .ref ya] := .cons (.obj hio) (.cons (.obj hjo) .nil)
              have hpo : Po T g H (fun _ _ _ _ => False) [] (fun w st' g' H' => ∀ v, RelK T.K (if fd.fr then .fr else .lk) H g' H' w v → ∃ b, v = .bl b ∧ Q (.bl !b) H') (evF T.G n d f [.obj p, .obj q] st) := by
                refine h.bind.mono fun w st' g' H' e wf' rs' h' v r => ?_
                cases w with
                | bl b => exact ⟨b, (RelK.r r).bl, (show Po T g' H' (fun _ _ _ _ => False) [] (fun b st' g' H' => Q (.bl !b) H') (.ok b st') from h').ok wf' rs'⟩
                | _ => exact h'.elim
              have sp := spF_of (σ := []) (W := fun _ _ _ _ => False) (vs := [.ref xa, .ref ya]) (Q := fun v H' => ∃ b, v = .bl b ∧ Q (.bl !b) H') hfd wf rs (fun i w hw => by
                obtain ⟨v, e1, e2⟩ := zz.get hw
                refine ⟨v, e1, ?_⟩
                split
                · exact .inl e2
                · exact e2) rfl hpo
              have F' : FnOk X.prog X.w X.K X.mg X.base (L2.CX X.prog X.w) d (T.fa f) fdt ps (spF T d f fd) := by rw [cx.hK, cx.hm]; exact F
              refine wpAny_mono (run_in1 (E := WE fun _ _ _ _ => False) (us := [.ref xa, .ref ya]) (vs := [.ref xa, .ref ya]) F' cx.room (by rw [cx.hK]; exact hb) (passAt takes_no σ) I (.cons rfl (.cons rfl .nil)) sp) (fun r s' z => ?_) fun _ _ z => z
              obtain ⟨v3, H3, I3, rv, b, rfl, q7⟩ := z
              cases rv
              exact ⟨b, rfl, .bl (!b), H3, I3, rfl, q7⟩
    | _ => exact h.elim
theorem sq_ok {T : Tb} {d : Nat} (n : Nat) : SQ T n d := ⟨sqe_ok n, fun k _ => sqn_ok n⟩
end Pv
end

section
set_option Elab.async false
set_option linter.all false
set_option maxRecDepth 100000
namespace Pv
open PySem PySem.Spec PyProof.Rows L2
section
variable {T : Tb} {n d : Nat} {c : Cfg} {X : Cx} {W : WX} {g : Gh} {st : Sto} {H : Hp} {σE : Fr} {σ : L2.St} {Q : VK}
theorem RelR.ty2 {K : PySem.W.Frag} {w : Pv.W} {v : V} (h : ∃ b, isKd w .int = some b) (r : RelR K g H w v) : ∃ t, TyX K H v (.type t) ∧ t ∈ ["NoneType", "bool", "int", "str", "tuple", "list", "dict"] := by
  obtain ⟨b, h⟩ := h
  cases w with
  | non => cases r.non; exact ⟨_, .base .non, by simp⟩
  | bl x => cases r.bl; exact ⟨_, .base (.bl _), by simp⟩
  | int x => cases r.int; exact ⟨_, .base (.int _), by simp⟩
  | str x => cases r.str; exact ⟨_, .base (.str _), by simp⟩
  | tup ws =>
    obtain ⟨a, vs, rfl, ha, z⟩ := r.tup
    refine ⟨"tuple", ?_, by simp⟩
    rcases ha with (ha | ⟨o, ha⟩) | ⟨o, its, n, h1, h2, h3, h4, h5⟩
    · exact .base (.tup ha)
    · exact .fTuple ha
    · exact .kTuple h1 h2
  | lst ws =>
    obtain ⟨a, vs, rfl, ha, z⟩ := r.lst
    refine ⟨"list", ?_, by simp⟩
    rcases ha with (ha | ⟨o, ha⟩) | ⟨o, its, n, h1, h2, h3, h4, h5, h6⟩
    · exact .base (.lst ha)
    · exact .base (.frz ha)
    · exact .kList h1 h2
  | dic ks ws =>
    obtain ⟨a, kvs, rfl, ha, hk, z⟩ := r.dic
    exact ⟨"dict", .base (.dK ha), by simp⟩
  | _ => exact nomatch h
theorem s_isiC (se : SE T n d) {ci : Nat} {cd : CDef} {e : Expr} {x : Ex} {p p2 pos : Pos} (hg : GlS c.sc "isinstance") (hm : T.mg "isinstance" = none) (hg2 : GlS c.sc (T.nm ci)) (hm2 : T.mg (T.nm ci) = some (.ref (T.ca ci))) (hcd : T.G.cls.find ci = some cd) (hne : cd.isExc = false) (te : TrE T c e x)
    (a : At T d c X W g st H σE σ) (h : Po T g H W σ (fun w st' g' H' => ∀ v, RelZ T.K g' H' w v → Q v H') ((evE T.G n d σE st x).bind fun x st => o2r ((isAny st x [.cls ci]).map .bl) st)) :
    wE X (.Call (.Name "isinstance" p) [e, .Name (T.nm ci) p2] [] pos) σ H Q := by
  have hs2 : starEach [Expr.Name (T.nm ci) p2] X.env = (false, eval (Expr.Name (T.nm ci) p2) X.env) :: starEach [] X.env := rfl
  have pc : PE X (Expr.Name (T.nm ci) p2) (tC (.ref (T.ca ci))) := pe_glob (a.ctx.gl hg2) (by rw [a.ctx.hm]; exact hm2) (show RelV (.ref (T.ca ci)) (.ref (T.ca ci)) from rfl) hg2.2
  refine (pe_callB (pos := pos) (p := p) call_isi (a.ctx.gl hg) (by rw [a.ctx.hm]; exact hm) boot_isi (pa_cons pe_w (pa_cons pc pa_nil hs2) (star_ok te _ X.env)) (by decide +kernel) hg.2 (star_ok te _ X.env) rfl).w ?_
  show wE X e σ H fun v H1 => rIsi X.K [v, .ref (T.ca ci)] H1 Q
  rw [a.ctx.hK]
  refine se.bo te a h.bind fun w st1 g1 H1 v a1 e1 r1 h1 => ?_
  obtain ⟨w2, hw, h2⟩ := h1.o2r a1.wf a1.rst
  have C := a.ctx.cls ci cd hcd
  have fin : ∀ b, isObj st1 ci w = some b → w2 = .bl b := fun b hb => by
    simp only [isAny, hb] at hw
    cases b with
    | true => injection hw with hw; exact hw.symm
    | false => injection hw with hw; exact hw.symm
  cases hb : isObj st1 ci w with
  | none => simp only [isAny, hb] at hw; exact nomatch hw
  | some b =>
    have e2 := fin b hb
    subst e2
    have q := h2 g1 H1 .refl a1.wf a1.rst (.bl b) (.bl b)
    have plain : (∃ b, isKd w .int = some b) → b = false → rIsi T.K [v, .ref (T.ca ci)] H1 Q := fun hk hf => by
      subst hf
      obtain ⟨t, ht, hin⟩ := r1.ty2 hk
      exact ⟨v, _, .type t, _, false, rfl, .own _, ht, C.isb hne t hin, q⟩
    cases w with
    | obj k =>
      obtain ⟨xa, dx, rfl, hio⟩ := r1.obj
      simp only [isObj] at hb
      cases hp : st1[k]? with
      | none => rw [hp] at hb; exact nomatch hb
      | some ob =>
        rw [hp] at hb
        injection hb with hb
        obtain ⟨x', dx', fs, q1, q2, q3⟩ := a1.rst.ob k ob hp
        rw [hio] at q1; cases q1
        obtain ⟨cq, hcq, hxe, _⟩ := a1.rst.na k ob hp
        exact ⟨.ref xa, _, .ref (T.ca ob.cls), _, b, rfl, .own _, .base ((a.ctx.cls _ _ hcq).tyo hxe H1 xa _ fs q2), by rw [C.isi hne _ _ hcq, hb], q⟩
    | fn _ _ => exact nomatch hb
    | set _ => exact nomatch hb
    | _ => exact plain ⟨_, rfl⟩ (by injection hb with hb; exact hb.symm)
theorem kd_int {w : Pv.W} {k : Kd} {nm : String} {b : Bool} (hk : clsName k = some nm) (h : isKd w k = some b) : ∃ b, isKd w .int = some b := by
  cases w <;> cases k <;> first | exact ⟨_, rfl⟩ | exact nomatch h | exact nomatch hk
theorem RelR.ty3 {K : PySem.W.Frag} {w : Pv.W} {v : V} (h : ∃ b, isKd w .int = some b) (r : RelR K g H w v) : ∃ t, TyX K H v (.type t) ∧ ∀ k nm b, clsName k = some nm → isKd w k = some b → kitB t nm = some b := by
  obtain ⟨b, h⟩ := h
  cases w with
  | non => cases r.non; exact ⟨_, .base .non, fun k nm b h1 h2 => by cases k <;> first | (injection h1 with h1; subst h1; injection h2 with h2; subst h2; decide +kernel) | exact nomatch h1⟩
  | bl x => cases r.bl; exact ⟨_, .base (.bl _), fun k nm b h1 h2 => by cases k <;> first | (injection h1 with h1; subst h1; injection h2 with h2; subst h2; decide +kernel) | exact nomatch h1⟩
  | int x => cases r.int; exact ⟨_, .base (.int _), fun k nm b h1 h2 => by cases k <;> first | (injection h1 with h1; subst h1; injection h2 with h2; subst h2; decide +kernel) | exact nomatch h1⟩
  | str x => cases r.str; exact ⟨_, .base (.str _), fun k nm b h1 h2 => by cases k <;> first | (injection h1 with h1; subst h1; injection h2 with h2; subst h2; decide +kernel) | exact nomatch h1⟩
  | tup ws =>
    obtain ⟨a, vs, rfl, ha, z⟩ := r.tup
    refine ⟨"tuple", ?_, fun k nm b h1 h2 => by cases k <;> first | (injection h1 with h1; subst h1; injection h2 with h2; subst h2; decide +kernel) | exact nomatch h1⟩
    rcases ha with (ha | ⟨o, ha⟩) | ⟨o, its, n, h1, h2, h3, h4, h5⟩
    · exact .base (.tup ha)
    · exact .fTuple ha
    · exact .kTuple h1 h2
  | lst ws =>
    obtain ⟨a, vs, rfl, ha, z⟩ := r.lst
    refine ⟨"list", ?_, fun k nm b h1 h2 => by cases k <;> first | (injection h1 with h1; subst h1; injection h2 with h2; subst h2; decide +kernel) | exact nomatch h1⟩
    rcases ha with (ha | ⟨o, ha⟩) | ⟨o, its, n, h1, h2, h3, h4, h5, h6⟩
    · exact .base (.lst ha)
    · exact .base (.frz ha)
    · exact .kList h1 h2
  | dic ks ws =>
    obtain ⟨a, kvs, rfl, ha, hk, z⟩ := r.dic
    exact ⟨"dict", .base (.dK ha), fun k nm b h1 h2 => by cases k <;> first | (injection h1 with h1; subst h1; injection h2 with h2; subst h2; decide +kernel) | exact nomatch h1⟩
  | _ => exact nomatch h
theorem s_isi2 (se : SE T n d) {k1 k2 : Kd} {n1 n2 : String} {j : Nat} {e : Expr} {x : Ex} {p p1 p2 p3 pos : Pos} (hk1 : clsName k1 = some n1) (hk2 : clsName k2 = some n2) (hg : GlS c.sc "isinstance") (hm : T.mg "isinstance" = none) (hg1 : GlS c.sc (Str.ofString n1)) (hm1 : T.mg (Str.ofString n1) = none)
    (hg2 : GlS c.sc (Str.ofString n2)) (hm2 : T.mg (Str.ofString n2) = none) (te : TrE T c e x)
    (a : At T d c X W g st H σE σ) (h : Po T g H W σ (fun w st' g' H' => ∀ v, RelZ T.K g' H' w v → Q v H') ((evE T.G n d σE st x).bind fun x st => o2r ((isAny st x [k1, k2]).map .bl) st)) :
    wE X (.Call (.Name "isinstance" p) [e, .Tuple [.Name (Str.ofString n1) p1, .Name (Str.ofString n2) p2] j p3] [] pos) σ H Q := by
  have hsa : starEach [Expr.Name (Str.ofString n2) p2] X.env = (false, eval (Expr.Name (Str.ofString n2) p2) X.env) :: starEach [] X.env := rfl
  have hsb : starEach [Expr.Name (Str.ofString n1) p1, Expr.Name (Str.ofString n2) p2] X.env = (false, eval (Expr.Name (Str.ofString n1) p1) X.env) :: starEach [Expr.Name (Str.ofString n2) p2] X.env := rfl
  have hsc : starEach [Expr.Tuple [.Name (Str.ofString n1) p1, .Name (Str.ofString n2) p2] j p3] X.env = (false, eval (Expr.Tuple [.Name (Str.ofString n1) p1, .Name (Str.ofString n2) p2] j p3) X.env) :: starEach [] X.env := rfl
  have c1 : PE X (Expr.Name (Str.ofString n1) p1) (tC (.ty n1)) := pe_bltn (a.ctx.gl hg1) (by rw [a.ctx.hm]; exact hm1) (boot_cls hk1) (show RelV (.ty n1) (.type n1) from rfl) (cls_ne hk1) hg1.2
  have c2 : PE X (Expr.Name (Str.ofString n2) p2) (tC (.ty n2)) := pe_bltn (a.ctx.gl hg2) (by rw [a.ctx.hm]; exact hm2) (boot_cls hk2) (show RelV (.ty n2) (.type n2) from rfl) (cls_ne hk2) hg2.2
  have ct : PE X (.Tuple [.Name (Str.ofString n1) p1, .Name (Str.ofString n2) p2] j p3) _ := pe_tup (X := X) (pa_cons c1 (pa_cons c2 pa_nil hsa) hsb)
  refine (pe_callB (pos := pos) (p := p) call_isiT (a.ctx.gl hg) (by rw [a.ctx.hm]; exact hm) boot_isi (pa_cons pe_w (pa_cons ct pa_nil hsc) (star_ok te _ X.env)) (by decide +kernel) hg.2 (star_ok te _ X.env) rfl).w ?_
  show wE X e σ H fun v H1 => (2 ≤ sizeLine ∧ ∀ tp, H1 tp = none → rIsiT X.K [v, .ref tp] (upd H1 tp (.tup [.ty n1, .ty n2])) Q)
  rw [a.ctx.hK]
  refine se.bo te a h.bind fun w st1 g1 H1 v a1 e1 r1 h1 => ⟨small_line (by decide), fun tp htp => ?_⟩
  obtain ⟨w2, hw, h2⟩ := h1.o2r a1.wf a1.rst
  have e2 : Ext g1 H1 g1 (upd H1 tp (.tup [.ty n1, .ty n2])) := .new htp
  have r2 := r1.ext a1.wf e2
  have key : isAny st1 w [k1, k2] = match isKd w k1 with | some true => some true | some false => (match isKd w k2 with | some b => some b | none => none) | none => none := by
    have one : ∀ (k : Kd) (ks : List Kd) (nm : String), clsName k = some nm → isAny st1 w (k :: ks) = (match isKd w k with | some true => some true | some false => isAny st1 w ks | none => none) := fun k ks nm hk => by
      cases k <;> first | rfl | exact nomatch hk
    have nil : isAny st1 w [] = some false := rfl
    rw [one _ _ _ hk1, one _ _ _ hk2, nil]
    cases isKd w k1 with
    | none => rfl
    | some b =>
      cases b with
      | true => rfl
      | false =>
        cases isKd w k2 with
        | none => rfl
        | some b => cases b <;> rfl
  rw [key] at hw
  have go : ∀ b, w2 = .bl b → (∃ t, TyX T.K (upd H1 tp (.tup [.ty n1, .ty n2])) v (.type t) ∧ PySem.W.kitAny T.K (.type t) [.type n1, .type n2] = some b) → rIsiT T.K [v, .ref tp] (upd H1 tp (.tup [.ty n1, .ty n2])) Q := fun b e ⟨t, ht, hk⟩ => by
    subst e
    exact ⟨v, tp, [.ty n1, .ty n2], .type t, [.type n1, .type n2], b, rfl, upd_same, .cons (.ty n1) (.cons (.ty n2) .nil), ht, hk, h2 g1 _ e2 (a1.wf.new htp) (a1.rst.new htp) _ (.bl b)⟩
  cases q1 : isKd w k1 with
  | none => rw [q1] at hw; exact nomatch hw
  | some b1 =>
    obtain ⟨t, ht, hk⟩ := r2.ty3 (kd_int hk1 q1)
    have z1 := kit_ty (K := T.K) (hk k1 n1 _ hk1 q1)
    rw [q1] at hw
    cases b1 with
    | true =>
      injection hw with hw
      exact go true hw.symm ⟨t, ht, by unfold PySem.W.kitAny; rw [z1]⟩
    | false =>
      simp only at hw
      cases q2 : isKd w k2 with
      | none => rw [q2] at hw; exact nomatch hw
      | some b2 =>
        rw [q2] at hw
        injection hw with hw
        have z2 := kit_ty (K := T.K) (hk k2 n2 _ hk2 q2)
        exact go b2 hw.symm ⟨t, ht, kitAny_cons z1 (fun _ => kitAny_cons z2 (fun e => by subst e; rfl) (fun e => e)) nofun⟩
end
end Pv
end

section
set_option Elab.async false
set_option linter.all false
set_option maxRecDepth 100000
namespace Pv
open PySem PySem.Spec PyProof.Rows L2

def notC : Expr → Bool
  | .ListComp _ _ _ _ | .SetComp _ _ _ _ | .DictComp _ _ _ _ _ => false
  | _ => true
def notSl : Expr → Bool
  | .Slice _ _ _ _ => false
  | _ => true
def notT : Expr → Bool
  | .Tuple _ _ _ => false
  | _ => true
def aop : Bo → Bool
  | .add | .sub => true
  | _ => false
mutual
/-- no exception comes of it -/
def noX : Ex → Bool
  | .v _ | .o _ | .mv _ | .k _ | .g _ => true
  | .att o _ => noX o
  | .tup es => noXs es
  | _ => false
def noXs : List Ex → Bool
  | [] => true
  | e :: es => noX e && noXs es
end
/-- a slot of the def alone that is given away at its end -/
def Cfg.give (c : Cfg) (ms : List Nat) : Cfg := { c with own := c.own.filter fun i => !ms.contains i }
/-- what is known of an error's class of the text, one that takes a message alone -/
def ExcP (T : Tb) (ci : Nat) : Prop := ∃ (B newId initId : String) (bmB : List Value), ExcBaseFacts B newId initId bmB ∧ PySem.W.excIn T.K (T.ca ci) bmB newId = true ∧ PySem.W.keepIn T.K (.ref (T.ca ci)) = true ∧
  PySem.W.subIn T.K (.ref (T.ca ci)) (.type "BaseException") = some true ∧ PySem.W.typeIn T.K (.ref (T.ca ci)) = some (.type "type")
inductive TrK : Expr → Ex → Prop
  | kInt {i : Int} {j : Nat} {pos : Pos} : TrK (.Constant (.int i) j pos) (.k (.int i))
  | kBl {b : Bool} {j : Nat} {pos : Pos} : TrK (.Constant (.bool b) j pos) (.k (.bl b))
  | kNon {j : Nat} {pos : Pos} : TrK (.Constant .none j pos) (.k .non)
  | kStr {x : Str} {j : Nat} {pos : Pos} : TrK (.Constant (.str x) j pos) (.k (.str x))
/-- what an except clause does -/
inductive TrH : Stmt → Sm → Prop
  | ret {e : Expr} {x : Ex} {pos : Pos} : TrK e x → TrH (.Return (some e) pos) (.ret x)
  | cont {pos : Pos} : TrH (.Continue pos) .cont
  | pass {pos : Pos} : TrH (.Pass pos) .pass
mutual
inductive TrS (T : Tb) : Cfg → Bool → Bool → List Nat → Stmt → Sm → Prop
  | setN {c : Cfg} {fr lp : Bool} {M : List Nat} {id : Str} {p pos : Pos} {i : Nat} {e : Expr} {x : Ex} : c.N[i]? = some id → LocS c.sc id → i ∉ c.own → i ∉ c.bor → TrE T c e x → isO x = false → notC e = true → TrS T c fr lp M (.Assign [.Name id p] e pos) (.asg (.nm i) x)
  | setO {c : Cfg} {fr lp : Bool} {M : List Nat} {id : Str} {p pos : Pos} {i : Nat} {e : Expr} {x : Ex} : c.N[i]? = some id → LocS c.sc id → i ∈ c.own → TrE T c e x → kn T x = .fr → notC e = true → TrS T c fr lp M (.Assign [.Name id p] e pos) (.asg (.own i) x)
  | setC {c : Cfg} {fr lp : Bool} {M : List Nat} {y : Str} {py pos spos : Pos} {i : Nat} {elt tg iter : Expr} {ifs : List Expr} {sc' : Scope} {own : List (Str × Nat)} {x : Ex} {t : Tg} {it : Ex} {is : List Ex} :
      c.N[i]? = some y → c.sc.names.lookup y = some .local → c.sc.kind = .function → (py.line == pos.line) = true → (sc'.names.any fun (n, k) => n == y && (k == .local || k == .cell)) = false → i ∉ c.own → i ∉ c.bor →
      TrI T c [] iter it → notSet iter = true → BlkOk c.N c.sc sc' own → own.map (·.2) = tgS t → TrTg T { c with sc := relS sc' c.sc, fn := false, lq := none } tg t → TrTs T { c with sc := relS sc' c.sc, fn := false, lq := none } ifs is → is.length ≤ 1 → TrE T { c with sc := relS sc' c.sc, fn := false, lq := none } elt x → isO x = false →
      TrS T c fr lp M (.Assign [.Name y py] (.ListComp elt [⟨tg, iter, ifs, 0⟩] sc' pos) spos) (.asg (.nm i) (.comp x [.mk t it is]))
  | setCO {c : Cfg} {fr lp : Bool} {M : List Nat} {y : Str} {py pos spos : Pos} {i : Nat} {elt tg iter : Expr} {ifs : List Expr} {sc' : Scope} {own : List (Str × Nat)} {x : Ex} {t : Tg} {it : Ex} {is : List Ex} :
      c.N[i]? = some y → c.sc.names.lookup y = some .local → c.sc.kind = .function → (py.line == pos.line) = true → (sc'.names.any fun (n, k) => n == y && (k == .local || k == .cell)) = false → i ∈ c.own →
      TrI T c [] iter it → notSet iter = true → BlkOk c.N c.sc sc' own → own.map (·.2) = tgS t → TrTg T { c with sc := relS sc' c.sc, fn := false, lq := none } tg t → TrTs T { c with sc := relS sc' c.sc, fn := false, lq := none } ifs is → is.length ≤ 1 → TrE T { c with sc := relS sc' c.sc, fn := false, lq := none } elt x → isO x = false →
      TrS T c fr lp M (.Assign [.Name y py] (.ListComp elt [⟨tg, iter, ifs, 0⟩] sc' pos) spos) (.asg (.own i) (.comp x [.mk t it is]))
  | setC2 {c : Cfg} {fr lp : Bool} {M : List Nat} {y : Str} {py pos spos : Pos} {i : Nat} {elt tg iter tg1 iter1 : Expr} {ifs ifs1 : List Expr} {sc' : Scope} {own : List (Str × Nat)} {x : Ex} {t t1 : Tg} {it it1 : Ex} {is is1 : List Ex} :
      c.N[i]? = some y → c.sc.names.lookup y = some .local → c.sc.kind = .function → (py.line == pos.line) = true → (sc'.names.any fun (n, k) => n == y && (k == .local || k == .cell)) = false → i ∉ c.own → i ∉ c.bor →
      TrI T c [] iter it → notSet iter = true → BlkOk c.N c.sc sc' own → own.map (·.2) = tgS t ++ tgS t1 → c.N.length ∉ c.own → TrTg T { c with sc := relS sc' c.sc, fn := false, lq := none } tg t → TrTs T { c with sc := relS sc' c.sc, fn := false, lq := none } ifs is → is.length ≤ 1 →
      TrI T { c with sc := relS sc' c.sc, fn := false, lq := none } [c.N.length] iter1 it1 → notSet iter1 = true → TrTg T { c with sc := relS sc' c.sc, fn := false, lq := none } tg1 t1 → TrTs T { c with sc := relS sc' c.sc, fn := false, lq := none } ifs1 is1 → is1.length ≤ 1 → TrE T { c with sc := relS sc' c.sc, fn := false, lq := none } elt x → isO x = false →
      TrS T c fr lp M (.Assign [.Name y py] (.ListComp elt [⟨tg, iter, ifs, 0⟩, ⟨tg1, iter1, ifs1, 0⟩] sc' pos) spos) (.asg (.nm i) (.comp x [.mk t it is, .mk t1 it1 is1]))
  | setCO2 {c : Cfg} {fr lp : Bool} {M : List Nat} {y : Str} {py pos spos : Pos} {i : Nat} {elt tg iter tg1 iter1 : Expr} {ifs ifs1 : List Expr} {sc' : Scope} {own : List (Str × Nat)} {x : Ex} {t t1 : Tg} {it it1 : Ex} {is is1 : List Ex} :
      c.N[i]? = some y → c.sc.names.lookup y = some .local → c.sc.kind = .function → (py.line == pos.line) = true → (sc'.names.any fun (n, k) => n == y && (k == .local || k == .cell)) = false → i ∈ c.own →
      TrI T c [] iter it → notSet iter = true → BlkOk c.N c.sc sc' own → own.map (·.2) = tgS t ++ tgS t1 → c.N.length ∉ c.own → TrTg T { c with sc := relS sc' c.sc, fn := false, lq := none } tg t → TrTs T { c with sc := relS sc' c.sc, fn := false, lq := none } ifs is → is.length ≤ 1 →
      TrI T { c with sc := relS sc' c.sc, fn := false, lq := none } [c.N.length] iter1 it1 → notSet iter1 = true → TrTg T { c with sc := relS sc' c.sc, fn := false, lq := none } tg1 t1 → TrTs T { c with sc := relS sc' c.sc, fn := false, lq := none } ifs1 is1 → is1.length ≤ 1 → TrE T { c with sc := relS sc' c.sc, fn := false, lq := none } elt x → isO x = false →
      TrS T c fr lp M (.Assign [.Name y py] (.ListComp elt [⟨tg, iter, ifs, 0⟩, ⟨tg1, iter1, ifs1, 0⟩] sc' pos) spos) (.asg (.own i) (.comp x [.mk t it is, .mk t1 it1 is1]))
  | setT {c : Cfg} {fr lp : Bool} {M : List Nat} {es : List Expr} {k : Nat} {tp pos : Pos} {ts : List Tg} {e : Expr} {x : Ex} : TrTgs T c es ts → TrE T c e x → isO x = false → notT e = true → TrS T c fr lp M (.Assign [.Tuple es k tp] e pos) (.asg (.tu ts) x)
  | setA {c : Cfg} {fr lp : Bool} {M : List Nat} {o : Expr} {y : Ex} {f : Nat} {p pos : Pos} {e : Expr} {x : Ex} : TrE T c o y → TrE T c e x → isO x = false → TrS T c fr lp M (.Assign [.Attribute o (T.nm f) p] e pos) (.asg (.att y f) x)
  | aug {c : Cfg} {fr lp : Bool} {M : List Nat} {id : Str} {p pos : Pos} {i : Nat} {op : Bo} {e : Expr} {x : Ex} : c.N[i]? = some id → LocS c.sc id → i ∉ c.own → i ∉ c.bor → aop op = true → TrE T c e x → TrS T c fr lp M (.AugAssign (.Name id p) (bopOf op) e pos) (.aug i op x)
  | ret {c : Cfg} {lp : Bool} {M : List Nat} {e : Expr} {x : Ex} {pos : Pos} : TrE T c e x → isO x = false → TrS T c false lp M (.Return (some e) pos) (.ret x)
  | give {c : Cfg} {lp : Bool} {M : List Nat} {ms : List Nat} {e : Expr} {x : Ex} {pos : Pos} : TrE T (c.give ms) e x → isO x = false → noX x = true → TrS T c false lp M (.Return (some e) pos) (.ret x)
  | retF {c : Cfg} {lp : Bool} {M : List Nat} {e : Expr} {x : Ex} {pos : Pos} : TrE T c e x → kn T x = .fr → TrS T c true lp M (.Return (some e) pos) (.ret x)
  | giveF {c : Cfg} {lp : Bool} {M : List Nat} {id : Str} {p pos : Pos} {i : Nat} : c.N[i]? = some id → VisS c.sc id → (id == ("__debug__" : Str)) = false → (id == ("__classdict__" : Str)) = false → i ∈ c.own → TrS T c true lp M (.Return (some (.Name id p)) pos) (.ret (.mv i))
  | retN {c : Cfg} {fr lp : Bool} {M : List Nat} {pos : Pos} : TrS T c fr lp M (.Return none pos) .retN
  | ex {c : Cfg} {fr lp : Bool} {M : List Nat} {e : Expr} {x : Ex} {pos : Pos} : TrE T c e x → notC e = true → TrS T c fr lp M (.Expr e pos) (.ex x)
  | app {c : Cfg} {fr lp : Bool} {M : List Nat} {id : Str} {p ap cp pos : Pos} {i : Nat} {e : Expr} {x : Ex} : c.N[i]? = some id → VisS c.sc id → (id == ("__debug__" : Str)) = false → (id == ("__classdict__" : Str)) = false → i ∈ c.own → i ∈ M → TrE T c e x → isO x = false → (ap.endLine == cp.line) = true →
      TrS T c fr lp M (.Expr (.Call (.Attribute (.Name id p) "append" ap) [e] [] cp) pos) (.app i x)
  | ext {c : Cfg} {fr lp : Bool} {M : List Nat} {id : Str} {p ap cp pos : Pos} {i : Nat} {e : Expr} {x : Ex} : c.N[i]? = some id → VisS c.sc id → (id == ("__debug__" : Str)) = false → (id == ("__classdict__" : Str)) = false → i ∈ c.own → i ∈ M → TrE T c e x → kn T x = .fr → (ap.endLine == cp.line) = true →
      TrS T c fr lp M (.Expr (.Call (.Attribute (.Name id p) "extend" ap) [e] [] cp) pos) (.ext i x)
  | rev {c : Cfg} {fr lp : Bool} {M : List Nat} {id : Str} {p ap cp pos : Pos} {i : Nat} : c.N[i]? = some id → VisS c.sc id → (id == ("__debug__" : Str)) = false → (id == ("__classdict__" : Str)) = false → i ∈ c.own → i ∈ M → (ap.endLine == cp.line) = true →
      TrS T c fr lp M (.Expr (.Call (.Attribute (.Name id p) "reverse" ap) [] [] cp) pos) (.rev i)
  | ife {c : Cfg} {fr lp : Bool} {M : List Nat} {t : Expr} {z : Ex} {a b : List Stmt} {xa xb : List Sm} {pos : Pos} : TrT T c t z → TrSs T c fr lp M a xa → TrSs T c fr lp M b xb → TrS T c fr lp M (.If t a b pos) (.ife z xa xb)
  | for {c : Cfg} {fr : Bool} {M M' : List Nat} {tg iter : Expr} {t : Tg} {it : Ex} {b : List Stmt} {xb : List Sm} {pos : Pos} : (∀ i, i ∈ M' → i ∈ M) → TrI T c M' iter it → notSet iter = true → TrTg T c tg t → TrSs T c fr true M' b xb → TrS T c fr true M (.For tg iter b [] pos) (.for t it xb)
  | while {c : Cfg} {fr : Bool} {M : List Nat} {e : Expr} {z : Ex} {b : List Stmt} {xb : List Sm} {pos : Pos} : TrT T c e z → TrSs T c fr true M b xb → TrS T c fr true M (.While e b [] pos) (.while z xb)
  | raise {c : Cfg} {fr lp : Bool} {M : List Nat} {ci : Nat} {cd : CDef} {m : Str} {j : Nat} {p p2 p3 pos : Pos} : GlS c.sc (T.nm ci) → T.mg (T.nm ci) = some (.ref (T.ca ci)) → ExcP T ci → T.G.cls.find ci = some cd → cd.pay = none →
      TrS T c fr lp M (.Raise (some (.Call (.Name (T.nm ci) p) [.Constant (.str m) j p2] [] p3)) none pos) (.raise ci [.k (.str m)])
  | par2 {c : Cfg} {fr lp : Bool} {M : List Nat} {x1 x2 : Str} {p1 p2 p3 p4 pos : Pos} {k1 k2 i j : Nat} {e1 e2 : Expr} {y1 y2 : Ex} : c.N[i]? = some x1 → c.N[j]? = some x2 → i ≠ j → c.sc.names.lookup x1 = some .local → c.sc.names.lookup x2 = some .local → i ∉ c.own → j ∉ c.own → i ∉ c.bor → j ∉ c.bor →
      (∀ env : Env, env.scope = c.sc → swappedStores [.Tuple [.Name x1 p1, .Name x2 p2] k1 p3] (.Tuple [e1, e2] k2 p4) env = pure (some [x1, x2])) → TrEs T c [] [e1, e2] [y1, y2] →
      TrS T c fr lp M (.Assign [.Tuple [.Name x1 p1, .Name x2 p2] k1 p3] (.Tuple [e1, e2] k2 p4) pos) (.par [.nm i, .nm j] [y1, y2])
  | parN {c : Cfg} {fr lp : Bool} {M : List Nat} {es : List Expr} {k k2 : Nat} {tp p4 pos : Pos} {ts : List Tg} {as_ : List Expr} {xs : List Ex} : TrTgs T c es ts → TrEs T c [] as_ xs → as_.length ≤ 1000 → (∀ env : Env, env.scope = c.sc → swappedStores [.Tuple es k tp] (.Tuple as_ k2 p4) env = pure none) →
      TrS T c fr lp M (.Assign [.Tuple es k tp] (.Tuple as_ k2 p4) pos) (.par ts xs)
  | try {c : Cfg} {fr lp : Bool} {M : List Nat} {ci : Nat} {b : List Stmt} {xb : List Sm} {np pos pos' : Pos} {h : Stmt} {xh : Sm} : TrSs T c fr true M b xb → TrH h xh → GlS c.sc (T.nm ci) → T.mg (T.nm ci) = some (.ref (T.ca ci)) →
      (∀ e b', catches T.G ci e = some b' → PySem.W.exmOne T.K (.ref (T.ca e)) (.ref (T.ca ci)) = some b') →
      TrS T c fr lp M (.Try b [.ExceptHandler (some (.Name (T.nm ci) np)) none [h] pos'] [] [] pos) (.try xb ci none [xh])
  | sub {c : Cfg} {fr lp : Bool} {M : List Nat} {id : Str} {p sp pos : Pos} {i : Nat} {ie e : Expr} {y x : Ex} : c.N[i]? = some id → VisS c.sc id → (id == ("__debug__" : Str)) = false → (id == ("__classdict__" : Str)) = false → i ∈ c.own → i ∈ M → TrE T c ie y → isO y = false → notSl ie = true → TrE T c e x → isO x = false →
      TrS T c fr lp M (.Assign [.Subscript (.Name id p) ie sp] e pos) (.asg (.sub i y) x)
  | pass {c : Cfg} {fr lp : Bool} {M : List Nat} {pos : Pos} : TrS T c fr lp M (.Pass pos) .pass
  | brk {c : Cfg} {fr lp : Bool} {M : List Nat} {pos : Pos} : TrS T c fr lp M (.Break pos) .brk
  | cont {c : Cfg} {fr lp : Bool} {M : List Nat} {pos : Pos} : TrS T c fr lp M (.Continue pos) .cont
inductive TrSs (T : Tb) : Cfg → Bool → Bool → List Nat → List Stmt → List Sm → Prop
  | nil {c : Cfg} {fr lp : Bool} {M : List Nat} : TrSs T c fr lp M [] []
  | cons {c : Cfg} {fr lp : Bool} {M : List Nat} {s : Stmt} {x : Sm} {ss : List Stmt} {xs : List Sm} : TrS T c fr lp M s x → TrSs T c fr lp M ss xs → TrSs T c fr lp M (s :: ss) (x :: xs)
end

/-- what a block's end is to give; g0, H0: at the def's beginning -/
def PoS (T : Tb) (c : Cfg) (fr : Bool) (M : List Nat) (g0 : Gh) (H0 : Hp) (g : Gh) (H : Hp) (W : WX) (D : Ends) : RS → Prop
  | .ok .nx σE' st' => ∀ g' H' σ', ExtM M g H g' H' → Wf g' H' → RelSt T g' st' H' → RelF T c g' H' σE' σ' → D.nx σ' H'
  | .ok .bk σE' st' => ∀ g' H' σ', ExtM M g H g' H' → Wf g' H' → RelSt T g' st' H' → RelF T c g' H' σE' σ' → D.bk σ' H'
  | .ok .ct σE' st' => ∀ g' H' σ', ExtM M g H g' H' → Wf g' H' → RelSt T g' st' H' → RelF T c g' H' σE' σ' → D.ct σ' H'
  | .ok (.rt w) _ st' => ∀ g' H' v, Ext g0 H0 g' H' → Wf g' H' → RelSt T g' st' H' → RelK T.K (if fr then .fr else .lk) H0 g' H' w v → D.rt v H'
  | .exc ci pl σE' st' => ∀ g' H' dd σ', ExtM M g H g' H' → Wf g' H' → RelSt T g' st' H' → RelF T c g' H' σE' σ' → RelPl T pl g' H' dd → W (.ref (T.ca ci)) dd σ' H'
  | .err => False
section
variable {T : Tb} {c : Cfg} {fr : Bool} {M M' : List Nat} {g0 : Gh} {H0 : Hp} {g g' : Gh} {H H' : Hp} {W : WX} {D D' : Ends} {r : RS}
theorem PoS.ext (e : ExtM M g H g' H') (h : PoS T c fr M g0 H0 g H W D r) : PoS T c fr M g0 H0 g' H' W D r := by
  cases r with
  | ok f σE st =>
    cases f with
    | rt w => exact h
    | nx => exact fun g2 H2 σ2 e2 wf rs rf => h g2 H2 σ2 (e.trans e2) wf rs rf
    | bk => exact fun g2 H2 σ2 e2 wf rs rf => h g2 H2 σ2 (e.trans e2) wf rs rf
    | ct => exact fun g2 H2 σ2 e2 wf rs rf => h g2 H2 σ2 (e.trans e2) wf rs rf
  | exc ci pl σE st => exact fun g2 H2 dd σ2 e2 wf rs rf rp => h g2 H2 dd σ2 (e.trans e2) wf rs rf rp
  | err => exact h
theorem PoS.down (s : ∀ i, i ∈ M' → i ∈ M) (h : PoS T c fr M g0 H0 g H W D r) : PoS T c fr M' g0 H0 g H W D r := by
  cases r with
  | ok f σE st =>
    cases f with
    | rt w => exact h
    | nx => exact fun g2 H2 σ2 e2 wf rs rf => h g2 H2 σ2 (e2.up s) wf rs rf
    | bk => exact fun g2 H2 σ2 e2 wf rs rf => h g2 H2 σ2 (e2.up s) wf rs rf
    | ct => exact fun g2 H2 σ2 e2 wf rs rf => h g2 H2 σ2 (e2.up s) wf rs rf
  | exc ci pl σE st => exact fun g2 H2 dd σ2 e2 wf rs rf rp => h g2 H2 dd σ2 (e2.up s) wf rs rf rp
  | err => exact h
/-- an expression's part of a statement -/
theorem PoS.toS {α : Type} {ra : R α} {σE : Fr} {σ : L2.St} {f : α → Sto → RS} (rf : RelF T c g H σE σ) (wf : Wf g H) (h : PoS T c fr M g0 H0 g H W D (ra.toS σE f)) :
    Po T g H W σ (fun a st' g' H' => PoS T c fr M g0 H0 g' H' W D (f a st')) ra := by
  cases ra with
  | ok a st => exact fun g' H' e _ _ => PoS.ext (e.toM M) (show PoS T c fr M g0 H0 g H W D (f a st) from h)
  | exc ci pl st => exact fun g' H' dd e wf' rs rp => (show PoS T c fr M g0 H0 g H W D (.exc ci pl σE st) from h) g' H' dd σ (e.toM M) wf' rs (rf.ext wf e) rp
  | err => exact h
/-- a block's first part -/
theorem PoS.bind {f : Fr → Sto → RS} {N : L2.St → Hp → Prop} (h : PoS T c fr M g0 H0 g H W D (r.bind f))
    (k : ∀ σE' st' g' H' σ', ExtM M g H g' H' → Wf g' H' → RelSt T g' st' H' → RelF T c g' H' σE' σ' → PoS T c fr M g0 H0 g' H' W D (f σE' st') → N σ' H') : PoS T c fr M g0 H0 g H W { D with nx := N } r := by
  cases r with
  | ok fl σE st =>
    cases fl with
    | rt w => exact h
    | nx => exact fun g' H' σ' e wf rs rf => k σE st g' H' σ' e wf rs rf (PoS.ext e (show PoS T c fr M g0 H0 g H W D (f σE st) from h))
    | bk => exact h
    | ct => exact h
  | exc ci pl σE st => exact h
  | err => exact h
end
/-- where a statement stands -/
structure AtS (T : Tb) (d : Nat) (c : Cfg) (lp : Bool) (M : List Nat) (X : Cx) (W : WX) (g0 : Gh) (H0 : Hp) (g : Gh) (st : Sto) (H : Hp) (σE : Fr) (σ : L2.St) : Prop where
  at_ : At T d c X W g st H σE σ
  fn : ∀ x, X.fn x = true
  hs : X.stack = X.env :: X.outer
  hf : X.env.frame = some X.env.locals
  pas : lp = true → PassesOwn (model X.prog X.w) X.A X.env X.xe
  no : ∀ a i, g0.ow a ≠ some (.sl i)
  wf0 : Wf g0 H0
  en : ExtM c.own g0 H0 g H
  sub : ∀ i, i ∈ M → i ∈ c.own
theorem AtS.ext {T : Tb} {d : Nat} {c : Cfg} {lp : Bool} {M : List Nat} {X : Cx} {W : WX} {g0 g g' : Gh} {H0 H H' : Hp} {st st' : Sto} {σE σE' : Fr} {σ σ' : L2.St} (a : AtS T d c lp M X W g0 H0 g st H σE σ)
    (e : ExtM M g H g' H') (wf : Wf g' H') (rs : RelSt T g' st' H') (rf : RelF T c g' H' σE' σ') : AtS T d c lp M X W g0 H0 g' st' H' σE' σ' :=
  ⟨⟨a.at_.ctx, a.at_.tk, wf, rs, rf⟩, a.fn, a.hs, a.hf, a.pas, a.no, a.wf0, a.en.trans (e.up a.sub), a.sub⟩
def SSt (T : Tb) (n d : Nat) : Prop := ∀ (c : Cfg) (fr lp : Bool) (M : List Nat) (s : Stmt) (x : Sm), TrS T c fr lp M s x → ∀ (X : Cx) (W : WX) (g0 : Gh) (H0 : Hp) (g : Gh) (st : Sto) (H : Hp) (σE : Fr) (σ : L2.St) (D : Ends), AtS T d c lp M X W g0 H0 g st H σE σ →
  PoS T c fr M g0 H0 g H W D (ex1 T.G n d σE st x) → wS X s D σ H
def SSs (T : Tb) (n d : Nat) : Prop := ∀ (c : Cfg) (fr lp : Bool) (M : List Nat) (s : List Stmt) (x : List Sm), TrSs T c fr lp M s x → ∀ (X : Cx) (W : WX) (g0 : Gh) (H0 : Hp) (g : Gh) (st : Sto) (H : Hp) (σE : Fr) (σ : L2.St) (D : Ends), AtS T d c lp M X W g0 H0 g st H σE σ →
  PoS T c fr M g0 H0 g H W D (exs T.G n d σE st x) → wSs X s D σ H
theorem sSs_step {T : Tb} {n d : Nat} (ss : SSt T n d) (sss : SSs T n d) : SSs T (n + 1) d := by
  intro c fr lp M s x tr X W g0 H0 g st H σE σ D a h
  cases tr with
  | nil =>
    simp only [exs] at h
    exact pss_nil.w (h g H σ .refl a.at_.wf a.at_.rst a.at_.rf)
  | @cons _ _ _ s x rest xs t ts =>
    simp only [exs] at h
    refine (pss_cons ps_w pss_w).w ?_
    refine ss c fr lp M s x t X W g0 H0 g st H σE σ { D with nx := wSs X rest D } a (h.bind fun σE' st' g' H' σ' e wf rs rf h' => ?_)
    exact sss c fr lp M rest xs ts X W g0 H0 g' st' H' σE' σ' D (a.ext e wf rs rf) h'
end Pv
end

section
set_option Elab.async false
set_option linter.all false
set_option maxRecDepth 100000
namespace Pv
open PySem PySem.Spec PyProof.Rows L2

theorem sw_non {e : Expr} (h : notC e = true) (t : Option Expr) (l : Nat) (env : Env) : swapsWith e t l env = pure false := by
  cases e <;> first | rfl | exact nomatch h
theorem sws_non {e t : Expr} (h : notC e = true) (l : Nat) (env : Env) : swapsWithSole [t] e l env = pure false := sw_non h (some t) l env
theorem sws_tup {e : Expr} {es : List Expr} {k : Nat} {tp : Pos} (l : Nat) (env : Env) : swapsWithSole [.Tuple es k tp] e l env = pure false := by
  show swapsWith e (some (.Tuple es k tp)) l env = pure false
  cases e <;> rfl
theorem sst_non {e : Expr} {ts : List Expr} (h : notT e = true) (env : Env) : swappedStores ts e env = pure none := by
  unfold swappedStores
  cases ts with
  | nil => cases e <;> rfl
  | cons t ts =>
    cases ts with
    | nil => cases t <;> cases e <;> first | rfl | exact nomatch h
    | cons _ _ => cases t <;> cases e <;> rfl
section
variable {T : Tb} {n d : Nat} {c : Cfg} {fr lp : Bool} {M : List Nat} {X : Cx} {W : WX} {g0 : Gh} {H0 : Hp} {g g' : Gh} {st st' : Sto} {H H' : Hp} {σE : Fr} {σ : L2.St} {D : Ends}
theorem AtS.loc (a : AtS T d c lp M X W g0 H0 g st H σE σ) {x : Str} (h : LocS c.sc x) : Loc X.env.scope x := by rw [a.at_.ctx.sc]; exact h
theorem AtS.slot (a : AtS T d c lp M X W g0 H0 g st H σE σ) {i : Nat} {x : Str} (h : c.N[i]? = some x) : X.N[i]? = some x := by rw [a.at_.ctx.hN]; exact h
theorem AtS.nd (a : AtS T d c lp M X W g0 H0 g st H σE σ) : X.N.Nodup := by rw [a.at_.ctx.hN]; exact a.at_.ctx.nd
/-- a name gets what is shared -/
theorem RelF.setZ {i : Nat} {w : Pv.W} {v : V} (ho : i ∉ c.own) (hb : i ∉ c.bor) (rf : RelF T c g H σE σ) (r : RelZ T.K g H w v) : RelF T c g H (σE.set i (some w)) (σ.set i (some v)) :=
  rf.set (by unfold SlR; rw [if_neg ho, if_neg hb]; exact r)
/-- a slot of the def alone gets what is new -/
theorem RelF.setOw {i : Nat} {w : Pv.W} {v : V} (ho : i ∈ c.own) (wf : Wf g H) (wf' : Wf g' H') (e : Ext g H g' H') (rs : RelSt T g' st' H') (rf : RelF T c g H σE σ) (r : RelFr T.K H g' H' w v) :
    ∃ g2, Ext g H g2 H' ∧ Wf g2 H' ∧ RelSt T g2 st' H' ∧ RelF T c g2 H' (σE.set i (some w)) (σ.set i (some v)) := by
  rcases r with ⟨hc, r⟩ | ⟨r, hn⟩
  · exact ⟨g', e, wf', rs, (rf.ext wf e).set (by unfold SlR; rw [if_pos ho]; exact .inl ⟨hc, r⟩)⟩
  · have main : ∀ a o, v = .ref a → H' a = some o → LD o → g'.ow a = none → RootO T.K (g'.put a (.sl i)) H' (some (.sl i)) w v →
        ∃ g2, Ext g H g2 H' ∧ Wf g2 H' ∧ RelSt T g2 st' H' ∧ RelF T c g2 H' (σE.set i (some w)) (σ.set i (some v)) := fun a o ea hH hl hw rr => by
      have e2 : Ext g H (g'.put a (.sl i)) H' := put_ext e (hn a ea) wf
      exact ⟨g'.put a (.sl i), e2, put_wf wf' hH hl, rs.put hw, (rf.ext wf e2).set (by unfold SlR; rw [if_pos ho]; exact .inr rr)⟩
    cases r with
    | @lst a vs ws h q r => exact main a _ rfl h LD_lst q (.lst h Gh.put_same (r.mo (put_mo q)))
    | @dic a kvs ks ws h q k r => exact main a _ rfl h LD_dK q (.dic h Gh.put_same k (r.mo (put_mo q)))
/-- a slot's list is shared from now on -/
theorem giveA {K : PySem.W.Frag} {A : Addr} {m : Nat} (hA : g.ow A = some (.sl m)) : Mo K g H (g.put A .sh) H where
  sh := fun b q => by rw [Gh.put_ne (fun z => by rw [z, hA] at q; cases q)]; exact q
  lst := fun _ _ h _ => h
  frz := fun _ _ _ h => h
  tup := fun _ _ h => h
  io := fun _ _ h => h
  lam := rfl
  ext := fun _ _ h => h
theorem RootO.give {K : PySem.W.Frag} {A : Addr} {m : Nat} {t : Option Tag} {w : Pv.W} {v : V} (hA : g.ow A = some (.sl m)) (ht : t ≠ some (.sl m)) (r : RootO K g H t w v) : RootO K (g.put A .sh) H t w v := by
  cases r with
  | @lst b vs ws h1 h2 h3 => exact .lst h1 (by rw [Gh.put_ne (fun z => ht (by rw [← h2, z]; exact hA))]; exact h2) (h3.mo (giveA hA))
  | @dic b kvs ks ws h1 h2 k h3 => exact .dic h1 (by rw [Gh.put_ne (fun z => ht (by rw [← h2, z]; exact hA))]; exact h2) k (h3.mo (giveA hA))
theorem FsR.give {A : Addr} {m n : Nat} (hA : g.ow A = some (.sl m)) : ∀ {fs : List (Nat × Pv.W)} {vs : List (Str × V)}, FsR T g H n fs vs → FsR T (g.put A .sh) H n fs vs
  | _, _, .nil => .nil
  | _, _, .cons r rs => .cons (by
      rcases r with r | ⟨o, r⟩
      · exact .inl (r.mo (giveA hA))
      · exact .inr ⟨o, r.give hA (by simp)⟩) (FsR.give hA rs)
theorem RelSt.give {A : Addr} {m : Nat} (hA : g.ow A = some (.sl m)) (r : RelSt T g st H) : RelSt T (g.put A .sh) st H :=
  ⟨r.len, fun n o e => let ⟨x, dx, fs, h1, h2, h3⟩ := r.ob n o e; ⟨x, dx, fs, h1, h2, h3.give hA⟩, r.inj, r.na, r.lam, r.tb.ow fun p n f q => by rw [Gh.put_ne (fun z => by rw [z, hA] at q; cases q)]; exact q⟩
theorem RelF.iff {c' : Cfg} (h1 : ∀ i, i ∈ c'.own ↔ i ∈ c.own) (h2 : c'.bor = c.bor) (r : RelF T c g H σE σ) : RelF T c' g H σE σ :=
  ⟨r.len, fun i w h => let ⟨v, e, s⟩ := r.at_ i w h; ⟨v, e, by unfold SlR at s ⊢; rw [h2]; simp only [h1]; exact s⟩⟩
theorem sl_new {A : Addr} {m : Nat} {M : List Nat} (no : ∀ a i, g0.ow a ≠ some (.sl i)) (e : ExtM M g0 H0 g H) (hA : g.ow A = some (.sl m)) : H0 A = none := by
  cases q : H0 A with
  | none => rfl
  | some o =>
    exfalso
    cases q2 : g0.ow A with
    | none => rw [e.nt A o q q2] at hA; cases hA
    | some t => rw [e.tag A t q2] at hA; injection hA with hA; exact no A m (by rw [q2, hA])
theorem RelF.give1 (m : Nat) (wf0 : Wf g0 H0) (no : ∀ a i, g0.ow a ≠ some (.sl i)) (wf : Wf g H) (rs : RelSt T g st H) (e : Ext g0 H0 g H) (rf : RelF T c g H σE σ) :
    ∃ g2, Wf g2 H ∧ RelSt T g2 st H ∧ Ext g0 H0 g2 H ∧ RelF T (c.give [m]) g2 H σE σ := by
  have hm : ∀ i, i ∈ (c.give [m]).own ↔ i ∈ c.own ∧ i ≠ m := fun i => by
    simp [Cfg.give, List.mem_filter]
  by_cases ho : m ∈ c.own
  · -- no list stands at the slot
    have skip : (∀ w, σE[m]? = some (some w) → ∃ v, σ[m]? = some (some v) ∧ RelZ T.K g H w v) → ∃ g2, Wf g2 H ∧ RelSt T g2 st H ∧ Ext g0 H0 g2 H ∧ RelF T (c.give [m]) g2 H σE σ := fun hz => by
      refine ⟨g, wf, rs, e, rf.len, fun i w hi => ?_⟩
      by_cases him : i = m
      · subst him
        obtain ⟨v, e1, r⟩ := hz w hi
        refine ⟨v, e1, ?_⟩
        unfold SlR
        rw [if_neg (fun z => ((hm i).mp z).2 rfl)]
        split
        · exact .inl r
        · exact r
      · obtain ⟨v, e1, r⟩ := rf.at_ i w hi
        refine ⟨v, e1, ?_⟩
        unfold SlR at r ⊢
        by_cases hio : i ∈ c.own
        · rw [if_pos hio] at r; rw [if_pos ((hm i).mpr ⟨hio, him⟩)]; exact r
        · rw [if_neg hio] at r; rw [if_neg (fun z => hio ((hm i).mp z).1)]; exact r
    cases hw : σE[m]? with
    | none => exact skip fun w z => by rw [hw] at z; cases z
    | some ow =>
      cases ow with
      | none => exact skip fun w z => by rw [hw] at z; cases z
      | some w =>
        obtain ⟨v, e1, r⟩ := rf.at_ m w hw
        unfold SlR at r
        rw [if_pos ho] at r
        rcases r with ⟨_, r⟩ | r
        · exact skip fun w' z => by rw [hw] at z; cases z; exact ⟨v, e1, r⟩
        · have main : ∀ A o, H A = some o → LD o → g.ow A = some (.sl m) → RelZ T.K (g.put A .sh) H w v → ∃ g2, Wf g2 H ∧ RelSt T g2 st H ∧ Ext g0 H0 g2 H ∧ RelF T (c.give [m]) g2 H σE σ := fun A o hA hl hT hz => by
            refine ⟨g.put A .sh, put_wf wf hA hl, rs.give hT, put_ext e (sl_new no (e.toM []) hT) wf0, rf.len, fun i w1 hi => ?_⟩
            by_cases him : i = m
            · subst him
              rw [hw] at hi; cases hi
              refine ⟨v, e1, ?_⟩
              unfold SlR
              rw [if_neg (fun z => ((hm i).mp z).2 rfl)]
              split
              · exact .inl hz
              · exact hz
            · obtain ⟨v1, e2, r1⟩ := rf.at_ i w1 hi
              refine ⟨v1, e2, ?_⟩
              unfold SlR at r1 ⊢
              by_cases hio : i ∈ c.own
              · rw [if_pos hio] at r1; rw [if_pos ((hm i).mpr ⟨hio, him⟩)]
                rcases r1 with ⟨q1, q2⟩ | q
                · exact .inl ⟨q1, q2.mo (giveA hT)⟩
                · exact .inr (q.give hT (fun z => him (by injection z with z; injection z with z)))
              · rw [if_neg hio] at r1; rw [if_neg (fun z => hio ((hm i).mp z).1)]
                show if i ∈ c.bor then _ else _
                split
                · rename_i hb; rw [if_pos hb] at r1
                  rcases r1 with q | ⟨t, q1, q2, q⟩
                  · exact .inl (q.mo (giveA hT))
                  · exact .inr ⟨t, q1, q2, q.give hT (q2 m)⟩
                · rename_i hb; rw [if_neg hb] at r1
                  exact r1.mo (giveA hT)
          cases r with
          | @lst A vs ws h q r => exact main A _ h LD_lst q (.lst (.inl ⟨h, Gh.put_same⟩) (r.mo (giveA q)))
          | @dic A kvs ks ws h q k r => exact main A _ h LD_dK q (.dic h Gh.put_same k (r.mo (giveA q)))
  · exact ⟨g, wf, rs, e, rf.iff (c := c) (c' := c.give [m]) (fun i => by rw [hm]; exact ⟨fun z => z.1, fun z => ⟨z, fun y => ho (by rw [← y]; exact z)⟩⟩) rfl⟩
/-- the slots' lists that are given away are shared from now on -/
theorem RelF.give (wf0 : Wf g0 H0) (no : ∀ a i, g0.ow a ≠ some (.sl i)) : ∀ (ms : List Nat) {c : Cfg} {g : Gh}, Wf g H → RelSt T g st H → Ext g0 H0 g H → RelF T c g H σE σ →
    ∃ g2, Wf g2 H ∧ RelSt T g2 st H ∧ Ext g0 H0 g2 H ∧ RelF T (c.give ms) g2 H σE σ
  | [], c, g, wf, rs, e, rf => ⟨g, wf, rs, e, rf.iff (c := c) (c' := c.give []) (fun i => by simp [Cfg.give]) rfl⟩
  | m :: ms, c, g, wf, rs, e, rf => by
    obtain ⟨g1, wf1, rs1, e1, rf1⟩ := rf.give1 m wf0 no wf rs e
    obtain ⟨g2, wf2, rs2, e2, rf2⟩ := RelF.give wf0 no ms wf1 rs1 e1 rf1
    exact ⟨g2, wf2, rs2, e2, rf2.iff (c := (c.give [m]).give ms) (c' := c.give (m :: ms)) (fun i => by simp [Cfg.give, List.mem_filter, and_assoc]; exact fun _ => and_comm) rfl⟩
theorem evE_0 {G : Gb} {x : Ex} : evE G 0 d σE st x = .err := by rw [evE.eq_def]
theorem evEs_0 {G : Gb} {x : List Ex} : evEs G 0 d σE st x = .err := by rw [evEs.eq_def]
theorem noX_ok (G : Gb) : ∀ n : Nat, (∀ (x : Ex) (st : Sto), noX x = true → ∀ ci pl st', evE G n d σE st x ≠ .exc ci pl st') ∧ ∀ (xs : List Ex) (st : Sto), noXs xs = true → ∀ ci pl st', evEs G n d σE st xs ≠ .exc ci pl st' := by
  intro n
  induction n with
  | zero => exact ⟨fun x st _ ci pl st' => by rw [evE_0]; exact nofun, fun x st _ ci pl st' => by rw [evEs_0]; exact nofun⟩
  | succ n ih =>
    obtain ⟨ih1, ih2⟩ := ih
    have gv : ∀ (i : Nat) (st : Sto) ci pl st', getv σE i st ≠ .exc ci pl st' := fun i st ci pl st' => by
      unfold getv; split <;> exact nofun
    have o2 : ∀ {α : Type} (o : Option α) (st : Sto) ci pl st', o2r o st ≠ .exc ci pl st' := fun o st ci pl st' => by
      cases o <;> exact nofun
    have bd : ∀ {α β : Type} (r : R α) (f : α → Sto → R β), (∀ ci pl st', r ≠ .exc ci pl st') → (∀ a st ci pl st', f a st ≠ .exc ci pl st') → ∀ ci pl st', r.bind f ≠ .exc ci pl st' := fun r f h1 h2 ci pl st' => by
      cases r with
      | ok a st => exact h2 a st ci pl st'
      | exc a b c => exact absurd rfl (h1 a b c)
      | err => exact nofun
    refine ⟨fun x st hx => ?_, fun xs st hx => ?_⟩
    · cases x with
      | v i => intro ci pl st'; simp only [evE]; exact gv i st ci pl st'
      | o i => intro ci pl st'; simp only [evE]; exact gv i st ci pl st'
      | mv i => intro ci pl st'; simp only [evE]; exact gv i st ci pl st'
      | k w => intro ci pl st'; simp only [evE]; exact nofun
      | g id => intro ci pl st'; simp only [evE]; exact o2 _ st ci pl st'
      | tup es => intro ci pl st'; simp only [evE]; exact bd _ _ (ih2 es st hx) (fun a st ci pl st' => by show R.ok _ _ ≠ _; exact nofun) ci pl st'
      | att o f =>
        intro ci pl st'; simp only [evE]
        refine bd _ _ (ih1 o st hx) (fun a st ci pl st' => ?_) ci pl st'
        cases a with
        | obj p => show (match st[p]? with | some ob => _ | none => _) ≠ _; split; exact o2 _ _ _ _ _; exact nofun
        | _ => exact nofun
      | _ => exact nomatch hx
    · cases xs with
      | nil => intro ci pl st'; simp only [evEs]; exact nofun
      | cons x xs =>
        simp only [noXs, Bool.and_eq_true] at hx
        intro ci pl st'; simp only [evEs]
        exact bd _ _ (ih1 x st hx.1) (fun a st => bd _ _ (ih2 xs st hx.2) (fun _ _ _ _ _ => by show R.ok _ _ ≠ _; exact nofun)) ci pl st'
theorem s_give (se : SE T n d) {e : Expr} {x : Ex} {ms : List Nat} {pos : Pos} (te : TrE T (c.give ms) e x) (ho : isO x = false) (hx : noX x = true)
    (a : AtS T d c lp M X W g0 H0 g st H σE σ) (h : PoS T c false M g0 H0 g H W D ((evE T.G n d σE st x).toS σE fun w st => .ok (.rt w) σE st)) : wS X (.Return (some e) pos) D σ H := by
  refine (ps_ret pe_w).w ?_
  show wE X e σ H D.rt
  obtain ⟨g2, wf2, rs2, e2, rf2⟩ := RelF.give a.wf0 a.no ms a.at_.wf a.at_.rst (a.en.toE a.no) a.at_.rf
  have k := a.at_.ctx
  have a2 : At T d (c.give ms) X W g2 st H σE σ := ⟨⟨k.hN, k.nd, k.calm, k.room, k.hK, k.hm, k.sc, k.fns, k.cls, k.fnc, k.lams, k.lq⟩, a.at_.tk, wf2, rs2, rf2⟩
  refine se.lk te ho a2 (P := fun w st' g' H' => ∀ v, RelZ T.K g' H' w v → Ext g0 H0 g' H' → Wf g' H' → RelSt T g' st' H' → D.rt v H') ?_ fun w st1 g1 H1 v a1 e1 r1 h1 => h1 v r1 (e2.trans e1) a1.wf a1.rst
  cases q : evE T.G n d σE st x with
  | ok w st' => rw [q] at h; exact fun g' H' _ _ _ v r e wf rs => (show PoS T c false M g0 H0 g H W D (.ok (.rt w) σE st') from h) g' H' v e wf rs r
  | exc ci pl st' => exact absurd q ((noX_ok T.G n).1 x st hx ci pl st')
  | err => rw [q] at h; exact h
theorem s_setN (se : SE T n d) {id : Str} {p pos : Pos} {i : Nat} {e : Expr} {x : Ex} (h1 : c.N[i]? = some id) (h2 : LocS c.sc id) (h3 : i ∉ c.own) (h4 : i ∉ c.bor) (te : TrE T c e x) (ho : isO x = false) (hc : notC e = true)
    (a : AtS T d c lp M X W g0 H0 g st H σE σ) (h : PoS T c fr M g0 H0 g H W D ((evE T.G n d σE st x).toS σE fun w st => (asgT T.G n d σE st (.nm i) w).toS σE fun σ st => .ok .nx σ st)) : wS X (.Assign [.Name id p] e pos) D σ H := by
  refine (ps_set (i := i) a.nd (a.slot h1) (a.loc h2) pe_w (sw_non hc _ _ _) (.inl (a.fn id))).w ?_
  show wE X e σ H fun v H1 => D.nx (σ.set i (some v)) H1
  refine se.lk te ho a.at_ (h.toS a.at_.rf a.at_.wf) fun w st1 g1 H1 v a1 e1 r1 h1 => ?_
  cases n with
  | zero => rw [asgT_0] at h1; exact h1.elim
  | succ n => rw [asgT_nm] at h1; exact h1 g1 H1 _ .refl a1.wf a1.rst (a1.rf.setZ h3 h4 r1)
theorem asgT_own {G : Gb} {i : Nat} {w : Pv.W} : asgT G (n + 1) d σE st (.own i) w = .ok (σE.set i (some w)) st := by rw [asgT.eq_def]
theorem s_setO (se : SE T n d) {id : Str} {p pos : Pos} {i : Nat} {e : Expr} {x : Ex} (h1 : c.N[i]? = some id) (h2 : LocS c.sc id) (h3 : i ∈ c.own) (te : TrE T c e x) (hk : kn T x = .fr) (hc : notC e = true)
    (a : AtS T d c lp M X W g0 H0 g st H σE σ) (h : PoS T c fr M g0 H0 g H W D ((evE T.G n d σE st x).toS σE fun w st => (asgT T.G n d σE st (.own i) w).toS σE fun σ st => .ok .nx σ st)) : wS X (.Assign [.Name id p] e pos) D σ H := by
  refine (ps_set (i := i) a.nd (a.slot h1) (a.loc h2) pe_w (sw_non hc _ _ _) (.inl (a.fn id))).w ?_
  show wE X e σ H fun v H1 => D.nx (σ.set i (some v)) H1
  refine se c e x te X W g st H σE σ _ a.at_ ((h.toS a.at_.rf a.at_.wf).all.mono fun w st1 g1 H1 e1 wf1 rs1 h1 v r1 => ?_)
  rw [hk] at r1
  obtain ⟨g2, e2, wf2, rs2, rf2⟩ := RelF.setOw h3 a.at_.wf wf1 e1 rs1 a.at_.rf r1
  have h1 := h1 g2 e2 wf2 rs2
  cases n with
  | zero => rw [asgT_0] at h1; exact h1.elim
  | succ n => rw [asgT_own] at h1; exact h1 g2 H1 _ .refl wf2 rs2 rf2
theorem s_setT (se : SE T n d) {es : List Expr} {k : Nat} {tp pos : Pos} {ts : List Tg} {e : Expr} {x : Ex} (tt : TrTgs T c es ts) (te : TrE T c e x) (ho : isO x = false) (hc : notT e = true)
    (a : AtS T d c lp M X W g0 H0 g st H σE σ) (h : PoS T c fr M g0 H0 g H W D ((evE T.G n d σE st x).toS σE fun w st => (asgT T.G n d σE st (.tu ts) w).toS σE fun σ st => .ok .nx σ st)) : wS X (.Assign [.Tuple es k tp] e pos) D σ H := by
  refine (ps_asg pe_w pg_w (sws_tup _ _) (sst_non hc _) rfl).w ?_
  show wE X e σ H fun v H1 => wG X (.Tuple es k tp) v σ H1 D.nx
  refine se.lk te ho a.at_ (h.toS a.at_.rf a.at_.wf) fun w st1 g1 H1 v a1 e1 r1 h1 => ?_
  have k1 := (tg_both (d := d) c X W g1 st1 H1 n).1 (.Tuple es k tp) (.tu ts) σE σ w v (.tu tt) a1 r1
  cases q : asgT T.G n d σE st1 (.tu ts) w with
  | err => rw [q] at h1; exact h1.elim
  | exc ci pl st' => rw [q] at k1; exact k1.elim
  | ok σ1 st2 =>
    rw [q] at h1 k1
    obtain ⟨e2, k1⟩ := k1
    subst e2
    exact k1 _ fun σ' rf' _ _ => (show PoS T c fr M g0 H0 g1 H1 W D (.ok .nx σ1 st2) from h1) g1 H1 σ' .refl a1.wf a1.rst rf'
theorem s_ret (se : SE T n d) {e : Expr} {x : Ex} {pos : Pos} (te : TrE T c e x) (ho : isO x = false)
    (a : AtS T d c lp M X W g0 H0 g st H σE σ) (h : PoS T c false M g0 H0 g H W D ((evE T.G n d σE st x).toS σE fun w st => .ok (.rt w) σE st)) : wS X (.Return (some e) pos) D σ H := by
  refine (ps_ret pe_w).w ?_
  show wE X e σ H D.rt
  refine se.lk te ho a.at_ (h.toS a.at_.rf a.at_.wf) fun w st1 g1 H1 v a1 e1 r1 h1 => ?_
  exact (show PoS T c false M g0 H0 g1 H1 W D (.ok (.rt w) σE st1) from h1) g1 H1 v ((a.en.trans (e1.toM _)).toE a.no) a1.wf a1.rst r1
theorem s_retN {pos : Pos} (a : AtS T d c lp M X W g0 H0 g st H σE σ) (h : PoS T c fr M g0 H0 g H W D (.ok (.rt .non) σE st)) : wS X (.Return none pos) D σ H := by
  refine ps_retN.w ?_
  refine h g H .non (a.en.toE a.no) a.at_.wf a.at_.rst ?_
  cases fr with
  | false => exact .non
  | true => exact fr_of rfl .non
theorem s_ex (se : SE T n d) {e : Expr} {x : Ex} {pos : Pos} (te : TrE T c e x) (hc : notC e = true)
    (a : AtS T d c lp M X W g0 H0 g st H σE σ) (h : PoS T c fr M g0 H0 g H W D ((evE T.G n d σE st x).toS σE fun _ st => .ok .nx σE st)) : wS X (.Expr e pos) D σ H := by
  refine (ps_expr pe_w (sw_non hc _ _ _)).w ?_
  show wE X e σ H fun _ H1 => D.nx σ H1
  refine se.bo te a.at_ (h.toS a.at_.rf a.at_.wf) fun w st1 g1 H1 v a1 e1 r1 h1 => ?_
  exact (show PoS T c fr M g0 H0 g1 H1 W D (.ok .nx σE st1) from h1) g1 H1 σ .refl a1.wf a1.rst a1.rf
theorem s_ife (stt : STt T n d) (sss : SSs T n d) {t : Expr} {z : Ex} {b1 b2 : List Stmt} {xa xb : List Sm} {pos : Pos} (tt : TrT T c t z) (ta : TrSs T c fr lp M b1 xa) (tb : TrSs T c fr lp M b2 xb)
    (a : AtS T d c lp M X W g0 H0 g st H σE σ) (h : PoS T c fr M g0 H0 g H W D ((evT T.G n d σE st z).toS σE fun t st => match t with | true => exs T.G n d σE st xa | false => exs T.G n d σE st xb)) : wS X (.If t b1 b2 pos) D σ H := by
  refine (ps_if pt_w pss_w pss_w).w ?_
  show wT X t σ H fun b H1 => if b = true then wSs X b1 D σ H1 else wSs X b2 D σ H1
  refine stt c t z tt X W g st H σE σ _ a.at_ ((h.toS a.at_.rf a.at_.wf).mono fun b st1 g1 H1 e1 wf1 rs1 h1 => ?_)
  have a1 := a.ext (e1.toM M) wf1 rs1 (a.at_.rf.ext a.at_.wf e1)
  cases b with
  | true => exact sss c fr lp M b1 xa ta X W g0 H0 g1 st1 H1 σE σ D a1 h1
  | false => exact sss c fr lp M b2 xb tb X W g0 H0 g1 st1 H1 σE σ D a1 h1
theorem s_aug (se : SE T n d) {id : Str} {p pos : Pos} {i : Nat} {op : Bo} {e : Expr} {x : Ex} (h1 : c.N[i]? = some id) (h2 : LocS c.sc id) (h3 : i ∉ c.own) (h4 : i ∉ c.bor) (hop : aop op = true) (te : TrE T c e x)
    (a : AtS T d c lp M X W g0 H0 g st H σE σ) (h : PoS T c fr M g0 H0 g H W D ((getv σE i st).toS σE fun x' st => (evE T.G n d σE st x).toS σE fun y st => match binop op x' y with | some (.int j) => .ok .nx (σE.set i (some (.int j))) st | _ => .err)) : wS X (.AugAssign (.Name id p) (bopOf op) e pos) D σ H := by
  obtain ⟨w, ew, h⟩ := getv_some (h.toS a.at_.rf a.at_.wf)
  have h := h.ok a.at_.wf a.at_.rst
  obtain ⟨v, e2, r⟩ := a.at_.rf.at_ i w ew
  have key : wE X e σ H fun y H1 => ∃ j k l, v = .int j ∧ y = .int k ∧ (op = .add → l = j + k) ∧ (op = .sub → l = j - k) ∧ D.nx (σ.set i (some (.int l))) H1 := by
    refine se.bo te a.at_ (h.toS a.at_.rf a.at_.wf) fun w1 st1 g1 H1 v1 a1 e1 r1 h1 => ?_
    have fin : ∀ l, PoS T c fr M g0 H0 g1 H1 W D (.ok .nx (σE.set i (some (.int l))) st1) → D.nx (σ.set i (some (.int l))) H1 := fun l h => h g1 H1 _ .refl a1.wf a1.rst (a1.rf.setZ h3 h4 (.int l))
    cases op with
    | add =>
      cases w with
      | int j =>
        cases w1 with
        | int k => exact ⟨j, k, j + k, r.r.int, r1.int, fun _ => rfl, nofun, fin _ h1⟩
        | _ => exact h1.elim
      | tup us =>
        cases w1 with
        | tup us' =>
          simp only [binop] at h1
          cases hb : Nat.ble (us.length + us'.length) 16777216 <;> rw [hb] at h1 <;> exact h1.elim
        | _ => exact h1.elim
      | lst us =>
        cases w1 with
        | lst us' =>
          simp only [binop] at h1
          cases hb : Nat.ble (us.length + us'.length) 16777216 <;> rw [hb] at h1 <;> exact h1.elim
        | _ => exact h1.elim
      | _ => exact h1.elim
    | sub =>
      cases w with
      | int j =>
        cases w1 with
        | int k => exact ⟨j, k, j - k, r.r.int, r1.int, nofun, fun _ => rfl, fin _ h1⟩
        | _ => exact h1.elim
      | _ => cases w1 <;> exact h1.elim
    | _ => exact nomatch hop
  cases op with
  | add =>
    refine (ps_aug (i := i) a.nd (a.slot h1) (a.loc h2) pe_w ip_add (.inl (a.fn id))).w ⟨v, e2, ?_⟩
    intro pins s I
    refine thn (key pins s I) fun u s1 ⟨y, H1, I1, ry, j, k, l, q1, q2, q3, _, q5⟩ => ⟨y, H1, I1, ry, j, k, q1, q2, ?_⟩
    show D.nx (σ.set i (some (.int (j + k)))) H1
    rw [← q3 rfl]; exact q5
  | sub =>
    refine (ps_aug (i := i) a.nd (a.slot h1) (a.loc h2) pe_w ip_sub (.inl (a.fn id))).w ⟨v, e2, ?_⟩
    intro pins s I
    refine thn (key pins s I) fun u s1 ⟨y, H1, I1, ry, j, k, l, q1, q2, _, q4, q5⟩ => ⟨y, H1, I1, ry, j, k, q1, q2, ?_⟩
    show D.nx (σ.set i (some (.int (j - k)))) H1
    rw [← q4 rfl]; exact q5
  | _ => exact nomatch hop
/-! ### a slot's own list or dict changes -/
theorem mutG_mo {K : PySem.W.Frag} {A : Addr} {o0 o : HO} (hA : H A = some o0) (l : LD o0) (ht : g.ow A ≠ some .sh) : Mo K g H g (upd H A o) where
  sh := fun _ h => h
  lst := fun a u q t => by rw [upd_ne (fun z => ht (by rw [← z]; exact t))]; exact q
  frz := fun a x u q => by rw [upd_ne (ne_of q hA (fun z => l.2.1 _ _ z.symm))]; exact q
  tup := fun a xs q => by rw [upd_ne (ne_of q hA (fun z => l.1 _ z.symm))]; exact q
  io := fun _ _ h => h
  lam := rfl
  ext := fun a φ q => by rw [upd_ne (ne_of q hA (fun z => l.2.2.2 _ z.symm))]; exact q
theorem mutG_st {A : Addr} {o0 o : HO} (hA : H A = some o0) (l : LD o0) (ht : g.ow A ≠ some .sh) (hf : notFld (g.ow A)) (r : RelSt T g st H) : RelSt T g st (upd H A o) :=
  ⟨r.len, fun n ob e => let ⟨x, dx, fs, h1, h2, h3⟩ := r.ob n ob e
    ⟨x, dx, fs, h1, by rw [upd_ne (ne_of h2 hA (fun z => l.2.2.1 _ _ _ z.symm))]; exact h2, h3.mo (mutG_mo hA l ht) fun a u f q t => by rw [upd_ne (fun z => hf n f (by rw [← z]; exact t))]; exact q⟩, r.inj, r.na, r.lam, r.tb.upd hf hA l.2.2.2⟩
theorem mutG_wf {A : Addr} {o : HO} (l : LD o) (wf : Wf g H) : Wf g (upd H A o) := fun a t h => by
  obtain ⟨o', q, l'⟩ := wf a t h
  by_cases e : a = A
  · subst e; exact ⟨_, upd_same, l⟩
  · exact ⟨o', by rw [upd_ne e]; exact q, l'⟩
theorem mutG_ext {A : Addr} {o0 o : HO} {i : Nat} (hA : H A = some o0) (l : LD o0) (ht : g.ow A = some (.sl i)) (hi : i ∈ M) : ExtM M g H g (upd H A o) where
  tag := fun _ _ h => h
  nt := fun _ _ _ h => h
  keep := fun a u q n m _ => by rw [upd_ne (fun z => m i hi (by rw [z]; exact ht))]; exact q
  ins := fun a C dx fs q => ⟨fs, by rw [upd_ne (ne_of q hA (fun z => l.2.2.1 _ _ _ z.symm))]; exact q⟩
  there := fun a u q => by
    by_cases e : a = A
    · subst e; exact ⟨_, upd_same⟩
    · exact ⟨u, by rw [upd_ne e]; exact q⟩
  io := fun _ _ h => h
  lam := rfl
theorem RootO.mut {K : PySem.W.Frag} {A : Addr} {o0 o : HO} {i : Nat} {t : Option Tag} {w : Pv.W} {v : V} (hA : H A = some o0) (l : LD o0) (hA2 : g.ow A = some (.sl i)) (ht : t ≠ some (.sl i)) (r : RootO K g H t w v) : RootO K g (upd H A o) t w v := by
  have m : Mo K g H g (upd H A o) := mutG_mo hA l (by rw [hA2]; exact nofun)
  cases r with
  | @lst b vs ws h1 h2 h3 => exact .lst (by rw [upd_ne (fun z => ht (by rw [← h2, z]; exact hA2))]; exact h1) h2 (h3.mo m)
  | @dic b kvs ks ws h1 h2 k h3 => exact .dic (by rw [upd_ne (fun z => ht (by rw [← h2, z]; exact hA2))]; exact h1) h2 k (h3.mo m)
theorem RelF.mut {A : Addr} {o0 o : HO} {i : Nat} {w : Pv.W} (rf : RelF T c g H σE σ) (ho : i ∈ c.own) (hσ : σ[i]? = some (some (.ref A))) (hA : H A = some o0) (l : LD o0) (hA2 : g.ow A = some (.sl i))
    (r : RootO T.K g (upd H A o) (some (.sl i)) w (.ref A)) : RelF T c g (upd H A o) (σE.set i (some w)) σ := by
  have m : Mo T.K g H g (upd H A o) := mutG_mo hA l (by rw [hA2]; exact nofun)
  refine ⟨by rw [List.length_set]; exact rf.len, fun j u hj => ?_⟩
  by_cases hij : i = j
  · subst hij
    have hl : i < σE.length := by rw [rf.len]; exact (List.getElem?_eq_some_iff.mp hσ).1
    rw [List.getElem?_set_self hl] at hj
    cases hj
    exact ⟨_, hσ, by unfold SlR; rw [if_pos ho]; exact .inr r⟩
  · rw [List.getElem?_set_ne hij] at hj
    obtain ⟨v, e1, r1⟩ := rf.at_ j u hj
    refine ⟨v, e1, ?_⟩
    unfold SlR at r1 ⊢
    split
    · rename_i h1; rw [if_pos h1] at r1
      rcases r1 with ⟨q1, q2⟩ | q
      · exact .inl ⟨q1, q2.mo m⟩
      · exact .inr (q.mut hA l hA2 (fun z => hij (by injection z with z; injection z with z; exact z.symm)))
    · rename_i h1; rw [if_neg h1] at r1
      split
      · rename_i h2; rw [if_pos h2] at r1
        rcases r1 with q | ⟨t, q1, q2, q⟩
        · exact .inl (q.mo m)
        · exact .inr ⟨t, q1, q2, q.mut hA l hA2 (q2 i)⟩
      · rename_i h2; rw [if_neg h2] at r1
        exact r1.mo m
/-- the list of a slot of the def alone -/
theorem AtS.ownL {i : Nat} {w : Pv.W} (a : At T d c X W g st H σE σ) (ho : i ∈ c.own) (hw : σE[i]? = some (some w)) : ∃ v, σ[i]? = some (some v) ∧ ∀ ws, w = .lst ws → ∃ A vs, v = .ref A ∧ H A = some (.lst vs) ∧ g.ow A = some (.sl i) ∧ RelZs T.K g H ws vs := by
  obtain ⟨v, e1, r⟩ := a.rf.at_ i w hw
  refine ⟨v, e1, fun ws e => ?_⟩
  subst e
  unfold SlR at r
  rw [if_pos ho] at r
  rcases r with ⟨q, _⟩ | r
  · exact nomatch q
  · cases r with | lst h1 h2 h3 => exact ⟨_, _, rfl, h1, h2, h3⟩
theorem RelZs.reverse {K : PySem.W.Frag} {g : Gh} {H : Hp} : ∀ {ws : List Pv.W} {vs : List V}, RelZs K g H ws vs → RelZs K g H ws.reverse vs.reverse
  | _, _, .nil => .nil
  | _, _, .cons h t => by rw [List.reverse_cons, List.reverse_cons]; exact t.reverse.append (.cons h .nil)
theorem s_app (se : SE T n d) {id : Str} {p ap cp pos : Pos} {i : Nat} {e : Expr} {x : Ex} (h1 : c.N[i]? = some id) (h2 : VisS c.sc id) (h3 : (id == ("__debug__" : Str)) = false) (h4 : (id == ("__classdict__" : Str)) = false) (h5 : i ∈ c.own) (h6 : i ∈ M) (te : TrE T c e x) (ho : isO x = false) (hl : (ap.endLine == cp.line) = true)
    (a : AtS T d c lp M X W g0 H0 g st H σE σ) (h : PoS T c fr M g0 H0 g H W D ((getv σE i st).toS σE fun x' st => match x' with
      | .lst ws => (evE T.G n d σE st x).toS σE fun y st => bif small (ws.length + 1) then .ok .nx (σE.set i (some (.lst (ws ++ [y])))) st else .err
      | _ => .err)) : wS X (.Expr (.Call (.Attribute (.Name id p) "append" ap) [e] [] cp) pos) D σ H := by
  obtain ⟨w, ew, h⟩ := getv_some (h.toS a.at_.rf a.at_.wf)
  have h := h.ok a.at_.wf a.at_.rst
  obtain ⟨v, e1, hown⟩ := AtS.ownL a.at_ h5 ew
  cases w with
  | lst ws =>
    obtain ⟨A, vs, rfl, hA, hT, z⟩ := hown ws rfl
    refine (ps_expr (pe_bm PySem.F.plainAttrs_list PySem.F.slot_list_append PySem.F.type_list_append mt_append (pe_var (i := i) (a.slot h1) (by rw [a.at_.ctx.sc]; exact h2) h3 h4) pa_w rfl (by rw [star_ok te]; rfl) hl (star_ok te [] X.env) rfl) rfl).w ?_
    show ∃ v, σ[i]? = some (some v) ∧ tyV X.K "list" v H ∧ wA X [e] σ H fun xs H2 => rAppend v xs H2 fun _ H3 => D.nx σ H3
    refine ⟨_, e1, .inl ⟨rfl, vs, .of hA⟩, ?_⟩
    refine (pa_cons pe_w pa_nil (star_ok te [] X.env)).w ?_
    show wE X e σ H fun v1 H1 => rAppend (.ref A) [v1] H1 fun _ H3 => D.nx σ H3
    refine se.lk te ho a.at_ (h.toS a.at_.rf a.at_.wf) fun w1 st1 g1 H1 v1 a1 e2 r1 h1 => ?_
    have hA1 : H1 A = some (.lst vs) := e2.keep A _ hA (by rw [hT]; exact notFld_sl i) (fun _ _ _ z => by cases z)
    have hT1 : g1.ow A = some (.sl i) := e2.tag A _ hT
    have z1 := z.mo (e2.mo a.at_.wf)
    cases hs : small (ws.length + 1) with
    | false => rw [hs] at h1; exact h1.elim
    | true =>
      rw [hs] at h1
      have hs := Nat.le_of_ble_eq_true hs
      have n1 : g1.ow A ≠ some .sh := by rw [hT1]; exact nofun
      refine ⟨A, vs, v1, rfl, rfl, hA1, by rw [sizeLine_eq, ← z1.length]; omega, ?_⟩
      refine (show PoS T c fr M g0 H0 g1 H1 W D (.ok .nx (σE.set i (some (.lst (ws ++ [w1])))) st1) from h1) g1 _ σ (mutG_ext hA1 LD_lst hT1 h6) (mutG_wf LD_lst a1.wf) (mutG_st hA1 LD_lst n1 (by rw [hT1]; exact notFld_sl i) a1.rst) ?_
      exact a1.rf.mut h5 e1 hA1 LD_lst hT1 (.lst upd_same hT1 ((z1.append (.cons r1 .nil)).mo (mutG_mo hA1 LD_lst n1)))
  | _ => exact h.elim
theorem s_rev {id : Str} {p ap cp pos : Pos} {i : Nat} (h1 : c.N[i]? = some id) (h2 : VisS c.sc id) (h3 : (id == ("__debug__" : Str)) = false) (h4 : (id == ("__classdict__" : Str)) = false) (h5 : i ∈ c.own) (h6 : i ∈ M) (hl : (ap.endLine == cp.line) = true)
    (a : AtS T d c lp M X W g0 H0 g st H σE σ) (h : PoS T c fr M g0 H0 g H W D ((getv σE i st).toS σE fun x' st => match x' with
      | .lst ws => .ok .nx (σE.set i (some (.lst ws.reverse))) st
      | _ => .err)) : wS X (.Expr (.Call (.Attribute (.Name id p) "reverse" ap) [] [] cp) pos) D σ H := by
  obtain ⟨w, ew, h⟩ := getv_some (h.toS a.at_.rf a.at_.wf)
  have h := h.ok a.at_.wf a.at_.rst
  obtain ⟨v, e1, hown⟩ := AtS.ownL a.at_ h5 ew
  cases w with
  | lst ws =>
    obtain ⟨A, vs, rfl, hA, hT, z⟩ := hown ws rfl
    refine (ps_expr (pe_bm0 PySem.F.plainAttrs_list PySem.F.slot_list_reverse PySem.F.type_list_reverse mt_reverse (pe_var (i := i) (a.slot h1) (by rw [a.at_.ctx.sc]; exact h2) h3 h4) rfl hl) rfl).w ?_
    show ∃ v, σ[i]? = some (some v) ∧ tyV X.K "list" v H ∧ rReverse v [] H fun _ H3 => D.nx σ H3
    have n1 : g.ow A ≠ some .sh := by rw [hT]; exact nofun
    refine ⟨_, e1, .inl ⟨rfl, vs, .of hA⟩, A, vs, rfl, rfl, hA, ?_⟩
    refine (show PoS T c fr M g0 H0 g H W D (.ok .nx (σE.set i (some (.lst ws.reverse))) st) from h) g _ σ (mutG_ext hA LD_lst hT h6) (mutG_wf LD_lst a.at_.wf) (mutG_st hA LD_lst n1 (by rw [hT]; exact notFld_sl i) a.at_.rst) ?_
    exact a.at_.rf.mut h5 e1 hA LD_lst hT (.lst upd_same hT (z.reverse.mo (mutG_mo hA LD_lst n1)))
  | _ => exact h.elim
end
end Pv
end

section
set_option Elab.async false
set_option linter.all false
set_option maxRecDepth 100000
namespace Pv
open PySem PySem.Spec PyProof.Rows L2
section
variable {T : Tb} {n d : Nat} {c : Cfg} {X : Cx} {W : WX} {g g' : Gh} {st : Sto} {H H' : Hp} {σE : Fr} {σ : L2.St} {sc' : Scope}
/-- a tag is taken back -/
def Gh.clr (g : Gh) (A : Addr) : Gh := { g with ow := fun b => if b = A then none else g.ow b }
theorem clr_same {A : Addr} : (g.clr A).ow A = none := if_pos rfl
theorem clr_ne {A b : Addr} (h : b ≠ A) : (g.clr A).ow b = g.ow b := if_neg h
theorem clr_mo {K : PySem.W.Frag} {A : Addr} {m : Nat} (hA : g.ow A = some (.sl m)) : Mo K g H (g.clr A) H where
  sh := fun b q => by rw [clr_ne (fun z => by rw [z, hA] at q; cases q)]; exact q
  lst := fun _ _ h _ => h
  frz := fun _ _ _ h => h
  tup := fun _ _ h => h
  io := fun _ _ h => h
  lam := rfl
  ext := fun _ _ h => h
theorem clr_ext {A : Addr} (e : Ext g H g' H') (h : H A = none) (wf : Wf g H) : Ext g H (g'.clr A) H' where
  tag := fun b t q => by
    have hb : b ≠ A := fun z => by rw [z, wf.no h] at q; cases q
    rw [clr_ne hb]; exact e.tag b t q
  nt := fun b o q n => by rw [clr_ne (ne_of_none q h)]; exact e.nt b o q n
  keep := e.keep
  ins := e.ins
  there := e.there
  io := e.io
  lam := e.lam
theorem clr_wf {A : Addr} (wf : Wf g H) : Wf (g.clr A) H := fun b t q => by
  by_cases hb : b = A
  · subst hb; rw [clr_same] at q; cases q
  · rw [clr_ne hb] at q; exact wf b t q
theorem FsR.clr {A : Addr} {m nn : Nat} (hA : g.ow A = some (.sl m)) : ∀ {fs : List (Nat × Pv.W)} {vs : List (Str × V)}, FsR T g H nn fs vs → FsR T (g.clr A) H nn fs vs
  | _, _, .nil => .nil
  | _, _, .cons r rs => .cons (by
      rcases r with r | ⟨o, r⟩
      · exact .inl (r.mo (clr_mo hA))
      · refine .inr ⟨o, ?_⟩
        cases r with
        | @lst b vs ws h1 h2 h3 => exact .lst h1 (by rw [clr_ne (fun z => by rw [z, hA] at h2; cases h2)]; exact h2) (h3.mo (clr_mo hA))
        | @dic b kvs ks ws h1 h2 k h3 => exact .dic h1 (by rw [clr_ne (fun z => by rw [z, hA] at h2; cases h2)]; exact h2) k (h3.mo (clr_mo hA))) (FsR.clr hA rs)
theorem RelSt.clr {A : Addr} {m : Nat} (hA : g.ow A = some (.sl m)) (r : RelSt T g st H) : RelSt T (g.clr A) st H :=
  ⟨r.len, fun n o e => let ⟨x, dx, fs, h1, h2, h3⟩ := r.ob n o e; ⟨x, dx, fs, h1, h2, h3.clr hA⟩, r.inj, r.na, r.lam, r.tb.ow fun p n f q => by rw [clr_ne (fun z => by rw [z, hA] at q; cases q)]; exact q⟩
theorem RelF.extM {M : List Nat} (hM : ∀ i, i ∈ M → i ∉ c.own) (wf : Wf g H) (e : ExtM M g H g' H') (r : RelF T c g H σE σ) : RelF T c g' H' σE σ :=
  ⟨r.len, fun i w h => let ⟨v, h1, h2⟩ := r.at_ i w h; ⟨v, h1, by
    unfold SlR at h2 ⊢
    split
    · rename_i ho; rw [if_pos ho] at h2
      rcases h2 with ⟨q1, q2⟩ | q
      · exact .inl ⟨q1, q2.mo (e.mo wf)⟩
      · exact .inr (q.extM wf e (notFld_sl i) fun j hj z => hM j hj (by injection z with z; injection z with z; rw [← z]; exact ho))
    · rename_i ho; rw [if_neg ho] at h2
      split
      · rename_i hb; rw [if_pos hb] at h2
        rcases h2 with q | ⟨t, q1, q2, q⟩
        · exact .inl (q.mo (e.mo wf))
        · exact .inr ⟨t, q1, q2, q.extM wf e q1 fun j _ => q2 j⟩
      · rename_i hb; rw [if_neg hb] at h2
        exact h2.mo (e.mo wf)⟩⟩
/-- the two loops' state: the list at D grows; M: what may change meanwhile -/
structure L2I (T : Tb) (d s : Nat) (g1 : Gh) (H1 : Hp) (M : List Nat) (gb : Gh) (Hb : Hp) (D : Addr) (σw : Fr) (t : Tg) (is : List Ex) (gs : List Gn) (x : Ex) (stE : Sto) (total ys : List Pv.W) (N : Nat) (rest : List Pv.W) (Hc : Hp) : Prop where
  ex : ∃ (k : Nat) (gc : Gh) (stc : Sto) (acc : List V) (accW zs : List Pv.W), k ≤ N ∧ Ext g1 H1 gc Hc ∧ ExtM M gb Hb gc Hc ∧ Wf gc Hc ∧ RelSt T gc stc Hc ∧ Hc D = some (.lst acc) ∧ gc.ow D = some (.sl s) ∧ RelZs T.K gc Hc accW acc ∧
    evGL T.G k d σw stc t rest is gs x = .ok zs stE ∧ accW ++ (zs ++ ys) = total
theorem app2 {s : Nat} {D : Addr} {acc : List V} {accW : List Pv.W} {w : Pv.W} {v : V} (wf : Wf g H) (rs : RelSt T g st H) (hD : H D = some (.lst acc)) (ht : g.ow D = some (.sl s)) (z : RelZs T.K g H accW acc) (r : RelZ T.K g H w v) :
    Wf g (upd H D (.lst (acc ++ [v]))) ∧ RelSt T g st (upd H D (.lst (acc ++ [v]))) ∧ RelZs T.K g (upd H D (.lst (acc ++ [v]))) (accW ++ [w]) (acc ++ [v]) := by
  have n1 : g.ow D ≠ some .sh := by rw [ht]; exact nofun
  exact ⟨mutG_wf LD_lst wf, mutG_st hD LD_lst n1 (by rw [ht]; exact notFld_sl s) rs, (z.append (.cons r .nil)).mo (mutG_mo hD LD_lst n1)⟩
theorem evG_one {G : Gb} {x : Ex} {t : Tg} {it : Ex} {is : List Ex} {ws : List Pv.W} {st' : Sto} (h : evG G n d σE st [.mk t it is] x = .ok ws st') : ∃ m us st1, n = m + 1 ∧ evI G m d σE st it = .ok us st1 ∧ evGL G m d (wipeF σE (tgS t)) st1 t us is [] x = .ok ws st' := by
  cases n with
  | zero => rw [evG.eq_def] at h; exact nomatch h
  | succ m =>
    simp only [evG] at h
    obtain ⟨us, st1, h1, h2⟩ := R.bind_ok h
    exact ⟨m, us, st1, rfl, h1, h2⟩
theorem tLc2_ok (se : ∀ m, m ≤ n → SE T m d) (stt : ∀ m, m ≤ n → STt T m d) (si : ∀ m, m ≤ n → SI T m d) {elt tg iter tg1 iter1 : Expr} {ifs ifs1 : List Expr} {own : List (Str × Nat)} {x : Ex} {t t1 : Tg} {it it1 : Ex} {is is1 : List Ex} {Q : VK}
    (hi : TrI T c [] iter it) (hv : own.map (·.2) = tgS t ++ tgS t1) (hN : c.N.length ∉ c.own)
    (ht : TrTg T { c with sc := relS sc' c.sc, fn := false, lq := none } tg t) (hifs : TrTs T { c with sc := relS sc' c.sc, fn := false, lq := none } ifs is) (hil : is.length ≤ 1)
    (hi1 : TrI T { c with sc := relS sc' c.sc, fn := false, lq := none } [c.N.length] iter1 it1) (ht1 : TrTg T { c with sc := relS sc' c.sc, fn := false, lq := none } tg1 t1) (hifs1 : TrTs T { c with sc := relS sc' c.sc, fn := false, lq := none } ifs1 is1) (hil1 : is1.length ≤ 1) (he : TrE T { c with sc := relS sc' c.sc, fn := false, lq := none } elt x) (ho : isO x = false)
    (a : At T d c X W g st H σE σ) (h : Po T g H W σ (fun w st' g' H' => ∀ v, RelFr T.K H g' H' w v → Q v H') (((evGs T.G n d σE st [.mk t it is, .mk t1 it1 is1] x).bind fun ws st => bif small ws.length then .ok (.lst ws) st else .err).noexc)) :
    tLc2 (wI X tg iter) (wGb X sc' tg) (wTsb X sc' ifs) (wIb X sc' tg1 iter1) (wGb X sc' tg1) (wTsb X sc' ifs1) (wEb X sc' elt) (own.map (·.2)) (tgS t1) σ H Q := by
  have a0 : At T d c X (fun _ _ _ _ => False) g st H σE σ := ⟨a.ctx, takes_no, a.wf, a.rst, a.rf⟩
  have h0 := noexc_po (W' := fun _ _ _ _ => False) (σ' := σ) h
  cases hr : (evGs T.G n d σE st [.mk t it is, .mk t1 it1 is1] x).bind fun ws st => bif small ws.length then R.ok (Pv.W.lst ws) st else .err with
  | err => rw [hr] at h0; exact h0.elim
  | exc ci pl st' => rw [hr] at h; exact h.elim
  | ok wL stE =>
    rw [hr] at h0
    obtain ⟨total, stE', hg, hsm⟩ := R.bind_ok hr
    have hsm2 : small total.length = true ∧ wL = .lst total ∧ stE' = stE := by
      cases q : small total.length with
      | false => rw [q] at hsm; exact nomatch hsm
      | true => rw [q] at hsm; injection hsm with q1 q2; exact ⟨rfl, q1.symm, q2⟩
    obtain ⟨hsz, rfl, rfl⟩ := hsm2
    have hsz : total.length ≤ sizeLine := by rw [sizeLine_eq]; exact Nat.le_of_ble_eq_true hsz
    cases n with
    | zero => rw [evGs.eq_def] at hg; exact nomatch hg
    | succ n =>
      simp only [evGs, gnS, List.append_nil] at hg
      obtain ⟨ws, st1, hws, hgl⟩ := R.bind_ok hg
      rw [hv]
      refine si n (Nat.le_succ n) c [] iter it hi tg X _ g st H σE σ _ a0 ((Po.of_ok hws).mono fun ws' st1' g1 H1 e1 wf1 rs1 ⟨q1, q2⟩ J hJ => ?_)
      subst q1 q2
      intro D hD
      have hD0 : H D = none := e1.free hD
      have hDw : g1.ow D = none := wf1.no hD
      refine ⟨fun i m Hc => m = ws'.length - i ∧ i ≤ ws'.length ∧ L2I T d c.N.length g1 H1 [] g1 H1 D (wipeF σE (tgS t ++ tgS t1)) t is [.mk t1 it1 is1] x stE' total [] n (ws'.drop i) Hc,
        ⟨_, rfl, Nat.zero_le _, ⟨n, g1.put D (.sl c.N.length), st1', [], [], total, Nat.le_refl _, put_ext (.new hD) hD wf1, (put_ext (.new hD) hD wf1).toM [], put_wf (wf1.new hD) upd_same LD_lst, (rs1.new hD).put hDw, upd_same, Gh.put_same, .nil, hgl, by simp⟩⟩, ?_⟩
      rintro i m Hc ⟨rfl, hil2, ⟨k, gc, stc, acc, accW, zs, hk, ec, _, wfc, rsc, hDc, htc, zc, hev, htot⟩⟩
      rw [List.append_nil] at htot
      obtain ⟨hgo, hstop⟩ := hJ i gc Hc (ec.toM _) wfc
      by_cases hlt : i < ws'.length
      · right
        have hdrop : ws'.drop i = ws'[i] :: ws'.drop (i + 1) := List.drop_eq_getElem_cons hlt
        obtain ⟨hg1, hyld⟩ := hgo ws'[i] (List.getElem?_eq_getElem hlt)
        refine ⟨hg1, L2I T d c.N.length g1 H1 [] g1 H1 D (wipeF σE (tgS t ++ tgS t1)) t is [.mk t1 it1 is1] x stE' total [] n (ws'.drop (i + 1)), fun H' q => ⟨_, by omega, rfl, hlt, q⟩, fun y H' hy => ?_⟩
        obtain ⟨g2, e2, wf2, rs2, rz⟩ := hyld y H' hy
        have rs2 := rs2 stc rsc
        rw [hdrop] at hev
        cases k with
        | zero => rw [evGL_0] at hev; exact nomatch hev
        | succ k =>
          rw [evGL_cons] at hev
          obtain ⟨σ1, st2, hasg, hev⟩ := R.bind_ok hev
          obtain ⟨b, st3, htst, hev⟩ := R.bind_ok hev
          have hst := ((asg_pure { c with sc := relS sc' c.sc, fn := false, lq := none } k).1 tg t _ _ _ ht).2 _ _ hasg
          subst hst
          intro s0 H0 C cl fp
          have aw : At T d { c with sc := relS sc' c.sc, fn := false, lq := none } (X.blk s0 H0 sc' (compEnvC sc' cl C X.env) fp) (fun _ _ _ _ => False) g2 st2 H' (wipeF σE (tgS t ++ tgS t1)) (wipe σ (tgS t ++ tgS t1)) :=
            ⟨blk_ctx a.ctx s0 H0 C cl fp, takes_no, wf2, rs2, RelF.cfg (c := c) (c' := { c with sc := relS sc' c.sc, fn := false, lq := none }) rfl rfl ((((a.rf.ext a.wf e1).ext wf1 ec).ext wfc e2).wipe (tgS t ++ tgS t1))⟩
          have k1 := (tg_both (d := d) { c with sc := relS sc' c.sc, fn := false, lq := none } (X.blk s0 H0 sc' (compEnvC sc' cl C X.env) fp) (fun _ _ _ _ => False) g2 st2 H' k).1 tg t (wipeF σE (tgS t ++ tgS t1)) (wipe σ (tgS t ++ tgS t1)) ws'[i] y ht aw rz
          rw [hasg] at k1
          refine k1.2 _ fun σ2 rf2 hl2 hs2 => ⟨?_, ?_⟩
          · have := wipe_same (σ := wipe σ (tgS t ++ tgS t1)) (σ' := σ2) hl2 (vs := tgS t ++ tgS t1) fun j hj => hs2 j fun z => hj (List.mem_append_left _ z)
            rw [this]
            exact wipe_same (wipe_length σ (tgS t ++ tgS t1)) fun j hj => wipe_out hj
          intro s0 H0 C cl fp
          have aw2 : At T d { c with sc := relS sc' c.sc, fn := false, lq := none } (X.blk s0 H0 sc' (compEnvC sc' cl C X.env) fp) (fun _ _ _ _ => False) g2 st2 H' σ1 σ2 := ⟨blk_ctx a.ctx s0 H0 C cl fp, takes_no, wf2, rs2, rf2⟩
          refine ifs_ok (n := k) (fun m hm => stt m (by omega)) hifs hil aw2 ((Po.of_ok htst).mono fun b' st3' g3 H3 e3 wf3 rs3 ⟨q1, q2⟩ => ?_)
          subst q1 q2
          have hD2 : H' D = some (.lst acc) := e2.keep D _ hDc (by rw [htc]; exact notFld_sl _) (fun _ _ _ z => by cases z)
          have ht2 : g2.ow D = some (.sl c.N.length) := e2.tag D _ htc
          have hD3 : H3 D = some (.lst acc) := e3.keep D _ hD2 (by rw [ht2]; exact notFld_sl _) (fun _ _ _ z => by cases z)
          have ht3 : g3.ow D = some (.sl c.N.length) := e3.tag D _ ht2
          have z3 : RelZs T.K g3 H3 accW acc := (zc.mo (e2.mo wfc)).mo (e3.mo wf2)
          have ec3 : Ext g1 H1 g3 H3 := (ec.trans e2).trans e3
          cases b' with
          | false => exact iteF ⟨k, g3, st3', acc, accW, zs, by omega, ec3, ec3.toM [], wf3, rs3, hD3, ht3, z3, hev, by rw [List.append_nil]; exact htot⟩
          | true =>
            refine iteT ?_
            intro s0 H0 C cl fp
            obtain ⟨xs, st4, hx, hev⟩ := R.bind_ok hev
            obtain ⟨ys, st5, hys, hev⟩ := R.bind_ok hev
            injection hev with q1 q2
            subst q1 q2
            obtain ⟨k', us, st6, hk', hus, hin⟩ := evG_one hx
            have aw3 : At T d { c with sc := relS sc' c.sc, fn := false, lq := none } (X.blk s0 H0 sc' (compEnvC sc' cl C X.env) fp) (fun _ _ _ _ => False) g3 st3' H3 σ1 σ2 := ⟨blk_ctx a.ctx s0 H0 C cl fp, takes_no, wf3, rs3, rf2.ext wf2 e3⟩
            refine si k' (by omega) { c with sc := relS sc' c.sc, fn := false, lq := none } [c.N.length] iter1 it1 hi1 tg1 (X.blk s0 H0 sc' (compEnvC sc' cl C X.env) fp) _ g3 st3' H3 σ1 σ2 _ aw3 ((Po.of_ok hus).mono fun us' st6' g4 H4 e4 wf4 rs4 ⟨q1, q2⟩ J1 hJ1 => ?_)
            subst q1 q2
            have hD4 : H4 D = some (.lst acc) := e4.keep D _ hD3 (by rw [ht3]; exact notFld_sl _) (fun _ _ _ z => by cases z)
            have ht4 : g4.ow D = some (.sl c.N.length) := e4.tag D _ ht3
            refine ⟨fun j m H5 => m = us'.length - j ∧ j ≤ us'.length ∧ L2I T d c.N.length g1 H1 [c.N.length] g4 H4 D (wipeF σ1 (tgS t1)) t1 is1 [] x st4 total ys k' (us'.drop j) H5,
              ⟨_, rfl, Nat.zero_le _, ⟨k', g4, st6', acc, accW, xs, Nat.le_refl _, ec3.trans e4, .refl, wf4, rs4, hD4, ht4, z3.mo (e4.mo wf3), hin, htot⟩⟩, ?_⟩
            rintro j m H5 ⟨rfl, hjl, ⟨kk, g5, st7, acc5, accW5, zs5, hkk, ec5, em5, wf5, rs5, hD5, ht5, z5, hev5, htot5⟩⟩
            obtain ⟨hgo1, hstop1⟩ := hJ1 j g5 H5 em5 wf5
            by_cases hlt1 : j < us'.length
            · right
              have hdrop1 : us'.drop j = us'[j] :: us'.drop (j + 1) := List.drop_eq_getElem_cons hlt1
              obtain ⟨hgg, hyld1⟩ := hgo1 us'[j] (List.getElem?_eq_getElem hlt1)
              refine ⟨hgg, L2I T d c.N.length g1 H1 [c.N.length] g4 H4 D (wipeF σ1 (tgS t1)) t1 is1 [] x st4 total ys k' (us'.drop (j + 1)), fun H' q => ⟨_, by omega, rfl, hlt1, q⟩, fun y6 H6 hy6 => ?_⟩
              obtain ⟨g6, e6, wf6, rs6, rz6⟩ := hyld1 y6 H6 hy6
              have rs6 := rs6 st7 rs5
              rw [hdrop1] at hev5
              cases kk with
              | zero => rw [evGL_0] at hev5; exact nomatch hev5
              | succ kk =>
                rw [evGL_cons] at hev5
                obtain ⟨σ6, st8, hasg6, hev5⟩ := R.bind_ok hev5
                obtain ⟨b6, st9, htst6, hev5⟩ := R.bind_ok hev5
                have hst6 := ((asg_pure { c with sc := relS sc' c.sc, fn := false, lq := none } kk).1 tg1 t1 _ _ _ ht1).2 _ _ hasg6
                subst hst6
                have rfb : RelF T { c with sc := relS sc' c.sc, fn := false, lq := none } g6 H6 (wipeF σ1 (tgS t1)) (wipe σ2 (tgS t1)) :=
                  ((RelF.extM (c := { c with sc := relS sc' c.sc, fn := false, lq := none }) (M := [c.N.length]) (fun q hq => by rw [List.mem_singleton.mp hq]; exact hN) wf4 em5 (aw3.rf.ext wf3 e4)).ext wf5 e6).wipe (tgS t1)
                intro s0 H0 C cl fp
                have aw6 : At T d { c with sc := relS sc' c.sc, fn := false, lq := none } (X.blk s0 H0 sc' (compEnvC sc' cl C X.env) fp) (fun _ _ _ _ => False) g6 st8 H6 (wipeF σ1 (tgS t1)) (wipe σ2 (tgS t1)) := ⟨blk_ctx a.ctx s0 H0 C cl fp, takes_no, wf6, rs6, rfb⟩
                have k6 := (tg_both (d := d) { c with sc := relS sc' c.sc, fn := false, lq := none } (X.blk s0 H0 sc' (compEnvC sc' cl C X.env) fp) (fun _ _ _ _ => False) g6 st8 H6 kk).1 tg1 t1 (wipeF σ1 (tgS t1)) (wipe σ2 (tgS t1)) us'[j] y6 ht1 aw6 rz6
                rw [hasg6] at k6
                refine k6.2 _ fun σ7 rf7 hl7 hs7 => ⟨?_, ?_⟩
                · have := wipe_same (σ := wipe σ2 (tgS t1)) (σ' := σ7) hl7 (vs := tgS t1) hs7
                  rw [this]
                  exact wipe_same (wipe_length σ2 (tgS t1)) fun q hq => wipe_out hq
                intro s0 H0 C cl fp
                have aw7 : At T d { c with sc := relS sc' c.sc, fn := false, lq := none } (X.blk s0 H0 sc' (compEnvC sc' cl C X.env) fp) (fun _ _ _ _ => False) g6 st8 H6 σ6 σ7 := ⟨blk_ctx a.ctx s0 H0 C cl fp, takes_no, wf6, rs6, rf7⟩
                refine ifs_ok (n := kk) (fun m hm => stt m (by omega)) hifs1 hil1 aw7 ((Po.of_ok htst6).mono fun b7 st9' g7 H7 e7 wf7 rs7 ⟨q1, q2⟩ => ?_)
                subst q1 q2
                have hD6 : H6 D = some (.lst acc5) := e6.keep D _ hD5 (by rw [ht5]; exact notFld_sl _) (fun _ _ _ z => by cases z)
                have ht6 : g6.ow D = some (.sl c.N.length) := e6.tag D _ ht5
                have hD7 : H7 D = some (.lst acc5) := e7.keep D _ hD6 (by rw [ht6]; exact notFld_sl _) (fun _ _ _ z => by cases z)
                have ht7 : g7.ow D = some (.sl c.N.length) := e7.tag D _ ht6
                have z7 : RelZs T.K g7 H7 accW5 acc5 := (z5.mo (e6.mo wf5)).mo (e7.mo wf6)
                have ec7 : Ext g1 H1 g7 H7 := (ec5.trans e6).trans e7
                have em7 : ExtM [c.N.length] g4 H4 g7 H7 := (em5.trans (e6.toM _)).trans (e7.toM _)
                cases b7 with
                | false => exact iteF ⟨kk, g7, st9', acc5, accW5, zs5, by omega, ec7, em7, wf7, rs7, hD7, ht7, z7, hev5, htot5⟩
                | true =>
                  refine iteT ?_
                  intro s0 H0 C cl fp
                  obtain ⟨xs8, st10, hx8, hev5⟩ := R.bind_ok hev5
                  obtain ⟨ys8, st11, hys8, hev5⟩ := R.bind_ok hev5
                  injection hev5 with q1 q2
                  subst q1 q2
                  obtain ⟨k8, w8, hk8, hw8, rfl⟩ := evG_nil hx8
                  have aw8 : At T d { c with sc := relS sc' c.sc, fn := false, lq := none } (X.blk s0 H0 sc' (compEnvC sc' cl C X.env) fp) (fun _ _ _ _ => False) g7 st9' H7 σ6 σ7 := ⟨blk_ctx a.ctx s0 H0 C cl fp, takes_no, wf7, rs7, rf7.ext wf6 e7⟩
                  refine (se k8 (by omega)).lk he ho aw8 (Po.of_ok hw8) fun w' st10' g9 H9 v a9 e9 r9 ⟨q1, q2⟩ => ?_
                  subst q1 q2
                  have hD9 : H9 D = some (.lst acc5) := e9.keep D _ hD7 (by rw [ht7]; exact notFld_sl _) (fun _ _ _ z => by cases z)
                  have ht9 : g9.ow D = some (.sl c.N.length) := e9.tag D _ ht7
                  have z9 : RelZs T.K g9 H9 accW5 acc5 := z7.mo (e9.mo wf7)
                  obtain ⟨p1, p2, p3⟩ := app2 a9.wf a9.rst hD9 ht9 z9 r9
                  refine ⟨acc5, hD9, ?_, ⟨kk, g9, st10', acc5 ++ [v], accW5 ++ [w'], ys8, by omega, (ec7.trans e9).updN hD, (em7.trans (e9.toM _)).trans (mutG_ext hD9 LD_lst ht9 (List.mem_singleton.mpr rfl)), p1, p2, upd_same, ht9, p3, hys8, by rw [← htot5]; simp⟩⟩
                  have := congrArg List.length htot5
                  simp only [List.length_append, List.length_cons] at this
                  have hzl := z9.length
                  omega
            · left
              have hje : j = us'.length := by omega
              refine ⟨hstop1 (by omega), ?_⟩
              rw [hje, List.drop_length] at hev5
              cases kk with
              | zero => rw [evGL_0] at hev5; exact nomatch hev5
              | succ kk =>
                rw [evGL_nil] at hev5
                injection hev5 with q1 q2
                subst q1 q2
                exact ⟨k, g5, _, acc5, accW5, ys, by omega, ec5, ec5.toM [], wf5, rs5, hD5, ht5, z5, hys, by rw [List.append_nil, ← htot5]; simp⟩
      · left
        have hi : i = ws'.length := by omega
        refine ⟨hstop (by omega), ?_⟩
        rw [hi, List.drop_length] at hev
        cases k with
        | zero => rw [evGL_0] at hev; exact nomatch hev
        | succ k =>
          rw [evGL_nil] at hev
          injection hev with q1 q2
          subst q1 q2
          rw [List.append_nil] at htot
          subst htot
          exact h0 (gc.clr D) Hc (clr_ext (e1.trans ec) hD0 a.wf) (clr_wf wfc) (rsc.clr htc) _ (.inr ⟨.lst hDc clr_same (zc.mo (clr_mo htc)), fun b z => by cases z; exact hD0⟩)
theorem s_comp2 (se : ∀ m, m ≤ n → SE T m d) (stt : ∀ m, m ≤ n → STt T m d) (si : ∀ m, m ≤ n → SI T m d) {elt tg iter tg1 iter1 : Expr} {ifs ifs1 : List Expr} {own : List (Str × Nat)} {x : Ex} {t t1 : Tg} {it it1 : Ex} {is is1 : List Ex} {pos : Pos} {Q : VK}
    (hi : TrI T c [] iter it) (hns : notSet iter = true) (ok : BlkOk c.N c.sc sc' own) (hv : own.map (·.2) = tgS t ++ tgS t1) (hN : c.N.length ∉ c.own)
    (ht : TrTg T { c with sc := relS sc' c.sc, fn := false, lq := none } tg t) (hifs : TrTs T { c with sc := relS sc' c.sc, fn := false, lq := none } ifs is) (hil : is.length ≤ 1)
    (hi1 : TrI T { c with sc := relS sc' c.sc, fn := false, lq := none } [c.N.length] iter1 it1) (hns1 : notSet iter1 = true) (ht1 : TrTg T { c with sc := relS sc' c.sc, fn := false, lq := none } tg1 t1) (hifs1 : TrTs T { c with sc := relS sc' c.sc, fn := false, lq := none } ifs1 is1) (hil1 : is1.length ≤ 1) (he : TrE T { c with sc := relS sc' c.sc, fn := false, lq := none } elt x) (ho : isO x = false)
    (a : At T d c X W g st H σE σ) (h : Po T g H W σ (fun w st' g' H' => ∀ v, RelFr T.K H g' H' w v → Q v H') (((evGs T.G n d σE st [.mk t it is, .mk t1 it1 is1] x).bind fun ws st => bif small ws.length then .ok (.lst ws) st else .err).noexc)) :
    wE X (.ListComp elt [⟨tg, iter, ifs, 0⟩, ⟨tg1, iter1, ifs1, 0⟩] sc' pos) σ H Q :=
  (pe_lc2 (wi := wI X tg iter) (g := wGb X sc' tg) (tt := wTsb X sc' ifs) (wi1 := wIb X sc' tg1 iter1) (g1 := wGb X sc' tg1) (tt1 := wTsb X sc' ifs1) (te := wEb X sc' elt) (own := own) (vs1 := tgS t1) a.ctx.calm (by rw [a.ctx.hN]; exact a.ctx.nd) pi_w (by rw [a.ctx.hN, a.ctx.sc]; exact ok)
        (fun i hi => by rw [hv]; exact List.mem_append_right _ hi)
        (fun s0 H0 C cl fp => ⟨fun pins s σ H v u Q I r hq => hq s0 H0 C cl fp pins s u I r⟩) (fun s0 H0 C cl fp => ⟨fun pins s σ H Q I hq => hq s0 H0 C cl fp pins s I⟩) (fun s0 H0 C cl fp => ⟨fun pins s σ H R I hq => hq s0 H0 C cl fp pins s I⟩)
        (fun s0 H0 C cl fp => ⟨fun pins s σ H v u Q I r hq => hq s0 H0 C cl fp pins s u I r⟩) (fun s0 H0 C cl fp => ⟨fun pins s σ H Q I hq => hq s0 H0 C cl fp pins s I⟩) (fun s0 H0 C cl fp => ⟨fun pins s σ H Q I hq => hq s0 H0 C cl fp pins s I⟩) (hfs_of hns X.env) (hfs_of hns1)).w
    (tLc2_ok se stt si hi hv hN ht hifs hil hi1 ht1 hifs1 hil1 he ho a h)
variable {fr lp : Bool} {M : List Nat} {g0 : Gh} {H0 : Hp} {D : Ends}
theorem s_setC2 (se : ∀ m, m ≤ n → SE T m d) (stt : ∀ m, m ≤ n → STt T m d) (si : ∀ m, m ≤ n → SI T m d) {elt tg iter tg1 iter1 : Expr} {ifs ifs1 : List Expr} {own : List (Str × Nat)} {x : Ex} {t t1 : Tg} {it it1 : Ex} {is is1 : List Ex} {y : Str} {py pos spos : Pos} {i : Nat} {tq : Tg}
    (hy : c.N[i]? = some y) (hyl : c.sc.names.lookup y = some .local) (hkd : c.sc.kind = .function) (hl : (py.line == pos.line) = true) (hno : (sc'.names.any fun (n, k) => n == y && (k == .local || k == .cell)) = false)
    (hq : (tq = .nm i ∧ i ∉ c.own ∧ i ∉ c.bor) ∨ (tq = .own i ∧ i ∈ c.own))
    (hi : TrI T c [] iter it) (hns : notSet iter = true) (ok : BlkOk c.N c.sc sc' own) (hv : own.map (·.2) = tgS t ++ tgS t1) (hN : c.N.length ∉ c.own)
    (ht : TrTg T { c with sc := relS sc' c.sc, fn := false, lq := none } tg t) (hifs : TrTs T { c with sc := relS sc' c.sc, fn := false, lq := none } ifs is) (hil : is.length ≤ 1)
    (hi1 : TrI T { c with sc := relS sc' c.sc, fn := false, lq := none } [c.N.length] iter1 it1) (hns1 : notSet iter1 = true) (ht1 : TrTg T { c with sc := relS sc' c.sc, fn := false, lq := none } tg1 t1) (hifs1 : TrTs T { c with sc := relS sc' c.sc, fn := false, lq := none } ifs1 is1) (hil1 : is1.length ≤ 1) (he : TrE T { c with sc := relS sc' c.sc, fn := false, lq := none } elt x) (ho : isO x = false)
    (a : AtS T d c lp M X W g0 H0 g st H σE σ) (h : PoS T c fr M g0 H0 g H W D (((((evGs T.G n d σE st [.mk t it is, .mk t1 it1 is1] x).bind fun ws st => bif small ws.length then .ok (.lst ws) st else .err).noexc)).toS σE fun w st => (asgT T.G (n + 1) d σE st tq w).toS σE fun σ st => .ok .nx σ st)) :
    wS X (.Assign [.Name y py] (.ListComp elt [⟨tg, iter, ifs, 0⟩, ⟨tg1, iter1, ifs1, 0⟩] sc' pos) spos) D σ H := by
  have cx := a.at_.ctx
  refine (ps_setLc2 (wi := wI X tg iter) (g := wGb X sc' tg) (tt := wTsb X sc' ifs) (wi1 := wIb X sc' tg1 iter1) (g1 := wGb X sc' tg1) (tt1 := wTsb X sc' ifs1) (te := wEb X sc' elt) (own := own) (vs1 := tgS t1) cx.calm (by rw [cx.hN]; exact cx.nd) (by rw [cx.hN]; exact hy) (by rw [cx.sc]; exact hyl)
        (sw_true (by rw [cx.sc]; exact hkd) (by rw [cx.sc]; exact hyl) hl hno) pi_w (by rw [cx.hN, cx.sc]; exact ok) (fun i hi => by rw [hv]; exact List.mem_append_right _ hi)
        (fun s0 H0 C cl fp => ⟨fun pins s σ H v u Q I r hq => hq s0 H0 C cl fp pins s u I r⟩) (fun s0 H0 C cl fp => ⟨fun pins s σ H Q I hq => hq s0 H0 C cl fp pins s I⟩) (fun s0 H0 C cl fp => ⟨fun pins s σ H R I hq => hq s0 H0 C cl fp pins s I⟩)
        (fun s0 H0 C cl fp => ⟨fun pins s σ H v u Q I r hq => hq s0 H0 C cl fp pins s u I r⟩) (fun s0 H0 C cl fp => ⟨fun pins s σ H Q I hq => hq s0 H0 C cl fp pins s I⟩) (fun s0 H0 C cl fp => ⟨fun pins s σ H Q I hq => hq s0 H0 C cl fp pins s I⟩) (hfs_of hns X.env) (hfs_of hns1)).w ?_
  show tLc2 _ _ _ _ _ _ _ _ _ σ H (fun v H1 => D.nx (σ.set i (some v)) H1)
  refine tLc2_ok se stt si hi hv hN ht hifs hil hi1 ht1 hifs1 hil1 he ho a.at_ ((h.toS a.at_.rf a.at_.wf).all.mono fun w st1 g1 H1 e1 wf1 rs1 h1 v r1 => ?_)
  rcases hq with ⟨rfl, q1, q2⟩ | ⟨rfl, q1⟩
  · obtain ⟨g2, e2, wf2, rs2, rz⟩ := RelK.lk (k := .fr) (by decide) a.at_.wf e1 wf1 rs1 r1
    have h1 := h1 g2 e2 wf2 rs2
    rw [asgT_nm] at h1
    exact (show PoS T c fr M g0 H0 g2 H1 W D (.ok .nx (σE.set i (some w)) st1) from h1) g2 H1 _ .refl wf2 rs2 ((a.at_.rf.ext a.at_.wf e2).setZ q1 q2 rz)
  · obtain ⟨g2, e2, wf2, rs2, rf2⟩ := RelF.setOw q1 a.at_.wf wf1 e1 rs1 a.at_.rf r1
    have h1 := h1 g2 e2 wf2 rs2
    rw [asgT_own] at h1
    exact (show PoS T c fr M g0 H0 g2 H1 W D (.ok .nx (σE.set i (some w)) st1) from h1) g2 H1 _ .refl wf2 rs2 rf2
end
end Pv
end

section
set_option Elab.async false
set_option linter.all false
set_option maxRecDepth 100000
namespace Pv
open PySem PySem.Spec PyProof.Rows L2
section
variable {T : Tb} {n d : Nat} {c : Cfg} {fr lp : Bool} {M M' : List Nat} {X : Cx} {W : WX} {g0 : Gh} {H0 : Hp} {g g' : Gh} {st st' : Sto} {H H' : Hp} {σE : Fr} {σ : L2.St} {D : Ends}
theorem FsR.fput {F : List Nat} {nn f : Nat} {w : Pv.W} {v : V} (inj : ∀ a b, a ∈ F → b ∈ F → T.nm a = T.nm b → a = b) (hf : f ∈ F) (r : FldR T g H nn f w v) : ∀ {fs : List (Nat × Pv.W)} {vs : List (Str × V)}, FsR T g H nn fs vs → (∀ p, p ∈ fs → p.1 ∈ F) → FsR T g H nn (fput f w fs) (putF (T.nm f) v vs)
  | _, _, .nil, _ => .cons r .nil
  | _, _, .cons (f := k) (w := w1) (v := v1) (fs := fs) (vs := vs) r1 rs, hF => by
    unfold Pv.fput L2.putF
    by_cases e : k = f
    · subst e
      rw [show Nat.beq k k = true from Nat.beq_refl k, if_pos rfl]
      exact .cons r rs
    · rw [show Nat.beq k f = false from by cases q : Nat.beq k f with | false => rfl | true => exact absurd (Nat.eq_of_beq_eq_true q) e, if_neg (fun z => e (inj k f (hF (k, w1) List.mem_cons_self) hf z))]
      exact .cons r1 (FsR.fput inj hf r rs fun p hp => hF p (List.mem_cons_of_mem _ hp))
theorem fput_mem {f : Nat} {w : Pv.W} : ∀ {fs : List (Nat × Pv.W)} {p : Nat × Pv.W}, p ∈ fput f w fs → p.1 = f ∨ ∃ q, q ∈ fs ∧ q.1 = p.1
  | [], p, h => by
    have h : p ∈ [(f, w)] := h
    simp at h; subst h; exact .inl rfl
  | (k, w1) :: fs, p, h => by
    unfold Pv.fput at h
    cases e : Nat.beq k f with
    | true =>
      rw [e] at h
      rcases List.mem_cons.mp h with q | q
      · subst q; exact .inl rfl
      · exact .inr ⟨p, List.mem_cons_of_mem _ q, rfl⟩
    | false =>
      rw [e] at h
      rcases List.mem_cons.mp h with q | q
      · subst q; exact .inr ⟨(k, w1), List.mem_cons_self, rfl⟩
      · rcases fput_mem q with z | ⟨q2, z1, z2⟩
        · exact .inl z
        · exact .inr ⟨q2, List.mem_cons_of_mem _ z1, z2⟩
theorem fld_len {nn : Nat} : ∀ {fs : List (Nat × Pv.W)} {vs : List (Str × V)}, FsR T g H nn fs vs → fs.length = vs.length
  | _, _, .nil => rfl
  | _, _, .cons _ rs => by simp [fld_len rs]
/-- an instance's attributes change -/
theorem insExt {a C dx : Addr} {fs fs' : List (Str × V)} (h : H a = some (.ins C dx fs)) : Ext g H g (upd H a (.ins C dx fs')) where
  tag := fun _ _ h => h
  nt := fun _ _ _ h => h
  keep := fun b o q _ i => by
    have : b ≠ a := fun z => by rw [z, h] at q; cases q; exact i _ _ _ rfl
    rw [upd_ne this]; exact q
  ins := fun b D d2 fs2 q => by
    by_cases e : b = a
    · subst e; rw [h] at q; cases q; exact ⟨fs', upd_same⟩
    · exact ⟨fs2, by rw [upd_ne e]; exact q⟩
  there := fun b o q => by
    by_cases e : b = a
    · subst e; exact ⟨_, upd_same⟩
    · exact ⟨o, by rw [upd_ne e]; exact q⟩
  io := fun _ _ h => h
  lam := rfl
theorem insWf {a C dx : Addr} {fs fs' : List (Str × V)} (h : H a = some (.ins C dx fs)) (wf : Wf g H) : Wf g (upd H a (.ins C dx fs')) := fun b t q => by
  obtain ⟨o, q1, l⟩ := wf b t q
  have : b ≠ a := fun z => by rw [z, h] at q1; cases q1; exact l.2.2.1 _ _ _ rfl
  exact ⟨o, by rw [upd_ne this]; exact q1, l⟩
theorem insSt {p f : Nat} {ob : Obj} {cd : CDef} {a dx : Addr} {fs : List (Str × V)} {w : Pv.W} {v : V} (C : ClsS T ob.cls cd) (hcd : T.G.cls.find ob.cls = some cd) (hp : st[p]? = some ob) (hio : g.io[p]? = some (a, dx)) (h : H a = some (.ins (T.ca ob.cls) dx fs)) (hf : f ∈ cd.fields)
    (wf : Wf g H) (rs : RelSt T g st H) (r : RelZ T.K g H w v) : RelSt T g (st.set p ⟨ob.cls, fput f w ob.fs⟩) (upd H a (.ins (T.ca ob.cls) dx (putF (T.nm f) v fs))) := by
  have m : Mo T.K g H g (upd H a (.ins (T.ca ob.cls) dx (putF (T.nm f) v fs))) := (insExt h).mo wf
  have kf : ∀ (nn : Nat) (b : Addr) (o : HO) (k : Nat), H b = some o → g.ow b = some (.fld nn k) → upd H a (.ins (T.ca ob.cls) dx (putF (T.nm f) v fs)) b = some o := fun nn b o k q t => by
    obtain ⟨o', q1, l⟩ := wf b _ t
    have : b ≠ a := fun z => by rw [z, h] at q1; cases q1; exact l.2.2.1 _ _ _ rfl
    rw [upd_ne this]; exact q
  have hpl : p < st.length := (List.getElem?_eq_some_iff.mp hp).1
  refine ⟨by rw [List.length_set]; exact rs.len, fun i o hi => ?_, rs.inj, fun i o hi => ?_, rs.lam, rs.tb.upd (fun n f z => by obtain ⟨o', q1, l⟩ := wf a _ z; rw [h] at q1; cases q1; exact l.2.2.1 _ _ _ rfl) h (fun _ => nofun)⟩
  · by_cases e : p = i
    · subst e
      rw [List.getElem?_set_self hpl] at hi
      cases hi
      obtain ⟨x', dx', fs', q1, q2, q3⟩ := rs.ob p ob hp
      rw [hio] at q1; cases q1
      rw [h] at q2; cases q2
      obtain ⟨cd', hcd', hxe, hfl⟩ := rs.na p ob hp
      rw [hcd] at hcd'; cases hcd'
      exact ⟨a, dx, _, hio, upd_same, FsR.fput C.inj hf (.inl (r.mo m)) (q3.mo m (kf p)) hfl⟩
    · rw [List.getElem?_set_ne e] at hi
      obtain ⟨x', dx', fs', q1, q2, q3⟩ := rs.ob i o hi
      have : x' ≠ a := fun z => e (rs.inj p i _ _ hio q1 z.symm)
      exact ⟨x', dx', fs', q1, by rw [upd_ne this]; exact q2, q3.mo m (kf i)⟩
  · by_cases e : p = i
    · subst e
      rw [List.getElem?_set_self hpl] at hi
      cases hi
      obtain ⟨cd', hcd', hxe, hfl⟩ := rs.na p ob hp
      rw [hcd] at hcd'; cases hcd'
      refine ⟨cd, hcd, hxe, fun q hq => ?_⟩
      rcases fput_mem hq with z | ⟨q2, z1, z2⟩
      · rw [z]; exact hf
      · rw [← z2]; exact hfl q2 z1
    · rw [List.getElem?_set_ne e] at hi
      exact rs.na i o hi
theorem sw_att {e o : Expr} {f : Str} {p : Pos} (l : Nat) (env : Env) : swapsWith e (some (.Attribute o f p)) l env = pure false := by cases e <;> rfl
theorem s_setA (se : ∀ m, m ≤ n → SE T m d) {o : Expr} {y : Ex} {f : Nat} {p pos : Pos} {e : Expr} {x : Ex} (to : TrE T c o y) (te : TrE T c e x) (ho : isO x = false)
    (a : AtS T d c lp M X W g0 H0 g st H σE σ) (h : PoS T c fr M g0 H0 g H W D ((evE T.G n d σE st x).toS σE fun w st => (asgT T.G n d σE st (.att y f) w).toS σE fun σ st => .ok .nx σ st)) : wS X (.Assign [.Attribute o (T.nm f) p] e pos) D σ H := by
  refine (ps_fld (ta := wE X o) (tv := wE X e) pe_w pe_w (sw_att _ _)).w ?_
  show wE X e σ H fun v H1 => wE X o σ H1 fun x H2 => ∃ a C dx fs, x = .ref a ∧ H2 a = some (.ins C dx fs) ∧ Cls X.K C ∧ NoAttr X.K C (T.nm f) ∧ fs.length < 1000 ∧ D.nx σ (upd H2 a (.ins C dx (putF (T.nm f) v fs)))
  rw [a.at_.ctx.hK]
  refine (se n (Nat.le_refl n)).lk te ho a.at_ (h.toS a.at_.rf a.at_.wf) fun w st1 g1 H1 v a1 e1 r1 h1 => ?_
  cases n with
  | zero => rw [asgT_0] at h1; exact h1.elim
  | succ n =>
    rw [asgT.eq_def] at h1
    simp only at h1
    have h2 := PoS.toS a1.rf a1.wf h1
    refine (se n (Nat.le_succ n)).bo to a1 h2.bind fun wo st2 g2 H2 vo a2 e2 ro h3 => ?_
    cases wo with
    | obj q =>
      simp only at h3
      cases hp : st2[q]? with
      | none => rw [hp] at h3; exact h3.elim
      | some ob =>
        rw [hp] at h3
        simp only at h3
        cases hcd : T.G.cls.find ob.cls with
        | none => rw [hcd] at h3; exact h3.elim
        | some cd =>
          rw [hcd] at h3
          simp only at h3
          cases hb : (cd.fields.contains f && Nat.blt ob.fs.length 900) with
          | false => rw [hb] at h3; exact h3.elim
          | true =>
            rw [hb] at h3
            simp only [Bool.and_eq_true] at hb
            have hfm : f ∈ cd.fields := by simpa using hb.1
            have hln : ob.fs.length < 900 := by have := hb.2; unfold Nat.blt at this; exact Nat.le_of_ble_eq_true this
            obtain ⟨xa, dx, rfl, hio⟩ := ro.obj
            obtain ⟨x', dx', fs, q1, q2, q3⟩ := a2.rst.ob q ob hp
            rw [hio] at q1; cases q1
            have C := a.at_.ctx.cls _ _ hcd
            obtain ⟨cd9, hcd9, hxe, _⟩ := a2.rst.na q ob hp
            rw [hcd] at hcd9; cases hcd9
            have r2 := r1.mo (e2.mo a1.wf)
            refine ⟨xa, _, dx, fs, rfl, q2, C.cl hxe, C.na f hfm, by rw [← fld_len q3]; omega, ?_⟩
            have e3 : Ext g2 H2 g2 (upd H2 xa (.ins (T.ca ob.cls) dx (putF (T.nm f) v fs))) := insExt q2
            have h4 := (show Po T g2 H2 W σ (fun a st' g' H' => PoS T c fr M g0 H0 g' H' W D (.ok .nx a st')) (.ok σE (st2.set q ⟨ob.cls, fput f w ob.fs⟩)) from h3) g2 _ e3 (insWf q2 a2.wf) (insSt C hcd hp hio q2 hfm a2.wf a2.rst r2)
            exact h4 g2 _ σ .refl (insWf q2 a2.wf) (insSt C hcd hp hio q2 hfm a2.wf a2.rst r2) (a2.rf.ext a2.wf e3)
    | _ => exact h3.elim
end
end Pv
end

section
set_option Elab.async false
set_option linter.all false
set_option maxRecDepth 100000
namespace Pv
open PySem PySem.Spec PyProof.Rows L2
section
variable {T : Tb} {n d : Nat} {c : Cfg} {fr lp : Bool} {M M' : List Nat} {X : Cx} {W : WX} {g0 : Gh} {H0 : Hp} {g g' : Gh} {st st' : Sto} {H H' : Hp} {σE : Fr} {σ : L2.St} {D : Ends}
theorem s_raise {ci : Nat} {cd : CDef} {m : Str} {j : Nat} {p p2 p3 pos : Pos} (hg : GlS c.sc (T.nm ci)) (hm : T.mg (T.nm ci) = some (.ref (T.ca ci))) (hx : ExcP T ci) (hcd : T.G.cls.find ci = some cd) (hp : cd.pay = none)
    (a : AtS T d c lp M X W g0 H0 g st H σE σ) (h : PoS T c fr M g0 H0 g H W D ((evEs T.G n d σE st [.k (.str m)]).toS σE fun ws st => match T.G.cls.find ci with
      | some cd => match cd.pay, ws with
        | some f, [w] => .exc ci [(f, w)] σE st
        | none, _ => .exc ci [] σE st
        | _, _ => .err
      | none => .err)) : wS X (.Raise (some (.Call (.Name (T.nm ci) p) [.Constant (.str m) j p2] [] p3)) none pos) D σ H := by
  obtain ⟨B, newId, initId, bmB, F, q1, q2, q3, q4⟩ := hx
  have cx := a.at_.ctx
  refine (ps_raise cx.calm a.at_.tk (pmk_own F (by rw [cx.hK]; exact q1) (by rw [cx.hm]; exact hm) (by rw [cx.hK]; exact q2) (raises_own (by rw [cx.hK]; exact q3) (by rw [cx.hK]; exact q4)) (cx.gl hg) hg.2)).w ?_
  show W (.ref (T.ca ci)) none σ H
  have key : PoS T c fr M g0 H0 g H W D (.exc ci [] σE st) := by
    cases n with
    | zero => rw [evEs_0] at h; exact h.elim
    | succ n =>
      simp only [evEs] at h
      cases n with
      | zero => rw [evE_0] at h; exact h.elim
      | succ n =>
        simp only [evE, evEs] at h
        have h : PoS T c fr M g0 H0 g H W D (match T.G.cls.find ci with
          | some cd => match cd.pay, [Pv.W.str m] with
            | some f, [w] => .exc ci [(f, w)] σE st
            | none, _ => .exc ci [] σE st
            | _, _ => .err
          | none => .err) := h
        rw [hcd] at h
        simp only [hp] at h
        exact h
  exact key g H none σ .refl a.at_.wf a.at_.rst a.at_.rf rfl
/-- two names at once -/
theorem asgTs2 {i j : Nat} {w1 w2 : Pv.W} {F : Fr → Sto → RS} (h : PoS T c fr M g0 H0 g H W D ((asgTs T.G n d σE st [.nm i, .nm j] [w1, w2]).toS σE F)) : PoS T c fr M g0 H0 g H W D (F ((σE.set i (some w1)).set j (some w2)) st) := by
  cases n with
  | zero => rw [asgTs_0] at h; exact h.elim
  | succ n =>
    rw [asgTs_cons] at h
    simp only at h
    cases n with
    | zero => rw [asgT_0] at h; exact h.elim
    | succ n =>
      rw [asgT_nm] at h
      simp only [R.bind] at h
      rw [asgTs_cons] at h
      simp only at h
      cases n with
      | zero => rw [asgT_0] at h; exact h.elim
      | succ n =>
        rw [asgT_nm] at h
        simp only [R.bind] at h
        rw [asgTs_nil] at h
        exact h
theorem s_par2 (ses : SEs T n d) {x1 x2 : Str} {p1 p2 p3 p4 pos : Pos} {k1 k2 i j : Nat} {e1 e2 : Expr} {y1 y2 : Ex} (h1 : c.N[i]? = some x1) (h2 : c.N[j]? = some x2) (hij : i ≠ j) (l1 : c.sc.names.lookup x1 = some .local) (l2 : c.sc.names.lookup x2 = some .local)
    (o1 : i ∉ c.own) (o2 : j ∉ c.own) (b1 : i ∉ c.bor) (b2 : j ∉ c.bor) (hw : ∀ env : Env, env.scope = c.sc → swappedStores [.Tuple [.Name x1 p1, .Name x2 p2] k1 p3] (.Tuple [e1, e2] k2 p4) env = pure (some [x1, x2])) (ts : TrEs T c [] [e1, e2] [y1, y2])
    (a : AtS T d c lp M X W g0 H0 g st H σE σ) (h : PoS T c fr M g0 H0 g H W D ((evEs T.G n d σE st [y1, y2]).toS σE fun ws st => (asgTs T.G n d σE st [.nm i, .nm j] ws).toS σE fun σ st => .ok .nx σ st)) :
    wS X (.Assign [.Tuple [.Name x1 p1, .Name x2 p2] k1 p3] (.Tuple [e1, e2] k2 p4) pos) D σ H := by
  have cx := a.at_.ctx
  refine (ps_par (i := i) (j := j) cx.calm a.nd (a.slot h1) (a.slot h2) hij (by rw [cx.sc]; exact l1) (by rw [cx.sc]; exact l2) pa_w (hw X.env cx.sc) rfl).w ?_
  show wA X [e1, e2] σ H fun vs H1 => ∃ v w, vs = [v, w] ∧ D.nx ((σ.set i (some v)).set j (some w)) H1
  refine ses c [] [e1, e2] [y1, y2] ts X W g st H σE σ _ a.at_ ((((h.toS a.at_.rf a.at_.wf).fact (fun ws _ => ws.length = 2) (fun ws st' q => evEs_len _ _ _ _ _ _ _ _ q))).mono fun ws st1 g1 H1 e1 wf1 rs1 ⟨hn, h1⟩ vs rv => ?_)
  match ws, hn, vs, rv with
  | [w1, w2], _, _, .more (v := v1) r1 (.more (v := v2) r2 .nil) =>
    refine ⟨v1, v2, rfl, ?_⟩
    have h3 := asgTs2 h1
    exact (show PoS T c fr M g0 H0 g1 H1 W D (.ok .nx ((σE.set i (some w1)).set j (some w2)) st1) from h3) g1 H1 _ .refl wf1 rs1 (((a.at_.rf.ext a.at_.wf e1).setZ o1 b1 r1).setZ o2 b2 r2)
/-- names at once, by way of the tuple -/
theorem s_parN (ses : SEs T n d) {es : List Expr} {k k2 : Nat} {tp p4 pos : Pos} {ts : List Tg} {as_ : List Expr} {xs : List Ex} (tt : TrTgs T c es ts) (ta : TrEs T c [] as_ xs) (hl : as_.length ≤ 1000) (hw : ∀ env : Env, env.scope = c.sc → swappedStores [.Tuple es k tp] (.Tuple as_ k2 p4) env = pure none)
    (a : AtS T d c lp M X W g0 H0 g st H σE σ) (h : PoS T c fr M g0 H0 g H W D ((evEs T.G n d σE st xs).toS σE fun ws st => (asgTs T.G n d σE st ts ws).toS σE fun σ st => .ok .nx σ st)) :
    wS X (.Assign [.Tuple es k tp] (.Tuple as_ k2 p4) pos) D σ H := by
  have cx := a.at_.ctx
  refine (ps_asg (pe_tup pa_w) pg_w (sws_tup _ _) (hw X.env cx.sc) rfl).w ?_
  show wA X as_ σ H fun vs H1 => vs.length ≤ sizeLine ∧ ∀ p, H1 p = none → wG X (.Tuple es k tp) (.ref p) σ (upd H1 p (.tup vs)) D.nx
  refine ses c [] as_ xs ta X W g st H σE σ _ a.at_ ((((h.toS a.at_.rf a.at_.wf).fact (fun ws _ => ws.length = xs.length) (fun ws st' q => evEs_len _ _ _ _ _ _ _ _ q))).mono fun ws st1 g1 H1 e1 wf1 rs1 ⟨hn, h1⟩ vs rv => ⟨small_line (by rw [← rv.length, hn, ← ta.length]; exact hl), fun p hp => ?_⟩)
  have e2 : Ext g1 H1 g1 (upd H1 p (.tup vs)) := .new hp
  have wf2 : Wf g1 (upd H1 p (.tup vs)) := wf1.new hp
  have rs2 := rs1.new (o := .tup vs) hp
  have rz : RelZ T.K g1 (upd H1 p (.tup vs)) (.tup ws) (.ref p) := .tup (.of upd_same) (rv.z.mo (e2.mo wf1))
  have a2 : At T d c X W g1 st1 (upd H1 p (.tup vs)) σE σ := (a.at_.ext e1 wf1 rs1).ext e2 wf2 rs2
  have k1 := (tg_both (d := d) c X W g1 st1 (upd H1 p (.tup vs)) (n + 1)).1 (.Tuple es k tp) (.tu ts) σE σ (.tup ws) (.ref p) (.tu tt) a2 rz
  rw [asgT_tu] at k1
  have h5 := PoS.ext (e2.toM M) h1
  clear h1
  simp only at k1
  cases q : asgTs T.G n d σE st1 ts ws with
  | err => rw [q] at h5; exact h5.elim
  | exc ci pl st' => rw [q] at k1; exact k1.elim
  | ok σ1 st2 =>
    rw [q] at h5 k1
    obtain ⟨eq, k1⟩ := k1
    subst eq
    exact k1 _ fun σ' rf' _ _ => (show PoS T c fr M g0 H0 g1 (upd H1 p (.tup vs)) W D (.ok .nx σ1 st2) from h5) g1 _ σ' .refl wf2 rs2 rf'
end
end Pv
end

section
set_option Elab.async false
set_option linter.all false
set_option maxRecDepth 100000
namespace Pv
open PySem PySem.Spec PyProof.Rows L2
section
variable {T : Tb} {n d : Nat} {c : Cfg} {fr lp : Bool} {M M' : List Nat} {X : Cx} {W : WX} {g0 : Gh} {H0 : Hp} {g g' : Gh} {st st' : Sto} {H H' : Hp} {σE : Fr} {σ : L2.St} {D : Ends}
/-- an except clause's one statement, in whatever context -/
theorem s_hand {h : Stmt} {xh : Sm} (th : TrH h xh) (en : Ext g0 H0 g H) (wf : Wf g H) (rs : RelSt T g st H) (rf : RelF T c g H σE σ) (hp : PoS T c fr M g0 H0 g H W D (exs T.G n d σE st [xh])) : wSs X [h] D σ H := by
  cases n with
  | zero => rw [exs.eq_def] at hp; exact hp.elim
  | succ n =>
    simp only [exs] at hp
    cases n with
    | zero => rw [ex1.eq_def] at hp; exact hp.elim
    | succ n =>
      have e0 : ∀ σ' st', exs T.G (n + 1) d σ' st' [] = .ok .nx σ' st' := fun σ' st' => by simp only [exs]
      cases th with
      | cont =>
        simp only [ex1, RS.bind] at hp
        exact (pss_one ps_continue).w ((show PoS T c fr M g0 H0 g H W D (.ok .ct σE st) from hp) g H σ .refl wf rs rf)
      | pass =>
        simp only [ex1, RS.bind, e0] at hp
        exact (pss_one ps_pass).w ((show PoS T c fr M g0 H0 g H W D (.ok .nx σE st) from hp) g H σ .refl wf rs rf)
      | ret tk =>
        have key : ∀ {w : Pv.W} {v : V}, isC w = false → RelZ T.K g H w v → PoS T c fr M g0 H0 g H W D (.ok (.rt w) σE st) → D.rt v H := fun {w v} hc r h => h g H v en wf rs (by
          cases fr with
          | false => exact r
          | true => exact fr_of hc r)
        cases n with
        | zero => simp only [ex1, evE_0] at hp; exact hp.elim
        | succ n =>
          cases tk with
          | kInt => simp only [ex1, evE, R.toS, RS.bind] at hp; exact (pss_one (ps_ret pe_int)).w (key rfl (.int _) hp)
          | kBl => simp only [ex1, evE, R.toS, RS.bind] at hp; exact (pss_one (ps_ret pe_bl)).w (key rfl (.bl _) hp)
          | kNon => simp only [ex1, evE, R.toS, RS.bind] at hp; exact (pss_one (ps_ret pe_non)).w (key rfl .non hp)
          | kStr => simp only [ex1, evE, R.toS, RS.bind] at hp; exact (pss_one (ps_ret pe_str)).w (key rfl (.str _) hp)
theorem s_try (sss : ∀ m, m ≤ n → SSs T m d) {ci : Nat} {b : List Stmt} {xb : List Sm} {np pos pos' : Pos} {h : Stmt} {xh : Sm} (tb : TrSs T c fr true M b xb) (th : TrH h xh) (hg : GlS c.sc (T.nm ci)) (hm : T.mg (T.nm ci) = some (.ref (T.ca ci)))
    (hx : ∀ e b', catches T.G ci e = some b' → PySem.W.exmOne T.K (.ref (T.ca e)) (.ref (T.ca ci)) = some b') (a : AtS T d c lp M X W g0 H0 g st H σE σ)
    (hp : PoS T c fr M g0 H0 g H W D (match exs T.G n d σE st xb with
      | .ok f σ st => .ok f σ st
      | .exc e pl σ st => (match catches T.G ci e with
        | some true => exs T.G n d σ st [xh]
        | some false => .exc e pl σ st
        | none => .err)
      | .err => .err)) : wS X (.Try b [.ExceptHandler (some (.Name (T.nm ci) np)) none [h] pos'] [] [] pos) D σ H := by
  have cx := a.at_.ctx
  refine (ps_try_only (Wout := W) (tb := fun W' D σ H => ∀ pn xe, Takes (X.tr pn xe) W' → PassesOwn (model X.prog X.w) X.A X.env xe → wSs (X.tr pn xe) b D σ H) (ts := fun A cls dd D σ H => ∀ pn, wSs (X.suite A pn) [h] D σ H) a.hs a.hf
    ⟨cx.gl hg, hg.2, .inl (by rw [cx.hm]; exact hm)⟩ a.at_.tk (fun W' pn xe tk po => ⟨fun pins s σ H D I q => q pn xe tk po pins s I⟩) (fun A oe cls dd pn _ _ => ⟨fun pins s σ H D I q => q _ pins s I⟩)).w ?_
  intro pn xe tk po
  have a2 : AtS T d c true M (X.tr pn xe) (wOnly X.K (.ref (T.ca ci)) (fun A cls dd D σ H => ∀ pn, wSs (X.suite A pn) [h] D σ H) W D) g0 H0 g st H σE σ :=
    ⟨⟨⟨cx.hN, cx.nd, cx.calm, cx.room, cx.hK, cx.hm, cx.sc, cx.fns, cx.cls, cx.fnc, cx.lams, cx.lq⟩, tk, a.at_.wf, a.at_.rst, a.at_.rf⟩, a.fn, a.hs, a.hf, fun _ => po, a.no, a.wf0, a.en, a.sub⟩
  refine sss n (Nat.le_refl n) c fr true M b xb tb (X.tr pn xe) _ g0 H0 g st H σE σ D a2 ?_
  revert hp
  cases exs T.G n d σE st xb with
  | ok f σ1 st1 => cases f <;> exact fun hp => hp
  | err => exact fun hp => hp
  | exc e pl σ1 st1 =>
    intro hp g1 H1 dd σ' e1 wf1 rs1 rf1 rp
    have hp : PoS T c fr M g0 H0 g H W D (match catches T.G ci e with
        | some true => exs T.G n d σ1 st1 [xh]
        | some false => .exc e pl σ1 st1
        | none => .err) := hp
    cases hc : catches T.G ci e with
    | none => rw [hc] at hp; exact hp.elim
    | some bb =>
      rw [hc] at hp
      refine ⟨bb, by rw [cx.hK]; exact hx e bb hc, fun hb A hA pn => ?_, fun hb => ?_⟩
      · subst hb
        exact s_hand (n := n) (d := d) th ((a.en.trans (e1.up a.sub)).toE a.no) wf1 rs1 rf1 (PoS.ext e1 hp)
      · subst hb
        exact (show PoS T c fr M g0 H0 g H W D (.exc e pl σ1 st1) from hp) g1 H1 dd σ' e1 wf1 rs1 rf1 rp
end
end Pv
end

section
set_option Elab.async false
set_option linter.all false
set_option maxRecDepth 100000
namespace Pv
open PySem PySem.Spec PyProof.Rows L2
section
variable {T : Tb} {n d : Nat} {c : Cfg} {fr lp : Bool} {M M' : List Nat} {X : Cx} {W : WX} {g0 : Gh} {H0 : Hp} {g g' : Gh} {st st' : Sto} {H H' : Hp} {σE : Fr} {σ : L2.St} {D : Ends}
theorem mem_key2 (k : Key) : ∀ kvs : List (Key × V), mem (kW k) (kvs.map fun p => kW p.1) = kvs.any fun kv => decide (kv.1 = k)
  | [] => rfl
  | p :: r => by simp only [List.map_cons, mem, kW_weq, List.any_cons, mem_key2 k r]
theorem repl_key (k : Key) {w : Pv.W} {v : V} (r : RelZ T.K g H w v) : ∀ (kvs : List (Key × V)) (ws : List Pv.W), RelZs T.K g H ws (kvs.map (·.2)) → RelZs T.K g H (repl (kW k) w (kvs.map fun p => kW p.1) ws) ((kvs.map fun kv => if kv.1 = k then (kv.1, v) else kv).map (·.2))
  | [], _, .nil => .nil
  | p :: ps, _, .cons (w := w1) hz hzs => by
    simp only [List.map_cons, repl, kW_weq]
    by_cases hk : p.1 = k
    · rw [decide_eq_true hk, if_pos hk]; exact .cons r (repl_key k r ps _ hzs)
    · rw [decide_eq_false hk, if_neg hk]; exact .cons hz (repl_key k r ps _ hzs)
theorem put_key (k : Key) {w : Pv.W} {v : V} {kvs : List (Key × V)} {ws : List Pv.W} (r : RelZ T.K g H w v) (z : RelZs T.K g H ws (kvs.map (·.2))) :
    (put (kW k) w (kvs.map fun p => kW p.1) ws).1 = (putK kvs k v).map (fun p => kW p.1) ∧ RelZs T.K g H (put (kW k) w (kvs.map fun p => kW p.1) ws).2 ((putK kvs k v).map (·.2)) := by
  unfold put putK
  rw [mem_key2]
  cases h : kvs.any fun kv => decide (kv.1 = k) with
  | true =>
    rw [if_pos rfl]
    refine ⟨?_, repl_key k r kvs ws z⟩
    show kvs.map (fun p => kW p.1) = _
    rw [List.map_map]
    apply List.map_congr_left
    intro p _
    show kW p.1 = kW (if p.1 = k then (p.1, v) else p).1
    split <;> rfl
  | false =>
    rw [if_neg (by decide)]
    refine ⟨?_, ?_⟩
    · show (kvs.map fun p => kW p.1) ++ [kW k] = _
      rw [List.map_append]; rfl
    · show RelZs T.K g H (ws ++ [w]) _
      rw [List.map_append]; exact z.append (.cons r .nil)
theorem set_or {t t' : TSet} (h : PSet X t) (h' : PSet X t') : PSet X (fun o i v H Q => t o i v H Q ∨ t' o i v H Q) := fun pins s σ H o i v ov iv u Q I r1 r2 r3 q => q.elim (h pins s σ H o i v ov iv u Q I r1 r2 r3) (h' pins s σ H o i v ov iv u Q I r1 r2 r3)
theorem sw_sub {e o i : Expr} {p : Pos} (l : Nat) (env : Env) : swapsWithSole [.Subscript o i p] e l env = pure false := by
  show swapsWith e (some (.Subscript o i p)) l env = pure false
  cases e <;> rfl
theorem ss_sub {e o i : Expr} {p : Pos} (env : Env) : swappedStores [.Subscript o i p] e env = pure none := by
  unfold swappedStores
  cases e <;> rfl
/-- what stands at a slot of the def alone -/
theorem own_at {i : Nat} {w : Pv.W} (a : At T d c X W g st H σE σ) (ho : i ∈ c.own) (hw : σE[i]? = some (some w)) : ∃ v, σ[i]? = some (some v) ∧ RelOw T.K g H i w v := by
  obtain ⟨v, e1, r⟩ := a.rf.at_ i w hw
  unfold SlR at r
  rw [if_pos ho] at r
  exact ⟨v, e1, r⟩
theorem s_sub (se : ∀ m, m ≤ n → SE T m d) {id : Str} {p sp pos : Pos} {i : Nat} {ie e : Expr} {y x : Ex} (h1 : c.N[i]? = some id) (h2 : VisS c.sc id) (h3 : (id == ("__debug__" : Str)) = false) (h4 : (id == ("__classdict__" : Str)) = false) (h5 : i ∈ c.own) (h6 : i ∈ M)
    (ty : TrE T c ie y) (hy : isO y = false) (hp : notSl ie = true) (te : TrE T c e x) (ho : isO x = false) (a : AtS T d c lp M X W g0 H0 g st H σE σ)
    (h : PoS T c fr M g0 H0 g H W D ((evE T.G n d σE st x).toS σE fun w st => (asgT T.G n d σE st (.sub i y) w).toS σE fun σ st => .ok .nx σ st)) : wS X (.Assign [.Subscript (.Name id p) ie sp] e pos) D σ H := by
  have cx := a.at_.ctx
  refine (ps_asg pe_w (pg_sub (pe_var (i := i) (a.slot h1) (by rw [cx.sc]; exact h2) h3 h4) pe_w (set_or set_list (set_dict (by have := cx.hu; omega))) (fun v => by cases ie <;> first | rfl | exact nomatch hp)) (sw_sub _ _) (ss_sub _) rfl).w ?_
  show wE X e σ H fun v H1 => ∃ o, σ[i]? = some (some o) ∧ wE X ie σ H1 fun iv H2 => (rSetL o iv v H2 fun H3 => D.nx σ H3) ∨ rSetD o iv v H2 fun H3 => D.nx σ H3
  refine (se n (Nat.le_refl n)).lk te ho a.at_ (h.toS a.at_.rf a.at_.wf) fun w st1 g1 H1 v a1 e1 r1 h1 => ?_
  cases n with
  | zero => rw [asgT_0] at h1; exact h1.elim
  | succ n =>
    rw [asgT.eq_def] at h1
    simp only at h1
    have h2 := PoS.toS a1.rf a1.wf h1
    obtain ⟨wo, ew, h3⟩ := getv_some h2.bind
    have h3 := h3.ok a1.wf a1.rst
    obtain ⟨vo, ev, ro⟩ := own_at a1 h5 ew
    refine ⟨vo, ev, ?_⟩
    refine (se n (Nat.le_succ n)).lk ty hy a1 h3.bind fun wi st2 g2 H2 vi a2 e2 ri h4 => ?_
    have ro2 := ro.ext a1.wf e2
    have r2 := r1.mo (e2.mo a1.wf)
    obtain ⟨σ1, hσ1, h5'⟩ := Po.o2r h4 a2.wf a2.rst
    have h6' := fun g3 H3 q1 q2 q3 => h5' g3 H3 q1 q2 q3
    cases hq : putop wo wi w with
    | none => rw [hq] at hσ1; exact nomatch hσ1
    | some wn =>
      rw [hq] at hσ1
      injection hσ1 with hσ1
      subst hσ1
      have hn : PoS T c fr M g0 H0 g2 H2 W D (.ok .nx (σE.set i (some wn)) st2) := h5' g2 H2 .refl a2.wf a2.rst
      have fin : ∀ (A : Addr) (o0 o : HO), vo = .ref A → H2 A = some o0 → LD o0 → LD o → g2.ow A = some (.sl i) → RootO T.K g2 (upd H2 A o) (some (.sl i)) wn (.ref A) → D.nx σ (upd H2 A o) := fun A o0 o eA hA l0 l1 hT hr => by
        subst eA
        have n1 : g2.ow A ≠ some .sh := by rw [hT]; exact nofun
        exact hn g2 _ σ (mutG_ext hA l0 hT h6) (mutG_wf l1 a2.wf) (mutG_st hA l0 n1 (by rw [hT]; exact notFld_sl i) a2.rst) (a2.rf.mut h5 ev hA l0 hT hr)
      cases wo with
      | lst ws =>
        rcases ro2 with ⟨q, _⟩ | ro2
        · exact nomatch q
        · cases ro2 with
          | @lst A vs _ hA hT z =>
            cases wi with
            | int k =>
              have hk : vi = .int k := by cases ri; rfl
              subst hk
              simp only [putop] at hq
              cases hj : ixOf ws.length k with
              | none => rw [hj] at hq; exact nomatch hq
              | some j =>
                rw [hj] at hq
                injection hq with hq
                subst hq
                refine .inl ⟨A, vs, k, j, rfl, rfl, hA, by rw [← ixOf_eq, ← z.length]; exact hj, ?_⟩
                have n1 : g2.ow A ≠ some .sh := by rw [hT]; exact nofun
                exact fin A _ _ rfl hA LD_lst LD_lst hT (.lst upd_same hT ((z.set j r2).mo (mutG_mo hA LD_lst n1)))
            | _ => exact nomatch hq
      | dic ks us =>
        rcases ro2 with ⟨q, _⟩ | ro2
        · exact nomatch q
        · cases ro2 with
          | @dic A kvs _ _ hA hT hk z =>
            subst hk
            simp only [putop] at hq
            have key : ∀ k : Key, wi = kW k → vi = kV k → rSetD (.ref A) vi v H2 fun H3 => D.nx σ H3 := fun k ek ev' => by
              subst ek ev'
              cases hb : (isKy (kW k) && Nat.blt (kvs.map fun p => kW p.1).length 16777216) with
              | false => rw [hb] at hq; exact nomatch hq
              | true =>
                rw [hb] at hq
                injection hq with hq
                subst hq
                simp only [Bool.and_eq_true] at hb
                have hl : kvs.length < sizeLine := by
                  rw [sizeLine_eq]
                  have := hb.2
                  unfold Nat.blt at this
                  have := Nat.le_of_ble_eq_true this
                  rw [List.length_map] at this
                  exact Nat.lt_of_succ_le this
                obtain ⟨p1, p2⟩ := put_key k r2 z
                have n1 : g2.ow A ≠ some .sh := by rw [hT]; exact nofun
                refine ⟨A, _, rfl, DPut.k hA hl, ?_⟩
                refine fin A _ _ rfl hA LD_dK LD_dK hT ?_
                exact .dic upd_same hT p1 (p2.mo (mutG_mo hA LD_dK n1))
            cases wi with
            | int k => exact .inr (key (.inl k) rfl (by cases ri; rfl))
            | str k => exact .inr (key (.inr k) rfl (by cases ri; rfl))
            | _ => exact nomatch hq
      | _ => exact nomatch hq
theorem s_ext (se : SE T n d) {id : Str} {p ap cp pos : Pos} {i : Nat} {e : Expr} {x : Ex} (h1 : c.N[i]? = some id) (h2 : VisS c.sc id) (h3 : (id == ("__debug__" : Str)) = false) (h4 : (id == ("__classdict__" : Str)) = false) (h5 : i ∈ c.own) (h6 : i ∈ M) (te : TrE T c e x) (hk : kn T x = .fr) (hl : (ap.endLine == cp.line) = true)
    (a : AtS T d c lp M X W g0 H0 g st H σE σ) (h : PoS T c fr M g0 H0 g H W D ((getv σE i st).toS σE fun x' st => match x' with
      | .lst ws => (evE T.G n d σE st x).toS σE fun y st => match y with
        | .lst ys => bif small (ws.length + ys.length) then .ok .nx (σE.set i (some (.lst (ws ++ ys)))) st else .err
        | _ => .err
      | _ => .err)) : wS X (.Expr (.Call (.Attribute (.Name id p) "extend" ap) [e] [] cp) pos) D σ H := by
  obtain ⟨w, ew, h⟩ := getv_some (h.toS a.at_.rf a.at_.wf)
  have h := h.ok a.at_.wf a.at_.rst
  obtain ⟨v, e1, hown⟩ := AtS.ownL a.at_ h5 ew
  cases w with
  | lst ws =>
    obtain ⟨A, vs, rfl, hA, hT, z⟩ := hown ws rfl
    refine (ps_expr (pe_bm PySem.F.plainAttrs_list PySem.F.slot_list_extend PySem.F.type_list_extend mt_extend (pe_var (i := i) (a.slot h1) (by rw [a.at_.ctx.sc]; exact h2) h3 h4) pa_w rfl (by rw [star_ok te]; rfl) hl (star_ok te [] X.env) rfl) rfl).w ?_
    show ∃ v, σ[i]? = some (some v) ∧ tyV X.K "list" v H ∧ wA X [e] σ H fun xs H2 => rExtend v xs H2 fun _ H3 => D.nx σ H3
    refine ⟨_, e1, .inl ⟨rfl, vs, .of hA⟩, ?_⟩
    refine (pa_cons pe_w pa_nil (star_ok te [] X.env)).w ?_
    show wE X e σ H fun v1 H1 => rExtend (.ref A) [v1] H1 fun _ H3 => D.nx σ H3
    refine se c e x te X W g st H σE σ _ a.at_ ((h.toS a.at_.rf a.at_.wf).mono fun w1 st1 g1 H1 e2 wf1 rs1 h1 v1 r1 => ?_)
    rw [hk] at r1
    cases w1 with
    | lst us =>
      rcases (show RelFr T.K H g1 H1 (.lst us) v1 from r1) with ⟨q, _⟩ | ⟨r1, _⟩
      · exact nomatch q
      · cases r1 with
        | @lst B zs _ hB hTB zb =>
          have hA1 : H1 A = some (.lst vs) := e2.keep A _ hA (by rw [hT]; exact notFld_sl i) (fun _ _ _ z => by cases z)
          have hT1 : g1.ow A = some (.sl i) := e2.tag A _ hT
          have z1 := z.mo (e2.mo a.at_.wf)
          simp only at h1
          cases hs : small (ws.length + us.length) with
          | false => rw [hs] at h1; exact h1.elim
          | true =>
            rw [hs] at h1
            have hs := Nat.le_of_ble_eq_true hs
            have n1 : g1.ow A ≠ some .sh := by rw [hT1]; exact nofun
            refine ⟨A, B, vs, zs, rfl, rfl, hA1, hB, by rw [sizeLine_eq, ← z1.length, ← zb.length]; exact hs, ?_⟩
            refine (show PoS T c fr M g0 H0 g1 H1 W D (.ok .nx (σE.set i (some (.lst (ws ++ us)))) st1) from h1) g1 _ σ (mutG_ext hA1 LD_lst hT1 h6) (mutG_wf LD_lst wf1) (mutG_st hA1 LD_lst n1 (by rw [hT1]; exact notFld_sl i) rs1) ?_
            exact (a.at_.rf.ext a.at_.wf e2).mut h5 e1 hA1 LD_lst hT1 (.lst upd_same hT1 ((z1.append zb).mo (mutG_mo hA1 LD_lst n1)))
    | _ => exact h1.elim
  | _ => exact h.elim
end
end Pv
end

section
set_option Elab.async false
set_option linter.all false
set_option maxRecDepth 100000
namespace Pv
open PySem PySem.Spec PyProof.Rows L2
section
variable {T : Tb} {n d : Nat} {c : Cfg} {fr lp : Bool} {M : List Nat} {X : Cx} {W : WX} {g0 : Gh} {H0 : Hp} {g g' : Gh} {st st' : Sto} {H H' : Hp} {σE : Fr} {σ : L2.St} {D : Ends}
/-- a tag is taken away -/
def Gh.del (g : Gh) (a : Addr) : Gh := { g with ow := fun b => if b = a then none else g.ow b }
theorem Gh.del_same {a : Addr} : (g.del a).ow a = none := if_pos rfl
theorem Gh.del_ne {a b : Addr} (h : b ≠ a) : (g.del a).ow b = g.ow b := if_neg h
theorem delA {K : PySem.W.Frag} {A : Addr} {m : Nat} (hA : g.ow A = some (.sl m)) : Mo K g H (g.del A) H where
  sh := fun b q => by rw [Gh.del_ne (fun z => by rw [z, hA] at q; cases q)]; exact q
  lst := fun _ _ h _ => h
  frz := fun _ _ _ h => h
  tup := fun _ _ h => h
  io := fun _ _ h => h
  lam := rfl
  ext := fun _ _ h => h
theorem FsR.del {A : Addr} {m n : Nat} (hA : g.ow A = some (.sl m)) : ∀ {fs : List (Nat × Pv.W)} {vs : List (Str × V)}, FsR T g H n fs vs → FsR T (g.del A) H n fs vs
  | _, _, .nil => .nil
  | _, _, .cons r rs => .cons (by
      rcases r with r | ⟨o, r⟩
      · exact .inl (r.mo (delA hA))
      · refine .inr ⟨o, ?_⟩
        cases r with
        | @lst b vs ws h1 h2 h3 => exact .lst h1 (by rw [Gh.del_ne (fun z => by rw [z, hA] at h2; cases h2)]; exact h2) (h3.mo (delA hA))
        | @dic b kvs ks ws h1 h2 k h3 => exact .dic h1 (by rw [Gh.del_ne (fun z => by rw [z, hA] at h2; cases h2)]; exact h2) k (h3.mo (delA hA))) (FsR.del hA rs)
theorem RelSt.del {A : Addr} {m : Nat} (hA : g.ow A = some (.sl m)) (r : RelSt T g st H) : RelSt T (g.del A) st H :=
  ⟨r.len, fun n o e => let ⟨x, dx, fs, h1, h2, h3⟩ := r.ob n o e; ⟨x, dx, fs, h1, h2, h3.del hA⟩, r.inj, r.na, r.lam, r.tb.ow fun p n f q => by rw [Gh.del_ne (fun z => by rw [z, hA] at q; cases q)]; exact q⟩
theorem del_wf {a : Addr} (wf : Wf g H) : Wf (g.del a) H := fun b t q => by
  by_cases hb : b = a
  · rw [hb, Gh.del_same] at q; cases q
  · rw [Gh.del_ne hb] at q; exact wf b t q
theorem del_ext {a : Addr} (e : Ext g0 H0 g' H') (h : H0 a = none) (wf : Wf g0 H0) : Ext g0 H0 (g'.del a) H' where
  tag := fun b t' q => by
    have hb : b ≠ a := fun z => by rw [z, wf.no h] at q; cases q
    rw [Gh.del_ne hb]; exact e.tag b t' q
  nt := fun b o q n => by rw [Gh.del_ne (ne_of_none q h)]; exact e.nt b o q n
  keep := e.keep
  ins := e.ins
  there := e.there
  io := e.io
  lam := e.lam
theorem s_retF (se : SE T n d) {e : Expr} {x : Ex} {pos : Pos} (te : TrE T c e x) (hk : kn T x = .fr)
    (a : AtS T d c lp M X W g0 H0 g st H σE σ) (h : PoS T c true M g0 H0 g H W D ((evE T.G n d σE st x).toS σE fun w st => .ok (.rt w) σE st)) : wS X (.Return (some e) pos) D σ H := by
  refine (ps_ret pe_w).w ?_
  show wE X e σ H D.rt
  refine se c e x te X W g st H σE σ _ a.at_ ((h.toS a.at_.rf a.at_.wf).all.mono fun w st1 g1 H1 e1 wf1 rs1 h1 v r1 => ?_)
  rw [hk] at r1
  have h1 := h1 g1 e1 wf1 rs1
  exact (show PoS T c true M g0 H0 g1 H1 W D (.ok (.rt w) σE st1) from h1) g1 H1 v ((a.en.trans (e1.toM _)).toE a.no) wf1 rs1 (r1.back fun b z => a.en.free z)
theorem s_giveF {id : Str} {p pos : Pos} {i : Nat} (h1 : c.N[i]? = some id) (h2 : VisS c.sc id) (h3 : (id == ("__debug__" : Str)) = false) (h4 : (id == ("__classdict__" : Str)) = false) (h5 : i ∈ c.own)
    (a : AtS T d c lp M X W g0 H0 g st H σE σ) (h : PoS T c true M g0 H0 g H W D ((evE T.G n d σE st (.mv i)).toS σE fun w st => .ok (.rt w) σE st)) : wS X (.Return (some (.Name id p)) pos) D σ H := by
  cases n with
  | zero => rw [evE_0] at h; exact h.elim
  | succ n =>
    simp only [evE] at h
    refine (ps_ret pe_w).w ?_
    show wE X (.Name id p) σ H D.rt
    obtain ⟨w, hw, h⟩ := getv_some (h.toS a.at_.rf a.at_.wf)
    obtain ⟨v, e2, r⟩ := a.at_.rf.at_ i w hw
    unfold SlR at r
    rw [if_pos h5] at r
    refine (pe_var (i := i) (by rw [a.at_.ctx.hN]; exact h1) (by rw [a.at_.ctx.sc]; exact h2) h3 h4).w ⟨v, e2, ?_⟩
    have fin : ∀ g2, Ext g0 H0 g2 H → Wf g2 H → RelSt T g2 st H → RelFr T.K H0 g2 H w v → D.rt v H := fun g2 e wf rs r =>
      (show PoS T c true M g0 H0 g H W D (.ok (.rt w) σE st) from h.ok a.at_.wf a.at_.rst) g2 H v e wf rs r
    rcases r with r | r
    · exact fin g (a.en.toE a.no) a.at_.wf a.at_.rst (.inl r)
    · cases r with
      | @lst A vs ws hA q r =>
        have z := sl_new a.no a.en q
        exact fin (g.del A) (del_ext (a.en.toE a.no) z a.wf0) (del_wf a.at_.wf) (a.at_.rst.del q) (.inr ⟨.lst hA Gh.del_same (r.mo (delA q)), fun b e => by cases e; exact z⟩)
      | @dic A kvs ks ws hA q k r =>
        have z := sl_new a.no a.en q
        exact fin (g.del A) (del_ext (a.en.toE a.no) z a.wf0) (del_wf a.at_.wf) (a.at_.rst.del q) (.inr ⟨.dic hA Gh.del_same k (r.mo (delA q)), fun b e => by cases e; exact z⟩)
end
end Pv
end

section
set_option Elab.async false
set_option linter.all false
set_option maxRecDepth 100000
namespace Pv
open PySem PySem.Spec PyProof.Rows L2
section
variable {T : Tb} {n d : Nat} {c : Cfg} {fr lp : Bool} {M M' : List Nat} {X : Cx} {W : WX} {g0 : Gh} {H0 : Hp} {g g' : Gh} {st st' : Sto} {H H' : Hp} {σE : Fr} {σ : L2.St} {D : Ends}
/-- one turn of a loop -/
theorem PoS.loop {r : RS} {F : Fr → Sto → RS} {N : L2.St → Hp → Prop} (s : ∀ i, i ∈ M' → i ∈ M)
    (h : PoS T c fr M g0 H0 g H W D (match r with | .ok .nx σ st => F σ st | .ok .ct σ st => F σ st | .ok .bk σ st => .ok .nx σ st | r => r))
    (k : ∀ σE' st' g' H' σ', ExtM M' g H g' H' → Wf g' H' → RelSt T g' st' H' → RelF T c g' H' σE' σ' → PoS T c fr M g0 H0 g' H' W D (F σE' st') → N σ' H') : PoS T c fr M' g0 H0 g H W { D with nx := N, ct := N, bk := D.nx } r := by
  cases r with
  | ok fl σE st =>
    cases fl with
    | rt w => exact h
    | nx => exact fun g' H' σ' e wf rs rf => k σE st g' H' σ' e wf rs rf (PoS.ext (e.up s) (show PoS T c fr M g0 H0 g H W D (F σE st) from h))
    | bk => exact fun g' H' σ' e wf rs rf => (show PoS T c fr M g0 H0 g H W D (.ok .nx σE st) from h) g' H' σ' (e.up s) wf rs rf
    | ct => exact fun g' H' σ' e wf rs rf => k σE st g' H' σ' e wf rs rf (PoS.ext (e.up s) (show PoS T c fr M g0 H0 g H W D (F σE st) from h))
  | exc ci pl σE st => exact fun g' H' dd σ' e wf rs rf rp => (show PoS T c fr M g0 H0 g H W D (.exc ci pl σE st) from h) g' H' dd σ' (e.up s) wf rs rf rp
  | err => exact h
theorem exFor_0 {G : Gb} {t : Tg} {ws : List Pv.W} {b : List Sm} : exFor G 0 d σE st t ws b = .err := by rw [exFor.eq_def]
theorem exFor_nil {G : Gb} {t : Tg} {b : List Sm} : exFor G (n + 1) d σE st t [] b = .ok .nx σE st := by rw [exFor.eq_def]
theorem exFor_cons {G : Gb} {t : Tg} {w : Pv.W} {ws : List Pv.W} {b : List Sm} : exFor G (n + 1) d σE st t (w :: ws) b = (asgT G n d σE st t w).toS σE fun σ st => match exs G n d σ st b with
      | .ok .nx σ st => exFor G n d σ st t ws b
      | .ok .ct σ st => exFor G n d σ st t ws b
      | .ok .bk σ st => .ok .nx σ st
      | r => r := by rw [exFor.eq_def] <;> rfl
theorem exWh_0 {G : Gb} {z : Ex} {b : List Sm} : exWh G 0 d σE st z b = .err := by rw [exWh.eq_def]
theorem exWh_s {G : Gb} {z : Ex} {b : List Sm} : exWh G (n + 1) d σE st z b = (evT G n d σE st z).toS σE fun t st => match t with
    | false => .ok .nx σE st
    | true => match exs G n d σE st b with
      | .ok .nx σ st => exWh G n d σ st z b
      | .ok .ct σ st => exWh G n d σ st z b
      | .ok .bk σ st => .ok .nx σ st
      | r => r := by rw [exWh.eq_def] <;> rfl
theorem AtS.down (a : AtS T d c lp M X W g0 H0 g st H σE σ) (s : ∀ i, i ∈ M' → i ∈ M) : AtS T d c lp M' X W g0 H0 g st H σE σ := ⟨a.at_, a.fn, a.hs, a.hf, a.pas, a.no, a.wf0, a.en, fun i hi => a.sub i (s i hi)⟩
theorem s_while (stt : ∀ m, m ≤ n → STt T m d) (sss : ∀ m, m ≤ n → SSs T m d) {e : Expr} {z : Ex} {b : List Stmt} {xb : List Sm} {pos : Pos} (tt : TrT T c e z) (tb : TrSs T c fr true M b xb)
    (a : AtS T d c true M X W g0 H0 g st H σE σ) (h : PoS T c fr M g0 H0 g H W D (exWh T.G n d σE st z xb)) : wS X (.While e b [] pos) D σ H := by
  refine (ps_while (a.pas rfl) pt_w pss_w).w ?_
  refine ⟨fun m σ1 H1 => m ≤ n ∧ ∃ g1 st1 σE1, ExtM M g H g1 H1 ∧ Wf g1 H1 ∧ RelSt T g1 st1 H1 ∧ RelF T c g1 H1 σE1 σ1 ∧ PoS T c fr M g0 H0 g1 H1 W D (exWh T.G m d σE1 st1 z xb), ⟨n, Nat.le_refl _, g, st, σE, .refl, a.at_.wf, a.at_.rst, a.at_.rf, h⟩, ?_⟩
  rintro m σ1 H1 ⟨hm, g1, st1, σE1, e1, wf1, rs1, rf1, h1⟩
  cases m with
  | zero => rw [exWh_0] at h1; exact h1.elim
  | succ m =>
    rw [exWh_s] at h1
    have a1 := a.ext e1 wf1 rs1 rf1
    show wT X e σ1 H1 fun b' H2 => if b' = true then ∃ N : L2.St → Hp → Prop, (∀ σ' H', N σ' H' → ∃ m', m' < m + 1 ∧ _) ∧ wSs X b { D with nx := N, ct := N, bk := D.nx } σ1 H2 else D.nx σ1 H2
    refine stt m (by omega) c e z tt X W g1 st1 H1 σE1 σ1 _ a1.at_ ((h1.toS a1.at_.rf a1.at_.wf).mono fun t st2 g2 H2 e2 wf2 rs2 h2 => ?_)
    have a2 := a1.ext (e2.toM M) wf2 rs2 (rf1.ext wf1 e2)
    cases t with
    | false => exact iteF ((show PoS T c fr M g0 H0 g2 H2 W D (.ok .nx σE1 st2) from h2) g2 H2 σ1 .refl wf2 rs2 a2.at_.rf)
    | true =>
      refine iteT ⟨fun σ3 H3 => ∃ g3 st3 σE3, ExtM M g H g3 H3 ∧ Wf g3 H3 ∧ RelSt T g3 st3 H3 ∧ RelF T c g3 H3 σE3 σ3 ∧ PoS T c fr M g0 H0 g3 H3 W D (exWh T.G m d σE3 st3 z xb), fun σ3 H3 q => ⟨m, Nat.lt_succ_self m, by omega, q⟩, ?_⟩
      refine sss m (by omega) c fr true M b xb tb X W g0 H0 g2 st2 H2 σE1 σ1 _ a2 ?_
      exact PoS.loop (fun _ h => h) h2 fun σE3 st3 g3 H3 σ3 e3 wf3 rs3 rf3 h3 => ⟨g3, st3, σE3, (e1.trans (e2.toM M)).trans e3, wf3, rs3, rf3, h3⟩
theorem s_for (si : SI T n d) (sss : ∀ m, m ≤ n → SSs T m d) {tg iter : Expr} {t : Tg} {it : Ex} {b : List Stmt} {xb : List Sm} {pos : Pos} (hs : ∀ i, i ∈ M' → i ∈ M) (ti : TrI T c M' iter it) (hns : notSet iter = true) (tt : TrTg T c tg t) (tb : TrSs T c fr true M' b xb)
    (a : AtS T d c true M X W g0 H0 g st H σE σ) (h : PoS T c fr M g0 H0 g H W D ((evI T.G n d σE st it).toS σE fun ws st => exFor T.G n d σE st t ws xb)) : wS X (.For tg iter b [] pos) D σ H := by
  refine (ps_for (a.pas rfl) a.at_.ctx.calm pi_w pg_w pss_w (hfs_of hns X.env)).w ?_
  refine si c M' iter it ti tg X W g st H σE σ _ a.at_ ((h.toS a.at_.rf a.at_.wf).mono fun ws st1 g1 H1 e1 wf1 rs1 h1 J hJ => ?_)
  refine ⟨fun i m σi Hi => m = ws.length - i ∧ i ≤ ws.length ∧ ∃ k gi sti σEi, k ≤ n ∧ ExtM M' g1 H1 gi Hi ∧ Wf gi Hi ∧ RelSt T gi sti Hi ∧ RelF T c gi Hi σEi σi ∧ PoS T c fr M g0 H0 gi Hi W D (exFor T.G k d σEi sti t (ws.drop i) xb),
    ⟨_, rfl, Nat.zero_le _, n, g1, st1, σE, Nat.le_refl _, .refl, wf1, rs1, a.at_.rf.ext a.at_.wf e1, h1⟩, ?_⟩
  rintro i m σi Hi ⟨rfl, hil, k, gi, sti, σEi, hk, ei, wfi, rsi, rfi, hi⟩
  obtain ⟨hgo, hstop⟩ := hJ i gi Hi ei wfi
  have ai : AtS T d c true M' X W g0 H0 gi sti Hi σEi σi := (a.ext ((e1.toM M).trans (ei.up hs)) wfi rsi rfi).down hs
  by_cases hlt : i < ws.length
  · right
    have hdrop : ws.drop i = ws[i] :: ws.drop (i + 1) := List.drop_eq_getElem_cons hlt
    obtain ⟨hg1, hyld⟩ := hgo ws[i] (List.getElem?_eq_getElem hlt)
    rw [hdrop] at hi
    cases k with
    | zero => rw [exFor_0] at hi; exact hi.elim
    | succ k =>
      rw [exFor_cons] at hi
      refine ⟨hg1, fun σ3 H3 => ∃ g3 st3 σE3, ExtM M' g1 H1 g3 H3 ∧ Wf g3 H3 ∧ RelSt T g3 st3 H3 ∧ RelF T c g3 H3 σE3 σ3 ∧ PoS T c fr M g0 H0 g3 H3 W D (exFor T.G k d σE3 st3 t (ws.drop (i + 1)) xb),
        fun σ3 H3 ⟨g3, st3, σE3, q⟩ => ⟨_, by omega, rfl, hlt, k, g3, st3, σE3, by omega, q⟩, fun y Hy hy => ?_⟩
      obtain ⟨g2, e2, wf2, rs2, rz⟩ := hyld y Hy hy
      have rs2 := rs2 sti rsi
      have a2 : AtS T d c true M' X W g0 H0 g2 sti Hy σEi σi := ai.ext (e2.toM M') wf2 rs2 (rfi.ext wfi e2)
      have k1 := (tg_both (d := d) c X W g2 sti Hy k).1 tg t σEi σi ws[i] y tt a2.at_ rz
      cases q : asgT T.G k d σEi sti t ws[i] with
      | err => rw [q] at hi; exact hi.elim
      | exc ci pl st' => rw [q] at k1; exact k1.elim
      | ok σ1 st2 =>
        rw [q] at hi k1
        obtain ⟨es, k1⟩ := k1
        subst es
        refine k1 _ fun σ2 rf2 _ _ => ?_
        have a3 : AtS T d c true M' X W g0 H0 g2 st2 Hy σ1 σ2 := a2.ext .refl wf2 rs2 rf2
        refine sss k (by omega) c fr true M' b xb tb X W g0 H0 g2 st2 Hy σ1 σ2 _ a3 ?_
        refine PoS.loop (M := M) (F := fun σ st => exFor T.G k d σ st t (ws.drop (i + 1)) xb) hs (PoS.ext (e2.toM M) hi) fun σE3 st3 g3 H3 σ3 e3 wf3 rs3 rf3 h3 => ⟨g3, st3, σE3, (ei.trans (e2.toM M')).trans e3, wf3, rs3, rf3, h3⟩
  · left
    have hie : i = ws.length := by omega
    refine ⟨hstop (by omega), ?_⟩
    rw [hie, List.drop_length] at hi
    cases k with
    | zero => rw [exFor_0] at hi; exact hi.elim
    | succ k => rw [exFor_nil] at hi; exact (show PoS T c fr M g0 H0 gi Hi W D (.ok .nx σEi sti) from hi) gi Hi σi .refl wfi rsi rfi
theorem s_setC (se : ∀ m, m ≤ n → SE T m d) (stt : ∀ m, m ≤ n → STt T m d) (si : ∀ m, m ≤ n → SI T m d) {y : Str} {py pos spos : Pos} {i : Nat} {elt tg iter : Expr} {ifs : List Expr} {sc' : Scope} {own : List (Str × Nat)} {x : Ex} {t : Tg} {it : Ex} {is : List Ex} {tq : Tg}
    (hy : c.N[i]? = some y) (hyl : c.sc.names.lookup y = some .local) (hkd : c.sc.kind = .function) (hl : (py.line == pos.line) = true) (hno : (sc'.names.any fun (n, k) => n == y && (k == .local || k == .cell)) = false)
    (hq : (tq = .nm i ∧ i ∉ c.own ∧ i ∉ c.bor) ∨ (tq = .own i ∧ i ∈ c.own))
    (hi : TrI T c [] iter it) (hns : notSet iter = true) (ok : BlkOk c.N c.sc sc' own) (hv : own.map (·.2) = tgS t) (ht : TrTg T { c with sc := relS sc' c.sc, fn := false, lq := none } tg t) (hifs : TrTs T { c with sc := relS sc' c.sc, fn := false, lq := none } ifs is) (hil : is.length ≤ 1) (he : TrE T { c with sc := relS sc' c.sc, fn := false, lq := none } elt x) (ho : isO x = false)
    (a : AtS T d c lp M X W g0 H0 g st H σE σ) (h : PoS T c fr M g0 H0 g H W D (((((evGs T.G n d σE st [.mk t it is] x).bind fun ws st => bif small ws.length then .ok (.lst ws) st else .err).noexc)).toS σE fun w st => (asgT T.G (n + 1) d σE st tq w).toS σE fun σ st => .ok .nx σ st)) :
    wS X (.Assign [.Name y py] (.ListComp elt [⟨tg, iter, ifs, 0⟩] sc' pos) spos) D σ H := by
  refine s_setcomp se stt si hi hns ok hv ht hifs hil he ho hy hyl (sw_true (by rw [a.at_.ctx.sc]; exact hkd) (by rw [a.at_.ctx.sc]; exact hyl) hl hno) a.at_ ((h.toS a.at_.rf a.at_.wf).all.mono fun w st1 g1 H1 e1 wf1 rs1 h1 v r1 => ?_)
  rcases hq with ⟨rfl, q1, q2⟩ | ⟨rfl, q1⟩
  · obtain ⟨g2, e2, wf2, rs2, rz⟩ := RelK.lk (k := .fr) (by decide) a.at_.wf e1 wf1 rs1 r1
    have h1 := h1 g2 e2 wf2 rs2
    rw [asgT_nm] at h1
    exact (show PoS T c fr M g0 H0 g2 H1 W D (.ok .nx (σE.set i (some w)) st1) from h1) g2 H1 _ .refl wf2 rs2 ((a.at_.rf.ext a.at_.wf e2).setZ q1 q2 rz)
  · obtain ⟨g2, e2, wf2, rs2, rf2⟩ := RelF.setOw q1 a.at_.wf wf1 e1 rs1 a.at_.rf r1
    have h1 := h1 g2 e2 wf2 rs2
    rw [asgT_own] at h1
    exact (show PoS T c fr M g0 H0 g2 H1 W D (.ok .nx (σE.set i (some w)) st1) from h1) g2 H1 _ .refl wf2 rs2 rf2
end
/-- every form of a statement -/
theorem sSt_step {T : Tb} {n d : Nat} (ses : SEs T n d) (se : ∀ m, m ≤ n → SE T m d) (stt : ∀ m, m ≤ n → STt T m d) (si : ∀ m, m ≤ n → SI T m d) (sss : ∀ m, m ≤ n → SSs T m d) : SSt T (n + 1) d := by
  intro c fr lp M s x tr X W g0 H0 g st H σE σ D a h
  cases tr with
  | setN h1 h2 h3 h4 te ho hc => simp only [ex1] at h; exact s_setN (se n (Nat.le_refl n)) h1 h2 h3 h4 te ho hc a h
  | setO h1 h2 h3 te hk hc => simp only [ex1] at h; exact s_setO (se n (Nat.le_refl n)) h1 h2 h3 te hk hc a h
  | setC hy hyl hkd hl hno q1 q2 hi hns ok hv ht hifs hil he ho =>
    simp only [ex1] at h
    cases n with
    | zero => rw [evE_0] at h; exact h.elim
    | succ n =>
      simp only [evE] at h
      exact s_setC (fun m hm => se m (by omega)) (fun m hm => stt m (by omega)) (fun m hm => si m (by omega)) hy hyl hkd hl hno (.inl ⟨rfl, q1, q2⟩) hi hns ok hv ht hifs hil he ho a h
  | setCO hy hyl hkd hl hno q1 hi hns ok hv ht hifs hil he ho =>
    simp only [ex1] at h
    cases n with
    | zero => rw [evE_0] at h; exact h.elim
    | succ n =>
      simp only [evE] at h
      exact s_setC (fun m hm => se m (by omega)) (fun m hm => stt m (by omega)) (fun m hm => si m (by omega)) hy hyl hkd hl hno (.inr ⟨rfl, q1⟩) hi hns ok hv ht hifs hil he ho a h
  | setC2 hy hyl hkd hl hno q1 q2 hi hns ok hv hN ht hifs hil hi1 hns1 ht1 hifs1 hil1 he ho =>
    simp only [ex1] at h
    cases n with
    | zero => rw [evE_0] at h; exact h.elim
    | succ n =>
      simp only [evE] at h
      exact s_setC2 (fun m hm => se m (by omega)) (fun m hm => stt m (by omega)) (fun m hm => si m (by omega)) hy hyl hkd hl hno (.inl ⟨rfl, q1, q2⟩) hi hns ok hv hN ht hifs hil hi1 hns1 ht1 hifs1 hil1 he ho a h
  | setCO2 hy hyl hkd hl hno q1 hi hns ok hv hN ht hifs hil hi1 hns1 ht1 hifs1 hil1 he ho =>
    simp only [ex1] at h
    cases n with
    | zero => rw [evE_0] at h; exact h.elim
    | succ n =>
      simp only [evE] at h
      exact s_setC2 (fun m hm => se m (by omega)) (fun m hm => stt m (by omega)) (fun m hm => si m (by omega)) hy hyl hkd hl hno (.inr ⟨rfl, q1⟩) hi hns ok hv hN ht hifs hil hi1 hns1 ht1 hifs1 hil1 he ho a h
  | setT tt te ho hc => simp only [ex1] at h; exact s_setT (se n (Nat.le_refl n)) tt te ho hc a h
  | setA to te ho => simp only [ex1] at h; exact s_setA se to te ho a h
  | aug h1 h2 h3 h4 hop te => simp only [ex1] at h; exact s_aug (se n (Nat.le_refl n)) h1 h2 h3 h4 hop te a h
  | ret te ho => simp only [ex1] at h; exact s_ret (se n (Nat.le_refl n)) te ho a h
  | give te ho hx => simp only [ex1] at h; exact s_give (se n (Nat.le_refl n)) te ho hx a h
  | retF te hk => simp only [ex1] at h; exact s_retF (se n (Nat.le_refl n)) te hk a h
  | giveF h1 h2 h3 h4 h5 => simp only [ex1] at h; exact s_giveF h1 h2 h3 h4 h5 a h
  | retN => simp only [ex1] at h; exact s_retN a h
  | ex te hc => simp only [ex1] at h; exact s_ex (se n (Nat.le_refl n)) te hc a h
  | app h1 h2 h3 h4 h5 h6 te ho hl => simp only [ex1] at h; exact s_app (se n (Nat.le_refl n)) h1 h2 h3 h4 h5 h6 te ho hl a h
  | ext h1 h2 h3 h4 h5 h6 te hk hl => simp only [ex1] at h; exact s_ext (se n (Nat.le_refl n)) h1 h2 h3 h4 h5 h6 te hk hl a h
  | rev h1 h2 h3 h4 h5 h6 hl => simp only [ex1] at h; exact s_rev h1 h2 h3 h4 h5 h6 hl a h
  | ife tt ta tb => simp only [ex1] at h; exact s_ife (stt n (Nat.le_refl n)) (sss n (Nat.le_refl n)) tt ta tb a h
  | «for» hs ti hns tt tb => simp only [ex1] at h; exact s_for (si n (Nat.le_refl n)) sss hs ti hns tt tb a h
  | «while» tt tb => simp only [ex1] at h; exact s_while stt sss tt tb a h
  | raise hg hm hx hcd hp => simp only [ex1] at h; exact s_raise hg hm hx hcd hp a h
  | par2 h1 h2 hij l1 l2 o1 o2 b1 b2 hw ts => simp only [ex1] at h; exact s_par2 ses h1 h2 hij l1 l2 o1 o2 b1 b2 hw ts a h
  | parN tt ta hl hw => simp only [ex1] at h; exact s_parN ses tt ta hl hw a h
  | «try» tb th hg hm hx => simp only [ex1] at h; exact s_try sss tb th hg hm hx a h
  | sub h1 h2 h3 h4 h5 h6 ty hy hp te ho => simp only [ex1] at h; exact s_sub se h1 h2 h3 h4 h5 h6 ty hy hp te ho a h
  | pass => simp only [ex1] at h; exact ps_pass.w (h g H σ .refl a.at_.wf a.at_.rst a.at_.rf)
  | brk => simp only [ex1] at h; exact ps_break.w (h g H σ .refl a.at_.wf a.at_.rst a.at_.rf)
  | cont => simp only [ex1] at h; exact ps_continue.w (h g H σ .refl a.at_.wf a.at_.rst a.at_.rf)
end Pv
end

section
set_option Elab.async false
set_option linter.all false
set_option maxRecDepth 100000
namespace Pv
open PySem PySem.Spec PyProof.Rows L2
structure All (T : Tb) (d n : Nat) : Prop where
  se : SE T n d
  ses : SEs T n d
  so : SO T n d
  stt : STt T n d
  sand : SAnd T n d
  sor : SOr T n d
  sta : STA T n d
  sto : STO T n d
  si : SI T n d
  sss : SSs T n d
  sst : SSt T n d
theorem sE_step {T : Tb} {n d : Nat} (ih : ∀ m, m ≤ n → All T d m) (sq : ∀ m, SQ T m d) : SE T (n + 1) d := by
  intro c e x tr X W g st H σE σ Q a h
  have i0 := ih n (Nat.le_refl n)
  have se := i0.se
  cases tr with
  | v h1 h2 h3 h4 h5 h6 => simp only [evE] at h; exact s_v h1 h2 h3 h4 h5 h6 a h
  | mv h1 h2 h3 h4 h5 h6 => simp only [evE] at h; exact s_v h1 h2 h3 h4 h5 h6 a h
  | o h1 h2 h3 h4 => simp only [evE] at h; exact s_o h1 h2 h3 h4 a h
  | kInt => simp only [evE] at h; exact pe_int.w (h g H .refl a.wf a.rst _ (.int _))
  | kBl => simp only [evE] at h; exact pe_bl.w (h g H .refl a.wf a.rst _ (.bl _))
  | kNon => simp only [evE] at h; exact pe_non.w (h g H .refl a.wf a.rst _ .non)
  | kStr => simp only [evE] at h; exact pe_str.w (h g H .refl a.wf a.rst _ (.str _))
  | tup ts hl => simp only [evE] at h; exact s_tup i0.ses ts hl a h
  | lst ts hl => simp only [evE] at h; exact s_lst i0.ses ts hl a h
  | bin ta tb hk => simp only [evE] at h; exact s_bin se ta tb hk a h
  | neg ta => simp only [evE] at h; exact s_neg se ta a h
  | cmp ta tb hm => simp only [evE] at h; exact s_cmp se (fun m _ => sq m) ta tb hm a h
  | cmp2 ta tb te hm => simp only [evE] at h; exact s_cmp2 se ta tb te hm a h
  | and ts => simp only [evE] at h; exact i0.sand c _ _ ts _ X W g st H σE σ Q a h
  | or ts => simp only [evE] at h; exact i0.sor c _ _ ts _ X W g st H σE σ Q a h
  | not ta => simp only [evE] at h; exact s_not se ta a h
  | ite tt ta tb hx hy => simp only [evE] at h; exact s_ite se i0.stt tt ta tb hx hy a h
  | call hf hg hm ts =>
    rw [kn_call hf] at h
    simp only [evE] at h; exact s_call i0.ses hf hg hm ts a h
  | call0 hf hg hm =>
    rw [kn_call hf] at h
    simp only [evE] at h
    cases n with
    | zero => rw [evEs_0] at h; exact h.elim
    | succ n => simp only [evEs] at h; exact s_call0 hf hg hm a h
  | bf hb hg hm te => exact s_bf (fun m hm => (ih m hm).se) hb hg hm te a h
  | isi1 hk hg hm hg2 hm2 te => simp only [evE] at h; exact s_isi1 se hk hg hm hg2 hm2 te a h
  | g hg hf hm rv hz =>
    simp only [evE] at h
    obtain ⟨w, hw, h1⟩ := h.o2r a.wf a.rst
    rw [hf] at hw; cases hw
    exact (pe_glob (a.ctx.gl hg) (by rw [a.ctx.hm]; exact hm) rv hg.2).w (h1 g H .refl a.wf a.rst _ (hz g H))
  | isiC hg hm hg2 hm2 hcd hne te => simp only [evE] at h; exact s_isiC se hg hm hg2 hm2 hcd hne te a h
  | isi2 k1 k2 hg hm hg1 hm1 hg2 hm2 te => simp only [evE] at h; exact s_isi2 se k1 k2 hg hm hg1 hm1 hg2 hm2 te a h
  | att te hc hf => simp only [evE] at h; exact s_att se te hc hf a h
  | make hg hm hk ts => simp only [evE] at h; exact s_make i0.ses hg hm hk ts a h
  | meth to hc hl hn ts => simp only [evE] at h; exact s_meth se i0.ses to hc hl hn ts a h
  | lam h1 h2 h3 h4 => simp only [evE] at h; exact s_lam h1 h2 h3 h4 a h
  | cv h1 h2 h3 h4 h5 h6 ts => simp only [evE] at h; exact s_cv i0.ses h1 h2 h3 h4 h5 h6 ts a h
  | ix ta tb hp => simp only [evE] at h; exact s_ix se ta tb hp a h
  | sl ta tl th => simp only [evE] at h; exact s_sl se i0.so ta tl th a h
  | comp hi hns ok hv ht hifs hil he ho => simp only [evE] at h; exact s_comp (fun m hm => (ih m hm).se) (fun m hm => (ih m hm).stt) (fun m hm => (ih m hm).si) hi hns ok hv ht hifs hil he ho a h
  | comp2 hi hns ok hv hN ht hifs hil hi1 hns1 ht1 hifs1 hil1 he ho => simp only [evE] at h; exact s_comp2 (fun m hm => (ih m hm).se) (fun m hm => (ih m hm).stt) (fun m hm => (ih m hm).si) hi hns ok hv hN ht hifs hil hi1 hns1 ht1 hifs1 hil1 he ho a h
theorem all_0 {T : Tb} {d : Nat} : All T d 0 where
  se := fun c e x tr X W g st H σE σ Q a h => by rw [evE_0] at h; exact h.elim
  ses := fun c ms e x tr X W g st H σE σ Q a h => by rw [evEs_0] at h; exact h.elim
  so := fun c e x tr X W g st H σE σ Q a h => by rw [evO.eq_def] at h; exact h.elim
  stt := fun c e x tr X W g st H σE σ Q a h => by rw [evT.eq_def] at h; exact h.elim
  sand := fun c e x tr pos X W g st H σE σ Q a h => by rw [evAnd.eq_def] at h; exact h.elim
  sor := fun c e x tr pos X W g st H σE σ Q a h => by rw [evOr.eq_def] at h; exact h.elim
  sta := fun c e x tr hn pos X W g st H σE σ Q a h => by rw [evTA.eq_def] at h; exact h.elim
  sto := fun c e x tr hn pos X W g st H σE σ Q a h => by rw [evTO.eq_def] at h; exact h.elim
  si := fun c M e x tr tg X W g st H σE σ R a h => by rw [evI.eq_def] at h; exact h.elim
  sss := fun c fr lp M s x tr X W g0 H0 g st H σE σ D a h => by rw [exs.eq_def] at h; exact h.elim
  sst := fun c fr lp M s x tr X W g0 H0 g st H σE σ D a h => by rw [ex1.eq_def] at h; exact h.elim
theorem all_step {T : Tb} {n d : Nat} (ih : ∀ m, m ≤ n → All T d m) (sq : ∀ m, SQ T m d) : All T d (n + 1) := by
  have i0 := ih n (Nat.le_refl n)
  exact ⟨sE_step ih sq, sEs_step i0.se i0.ses, sO_step i0.se, sT_step i0.se i0.stt i0.sta i0.sto (fun m _ => sq m) (fun m hm => (ih m (Nat.le_of_lt hm)).se) (fun m hm k hk => sq k),
    sAnd_step i0.se i0.sand, sOr_step i0.se i0.sor, sTA_step i0.stt i0.sta, sTO_step i0.stt i0.sto, sI_step i0.se, sSs_step i0.sst i0.sss,
    sSt_step i0.ses (fun m hm => (ih m hm).se) (fun m hm => (ih m hm).stt) (fun m hm => (ih m hm).si) (fun m hm => (ih m hm).sss)⟩
theorem all_ok {T : Tb} {d : Nat} (sq : ∀ m, SQ T m d) (n : Nat) : All T d n := by
  have h : ∀ n m, m ≤ n → All T d m := by
    intro n
    induction n with
    | zero => intro m hm; cases Nat.le_zero.mp hm; exact all_0
    | succ n ih =>
      intro m hm
      by_cases e : m = n + 1
      · subst e; exact all_step ih sq
      · exact ih m (by omega)
  exact h n n (Nat.le_refl n)
end Pv
end

section
set_option Elab.async false
set_option linter.all false
set_option maxRecDepth 100000
namespace Pv
open PySem PySem.Spec PyProof.Rows L2
/-- what is known of a def of the text: its function, its parameters' names -/
def DefC (T : Tb) (f : Nat) (fd : FDef) (fdt : FuncData) (ps : List Str) : Prop := ∃ (lq : Option Str) (name qual : Str) (params : Arguments) (body : List Stmt) (scope : Scope) (dV kV doc pm cdv ct oc : Value) (an od : Option Addr) (osl : Array (Option Value)) (N : List Str),
    fdt = PySem.W.fnOf name qual params body scope dV kV doc pm an cdv ct ∧ PySem.W.keepIn T.K (.ref (T.fa f)) = true ∧ T.K.lookup (T.fa f) = some ⟨oc, od, .func (PySem.W.fnOf name qual params body scope dV kV doc pm an cdv ct), osl⟩ ∧ PySem.W.codeIn T.K cdv qual = true ∧
    FnScope N ps scope ∧ Binds T.K (PySem.W.fnOf name qual params body scope dV kV doc pm an cdv ct) ps [] ∧ ps.length = fd.np ∧ N.length = fd.ns ∧ fd.np ≤ fd.ns ∧ (∀ i, i ∈ fd.own → fd.np ≤ i) ∧
    (∀ q, lq = some q → q = (qual ++ ".<locals>.") ++ "<lambda>" ∧ ∃ cA Pt, cdv = .ref cA ∧ (cA, Pt) ∈ T.cs ∧ (Pt, q) ∈ T.tabs ∧ ∀ p, p ∈ T.tabs → p.1 = Pt → p.2 = q) ∧
    TrSs T ⟨N, scope, fd.own, fd.bor, true, lq⟩ fd.fr true fd.own body fd.body
structure DefF (T : Tb) (f : Nat) (fd : FDef) : Prop where
  ex : ∃ fdt ps, DefC T f fd fdt ps
theorem evF_0 {G : Gb} {n f : Nat} {ws : List W} {st : Sto} : evF G n 0 f ws st = .err := by cases n <;> rw [evF.eq_def]
theorem fnOk_0 {T : Tb} {P : Program} {w : World} {base : Heap} {f : Nat} {fd : FDef} {fa : Addr} {fdt : FuncData} {ps : List Str} : FnOk P w T.K T.mg base (L2.CX P w) 0 fa fdt ps (spF T 0 f fd) := by
  have no : ∀ vs H Q E, ¬ spF T 0 f fd vs H Q E := fun vs H Q E ⟨_, n, st, g, ws, _, _, _, _, _, h⟩ => by rw [evF_0] at h; exact h
  exact ⟨fun vs H Q E h => absurd h (no vs H Q E), fun A outer s H args us vs Q E hr he hb hv hs => absurd hs (no vs H Q E)⟩
theorem evF_s {G : Gb} {n d f : Nat} {fd : FDef} {ws : List W} {st : Sto} (hf : G.fn.find f = some fd) (hl : ws.length = fd.np) : evF G (n + 1) (d + 1) f ws st =
    (match exs G n d (ws.map some ++ List.replicate (fd.ns - fd.np) none) st fd.body with
          | .ok (.rt w) _ st => .ok w st
          | .ok .nx _ st => .ok .non st
          | .ok _ _ _ => .err
          | .exc c pl _ st => .exc c pl st
          | .err => .err) := by
  rw [evF.eq_def]
  simp only [hf]
  rw [show Nat.beq ws.length fd.np = true from by rw [hl]; exact Nat.beq_refl _]
  rfl
theorem start_rel {T : Tb} {c : Cfg} {g : Gh} {H : Hp} {N : List Str} {fd : FDef} {ws : List W} {vs : List V} (ho : ∀ i, i ∈ fd.own → fd.np ≤ i) (hn : N.length = fd.ns) (hl : ws.length = fd.np) (hv : vs.length = fd.np) (h1 : c.own = fd.own) (h2 : c.bor = fd.bor)
    (ha : ∀ (i : Nat) (w : W), ws[i]? = some w → ∃ v, vs[i]? = some v ∧ (if i ∈ fd.bor then RelB T.K g H w v else RelZ T.K g H w v)) : RelF T c g H (ws.map some ++ List.replicate (fd.ns - fd.np) none) (L2.start N vs) := by
  refine ⟨by unfold L2.start; simp only [List.length_append, List.length_map, List.length_replicate]; omega, fun i w hi => ?_⟩
  by_cases hlt : i < ws.length
  · rw [List.getElem?_append_left (by simpa using hlt), List.getElem?_map] at hi
    cases e : ws[i]? with
    | none => rw [e] at hi; cases hi
    | some w' =>
      rw [e] at hi
      injection hi with hi; injection hi with hi; subst hi
      obtain ⟨v, e1, r⟩ := ha i w' e
      refine ⟨v, ?_, ?_⟩
      · unfold L2.start
        rw [List.getElem?_append_left (by rw [List.length_map]; omega), List.getElem?_map, e1]; rfl
      · unfold SlR
        rw [if_neg (by rw [h1]; intro z; have := ho i z; omega), h2]
        exact r
  · rw [List.getElem?_append_right (by simpa using hlt), List.getElem?_replicate] at hi
    split at hi <;> cases hi
/-- what is known of a lambda of the text -/
structure LamF (T : Tb) (m : Nat) (ld : LDef) : Prop where
  ex : ∃ L, T.lam m = some L ∧ FnScope L.N (L.N.take ld.np) L.scope ∧ L.N.length = ld.ns ∧ ld.np ≤ ld.ns ∧ (∀ (c : Addr) (pm ctv : Value) (us : List Value), us.length = ld.np → bindArgs (PySem.W.kla_fn "<lambda>" L.q L.params L.body L.scope [] pm (.ref c) ctv) ⟨us, []⟩ = pure ((L.N.take ld.np).zip us)) ∧
    TrE T ⟨L.N, L.scope, [], [], true, none⟩ L.body ld.body ∧ isO ld.body = false
theorem lamS_0 {T : Tb} {P : Program} {w : World} {base : Heap} {m : Nat} : LamS T P w base 0 m := fun ld hld A outer s H us vs Q E f c L n st g ws hr e0 hL hf hc rv wf rs no rz h => by
  have z : evL T.G n 0 m ws st = .err := by cases n <;> rw [evL.eq_def]
  rw [z] at h; exact h.elim
theorem evL_s {G : Gb} {n d m : Nat} {ld : LDef} {ws : List W} {st : Sto} (hf : G.lam.find m = some ld) : evL G (n + 1) (d + 1) m ws st = bif Nat.beq ws.length ld.np then evE G n d (ws.map some ++ List.replicate (ld.ns - ld.np) none) st ld.body else .err := by
  rw [evL.eq_def]
  simp only [hf]
/-- a lambda's body keeps its promise -/
theorem lam_step {T : Tb} {P : Program} {w : World} {base : Heap} {d m : Nat} (sq : ∀ m, SQ T m d) (hF : ∀ ld, T.G.lam.find m = some ld → LamF T m ld) (hC : ∀ ci cd, T.G.cls.find ci = some cd → ClsS T ci cd) (ih : ∀ k, k ≤ d → ∀ f fd, T.G.fn.find f = some fd → FnS T P w base k f fd) (il : ∀ k, k ≤ d → ∀ m, LamS T P w base k m) :
    LamS T P w base (d + 1) m := fun ld hld A outer s H us vs Q E f c L n st g ws hr e0 hL hf hc rv wf rs no rz h => by
  obtain ⟨L', hL', S, hns, hnn, hb, tr, ho⟩ := (hF ld hld).ex
  rw [hL] at hL'; cases hL'
  cases n with
  | zero => rw [evL.eq_def] at h; exact h.elim
  | succ n =>
    rw [evL_s hld] at h
    cases hbq : Nat.beq ws.length ld.np with
    | false => rw [hbq] at h; exact h.elim
    | true =>
      rw [hbq] at h
      have hlw : ws.length = ld.np := Nat.eq_of_beq_eq_true hbq
      have hlv : vs.length = ld.np := by rw [← rz.length]; exact hlw
      have hlp : (L.N.take ld.np).length = ld.np := by rw [List.length_take]; omega
      refine lam_run (k := d) hr e0 hf hc S (fun pm ctv => hb c pm ctv us (by rw [← rv.length]; exact hlv)) rv (by rw [hlp]; exact hlv) fun hr' => ⟨wE _ L.body, pe_w, ?_⟩
      have rf : RelF T ⟨L.N, L.scope, [], [], true, none⟩ g H (ws.map some ++ List.replicate (ld.ns - ld.np) none) (L2.start L.N vs) :=
        start_rel (fd := ⟨ld.np, [], [], false, ld.ns, []⟩) (fun i hi => by cases hi) hns hlw hlv rfl rfl fun i w hw => by
          obtain ⟨v, e1, r⟩ := rz.get hw
          exact ⟨v, e1, by rw [if_neg (by simp)]; exact r⟩
      have cx : CtxOk T d ⟨L.N, L.scope, [], [], true, none⟩ (cxOf (L2.CX P w) P w T.K T.mg base L.N L.q L.scope f (.ref c) A outer s H E) := ⟨rfl, S.nd, rfl, hr', rfl, rfl, rfl, ih, hC, fun _ _ => rfl, il, fun q z => by cases z⟩
      have at_ : At T d ⟨L.N, L.scope, [], [], true, none⟩ (cxOf (L2.CX P w) P w T.K T.mg base L.N L.q L.scope f (.ref c) A outer s H E) (fun cls d _ H => E cls d H) g st H (ws.map some ++ List.replicate (ld.ns - ld.np) none) (L2.start L.N vs) := ⟨cx, takes_of rfl rfl rfl rfl, wf, rs, rf⟩
      have h : Po T g H (fun cls d _ H => E cls d H) (L2.start L.N vs) (fun w st' g' H' => ∀ v, RelZ T.K g' H' w v → Q v H') (evE T.G n d (ws.map some ++ List.replicate (ld.ns - ld.np) none) st ld.body) := by
        revert h
        show Po T g H (fun c dd _ H' => E c dd H') [] _ (evE T.G n d (ws.map some ++ List.replicate (ld.ns - ld.np) none) st ld.body) → _
        cases evE T.G n d (ws.map some ++ List.replicate (ld.ns - ld.np) none) st ld.body <;> exact fun h => h
      exact (all_ok sq n).se.lk tr ho at_ h fun w1 st1 g1 H1 v a1 e1 r1 h1 => h1 v r1
/-- a def's body keeps the def's promise -/
theorem fn_stepC {T : Tb} {P : Program} {w : World} {base : Heap} {d f : Nat} {fd : FDef} {fdt : FuncData} {ps : List Str} (sq : ∀ m, SQ T m d) (hf : T.G.fn.find f = some fd) (D : DefC T f fd fdt ps) (hC : ∀ ci cd, T.G.cls.find ci = some cd → ClsS T ci cd) (hB : ∀ p, p ∈ T.cs → LamX.TabB base T.mg p.1 p.2) (ih : ∀ k, k ≤ d → ∀ f fd, T.G.fn.find f = some fd → FnS T P w base k f fd) (il : ∀ k, k ≤ d → ∀ m, LamS T P w base k m) : FnOk P w T.K T.mg base (L2.CX P w) (d + 1) (T.fa f) fdt ps (spF T (d + 1) f fd) := by
  obtain ⟨lq, name, qual, params, body, scope, dV, kV, doc, pm, cdv, ct, oc, an, od, osl, N, rfl, hk, lk, hcd, S, hb, hl, hns, hnn, ho, hlq, tr⟩ := D
  refine fn_of lk hcd S (fun vs H Q E h => by rw [h.1, hl]) fun A outer s H vs Q E hr hsp => ⟨wSs _ body, pss_w, ?_⟩
  obtain ⟨hv, n, st, g, ws, wf, rs, no, ha, hlw, h⟩ := hsp
  have hlw' : ws.length = fd.np := by rw [hlw, hv]
  cases n with
  | zero => rw [evF.eq_def] at h; exact h.elim
  | succ n =>
    rw [evF_s hf hlw'] at h
    have rf : RelF T ⟨N, scope, fd.own, fd.bor, true, lq⟩ g H (ws.map some ++ List.replicate (fd.ns - fd.np) none) (L2.start N vs) := start_rel ho hns hlw' hv rfl rfl ha
    have tk : Takes (cxOf (L2.CX P w) P w T.K T.mg base N qual scope (T.fa f) cdv A outer s H E) (fun cls d _ H => E cls d H) := takes_of rfl rfl rfl rfl
    have cx : CtxOk T d ⟨N, scope, fd.own, fd.bor, true, lq⟩ (cxOf (L2.CX P w) P w T.K T.mg base N qual scope (T.fa f) cdv A outer s H E) := ⟨rfl, S.nd, rfl, hr, rfl, rfl, rfl, ih, hC, fun _ _ => rfl, il, fun q z => by
      obtain ⟨q1, cA, Pt, q2, q3, q4, q5⟩ := hlq q z
      exact ⟨q1, cA, Pt, q2, hB _ q3, q4, q5⟩⟩
    have as_ : AtS T d ⟨N, scope, fd.own, fd.bor, true, lq⟩ true fd.own (cxOf (L2.CX P w) P w T.K T.mg base N qual scope (T.fa f) cdv A outer s H E) (fun cls d _ H => E cls d H) g H g st H (ws.map some ++ List.replicate (fd.ns - fd.np) none) (L2.start N vs) :=
      ⟨⟨cx, tk, wf, rs, rf⟩, fun _ => rfl, rfl, rfl, fun _ => passes_of rfl, no, wf, .refl, fun _ h => h⟩
    refine (all_ok sq n).sss _ _ _ _ _ _ tr _ _ g H g st H _ _ _ as_ ?_
    revert h
    cases exs T.G n d (ws.map some ++ List.replicate (fd.ns - fd.np) none) st fd.body with
    | ok fl σE st' =>
      cases fl with
      | rt w1 => exact fun h g' H' v e wf' rs' r => h g' H' e wf' rs' v r
      | nx =>
        exact fun h g' H' σ' e wf' rs' rf' => h g' H' (e.toE no) wf' rs' .non (by
          cases fd.fr with
          | false => exact .non
          | true => exact fr_of rfl .non)
      | bk => exact fun h => h.elim
      | ct => exact fun h => h.elim
    | exc ci pl σE st' => exact fun h g' H' dd σ' e wf' rs' rf' rp => h g' H' dd (e.toE no) wf' rs' rp
    | err => exact fun h => h
theorem DefC.kb {T : Tb} {f : Nat} {fd : FDef} {fdt : FuncData} {ps : List Str} (D : DefC T f fd fdt ps) : PySem.W.keepIn T.K (.ref (T.fa f)) = true ∧ Binds T.K fdt ps [] ∧ ps.length = fd.np := by
  obtain ⟨lq, name, qual, params, body, scope, dV, kV, doc, pm, cdv, ct, oc, an, od, osl, N, rfl, hk, lk, hcd, S, hb, hl, _⟩ := D
  exact ⟨hk, hb, hl⟩
theorem fn_step {T : Tb} {P : Program} {w : World} {base : Heap} {d f : Nat} {fd : FDef} (sq : ∀ m, SQ T m d) (hf : T.G.fn.find f = some fd) (D : DefF T f fd) (hC : ∀ ci cd, T.G.cls.find ci = some cd → ClsS T ci cd) (hB : ∀ p, p ∈ T.cs → LamX.TabB base T.mg p.1 p.2) (ih : ∀ k, k ≤ d → ∀ f fd, T.G.fn.find f = some fd → FnS T P w base k f fd) (il : ∀ k, k ≤ d → ∀ m, LamS T P w base k m) : FnS T P w base (d + 1) f fd := by
  obtain ⟨fdt, ps, D⟩ := D.ex
  obtain ⟨hk, hb, hl⟩ := D.kb
  exact ⟨fdt, ps, hk, hb, hl, fn_stepC sq hf D hC hB ih il⟩
theorem fns_ok {T : Tb} {P : Program} {w : World} {base : Heap} (sq : ∀ d m, SQ T m d) (hC : ∀ ci cd, T.G.cls.find ci = some cd → ClsS T ci cd) (hD : ∀ f fd, T.G.fn.find f = some fd → DefF T f fd) (hL : ∀ m ld, T.G.lam.find m = some ld → LamF T m ld) (hB : ∀ p, p ∈ T.cs → LamX.TabB base T.mg p.1 p.2) :
    ∀ d k, k ≤ d → (∀ f fd, T.G.fn.find f = some fd → FnS T P w base k f fd) ∧ ∀ m, LamS T P w base k m := by
  have h0 : ∀ f fd, T.G.fn.find f = some fd → FnS T P w base 0 f fd := fun f fd hf => by
    obtain ⟨fdt, ps, D⟩ := (hD f fd hf).ex
    obtain ⟨hk, hb, hl⟩ := D.kb
    exact ⟨fdt, ps, hk, hb, hl, fnOk_0⟩
  intro d
  induction d with
  | zero => intro k hk; cases Nat.le_zero.mp hk; exact ⟨h0, fun m => lamS_0⟩
  | succ d ih =>
    intro k hk
    by_cases e : k = d + 1
    · subst e; exact ⟨fun f fd hf => fn_step (sq d) hf (hD f fd hf) hC hB (fun k hk => (ih k hk).1) (fun k hk => (ih k hk).2), fun m => lam_step (sq d) (hL m) hC (fun k hk => (ih k hk).1) (fun k hk => (ih k hk).2)⟩
    · exact ih k (by omega)
end Pv
end

section
set_option Elab.async false
set_option linter.all false
set_option maxRecDepth 100000
namespace Pv
open PySem PySem.Spec PyProof.Rows L2
theorem hk_fn {fn : List He.DefD} {tf : List He.Defn} {ex : PySem.W.Frag → Bool} {w : World} {h : Heap} {K : PySem.W.Frag} (c : He.SaysX [] fn [] tf ex w h K) {d : He.DefD} (m : d ∈ fn) :
    ∃ fd, FunD K d.name d.qual d.params d.body d.scope (d.dvs K) (d.kws K) (He.fAd K d.at_) fd := He.SaysD.defs c.t.d m
def seeX (n : Nat) (fn : List He.DefD) (tf : List He.Defn) (ex : PySem.W.Frag → Bool) (s : PySem.W.SharedT) : He.AlX := He.obsX n [] fn [] tf ex (HandSHeadRun.getT s)
theorem seeX_eq {n : Nat} {fn : List He.DefD} {tf : List He.Defn} {ex : PySem.W.Frag → Bool} (s : PySem.W.SharedT) : seeX n fn tf ex s = (He.hookX n [] fn [] tf ex).obs s.abs := He.obsX_eq (HandSHeadRun.getT_eq s)
end Pv
end

section
set_option Elab.async false
set_option linter.all false
set_option maxRecDepth 100000
namespace Pv
open PySem PySem.Spec PyProof.Rows L2

/-! ### the checker: from the model's text and mine to TrSs -/
structure Ck where
  G : Gb
  nm : Nat → Str
  gf : Nat → Bool
  gc : Nat → Bool
  xc : Nat → Bool
  xq : Nat → Bool
  fre : List Str
  of_ : Nat → Bool
  lam : Nat → Option LamD
structure Fcs (T : Tb) (C : Ck) : Prop where
  hG : T.G = C.G
  hn : T.nm = C.nm
  ho : T.ownF = C.of_
  hl : T.lam = C.lam
  fn : ∀ f, C.gf f = true → T.mg (T.nm f) = some (.ref (T.fa f))
  cl : ∀ c, C.gc c = true → T.mg (T.nm c) = some (.ref (T.ca c)) ∧ PySem.W.keepIn T.K (.ref (T.ca c)) = true
  fr : ∀ x, x ∈ C.fre → T.mg x = none
  co : ∀ id w, T.G.con.find id = some w → ∃ v u, T.mg (T.nm id) = some u ∧ RelV v u ∧ ∀ g H, RelZ T.K g H w v
  ex : ∀ c, C.xc c = true → ExcP T c
  xm : ∀ c, C.xq c = true → ∀ e b, catches T.G c e = some b → PySem.W.exmOne T.K (.ref (T.ca e)) (.ref (T.ca c)) = some b

theorem sEq_eq {x y : Str} (h : strEq x y = true) : x = y := by
  unfold strEq at h
  have h := eq_of_beq h
  obtain ⟨⟨a⟩⟩ := x; obtain ⟨⟨b⟩⟩ := y
  simp at h; rw [h]
theorem sEq_ne {x y : Str} (h : strEq x y = false) : x ≠ y := fun e => by
  subst e; unfold strEq at h; simp at h
def lk : List (Str × NameKind) → Str → Option NameKind
  | [], _ => none
  | (y, k) :: r, x => bif strEq x y then some k else lk r x
theorem lk_eq : ∀ (l : List (Str × NameKind)) (x : Str), lk l x = l.lookup x
  | [], _ => rfl
  | (y, k) :: r, x => by
    unfold lk List.lookup
    cases h : strEq x y with
    | true => rw [sEq_eq h]; simp
    | false => rw [show (x == y) = false from beq_eq_false_iff_ne.mpr (sEq_ne h)]; exact lk_eq r x
def kLoc : Option NameKind → Bool | some .local => true | _ => false
def kLC : Option NameKind → Bool | some .local | some .cell => true | _ => false
def kLCF : Option NameKind → Bool | some .local | some .cell | some .free => true | _ => false
def kCF : Option NameKind → Bool | some .cell | some .free => true | _ => false
def kG : Option NameKind → Bool | some .globalImplicit => true | _ => false
theorem kLoc_ok {o : Option NameKind} (h : kLoc o = true) : o = some .local := by cases o with | none => cases h | some k => cases k <;> first | rfl | cases h
theorem kLC_ok {o : Option NameKind} (h : kLC o = true) : o = some .local ∨ o = some .cell := by cases o with | none => cases h | some k => cases k <;> first | exact .inl rfl | exact .inr rfl | cases h
theorem kLCF_ok {o : Option NameKind} (h : kLCF o = true) : o = some .local ∨ o = some .cell ∨ o = some .free := by cases o with | none => cases h | some k => cases k <;> first | exact .inl rfl | exact .inr (.inl rfl) | exact .inr (.inr rfl) | cases h
theorem kCF_ok {o : Option NameKind} (h : kCF o = true) : o = some .cell ∨ o = some .free := by cases o with | none => cases h | some k => cases k <;> first | exact .inl rfl | exact .inr rfl | cases h
theorem kG_ok {o : Option NameKind} (h : kG o = true) : o = some .globalImplicit := by cases o with | none => cases h | some k => cases k <;> first | rfl | cases h
def dbg : Str := "__debug__"
def cdc : Str := "__classdict__"
def at? (c : Cfg) (i : Nat) (id : Str) : Bool := match c.N[i]? with | some y => strEq y id | none => false
theorem at?_ok {c : Cfg} {i : Nat} {id : Str} (h : at? c i id = true) : c.N[i]? = some id := by
  unfold at? at h
  cases e : c.N[i]? with
  | none => rw [e] at h; cases h
  | some y => rw [e] at h; rw [sEq_eq h]
def visB (sc : Scope) (id : Str) : Bool := kLCF (lk sc.names id)
theorem visB_ok {sc : Scope} {id : Str} (h : visB sc id = true) : VisS sc id := by
  have := kLCF_ok h; rw [lk_eq] at this; exact this
def locB (sc : Scope) (id : Str) : Bool := kLC (lk sc.names id)
theorem locB_ok {sc : Scope} {id : Str} (h : locB sc id = true) : LocS sc id := by
  have := kLC_ok h; rw [lk_eq] at this; exact this
def plB (sc : Scope) (id : Str) : Bool := kLoc (lk sc.names id)
theorem plB_ok {sc : Scope} {id : Str} (h : plB sc id = true) : sc.names.lookup id = some .local := by
  have := kLoc_ok h; rw [lk_eq] at this; exact this
def glB (sc : Scope) (id : Str) : Bool := kG (lk sc.names id) && !strEq id dbg
theorem nb {x y : Str} (h : (!strEq x y) = true) : (x == y) = false := beq_eq_false_iff_ne.mpr (sEq_ne (by simpa using h))
theorem glB_ok {sc : Scope} {id : Str} (h : glB sc id = true) : GlS sc id := by
  unfold glB at h; rw [Bool.and_eq_true] at h
  have := kG_ok h.1; rw [lk_eq] at this; exact ⟨this, nb h.2⟩
def rdB (c : Cfg) (i : Nat) (id : Str) : Bool := at? c i id && visB c.sc id && !strEq id dbg && !strEq id cdc
theorem rdB_ok {c : Cfg} {i : Nat} {id : Str} (h : rdB c i id = true) : c.N[i]? = some id ∧ VisS c.sc id ∧ (id == ("__debug__" : Str)) = false ∧ (id == ("__classdict__" : Str)) = false := by
  unfold rdB at h; simp only [Bool.and_eq_true] at h
  exact ⟨at?_ok h.1.1.1, visB_ok h.1.1.2, nb h.1.2, nb h.2⟩
def nin (i : Nat) (l : List Nat) : Bool := l.all fun j => !Nat.beq j i
theorem nin_ok {i : Nat} {l : List Nat} (h : nin i l = true) : i ∉ l := fun m => by
  have := List.all_eq_true.mp h i m; simp at this
def isin (i : Nat) (l : List Nat) : Bool := l.any fun j => Nat.beq j i
theorem isin_ok {i : Nat} {l : List Nat} (h : isin i l = true) : i ∈ l := by
  obtain ⟨j, m, e⟩ := List.any_eq_true.mp h
  rw [← Nat.eq_of_beq_eq_true e]; exact m
def freB (C : Ck) (x : Str) : Bool := C.fre.any fun y => strEq y x
theorem freB_ok {T : Tb} {C : Ck} (F : Fcs T C) {x : Str} (h : freB C x = true) : T.mg x = none := by
  obtain ⟨y, m, e⟩ := List.any_eq_true.mp h
  rw [← sEq_eq e]; exact F.fr y m
def bopB : Bo → Operator → Bool
  | .add, .Add | .sub, .Sub | .mul, .Mult | .rep, .Mult | .mod, .Mod | .fdiv, .FloorDiv | .pow, .Pow => true
  | _, _ => false
theorem bopB_ok {o : Bo} {p : Operator} (h : bopB o p = true) : p = bopOf o := by cases o <;> cases p <;> first | rfl | cases h
def copB : Co → CmpOp → Bool
  | .eq, .Eq | .ne, .NotEq | .lt, .Lt | .le, .LtE | .gt, .Gt | .ge, .GtE | .isN, .Is | .notN, .IsNot | .mem, .In | .nmem, .NotIn => true
  | _, _ => false
theorem copB_ok {o : Co} {p : CmpOp} (h : copB o p = true) : p = copOf o := by cases o <;> cases p <;> first | rfl | cases h
def bfn : Bf → Option (Str × Value)
  | .len => some ("len", .builtin "len") | .all => some ("all", .builtin "all") | .any => some ("any", .builtin "any")
  | .list => some ("list", .type "list") | .tuple => some ("tuple", .type "tuple") | .int => some ("int", .type "int")
  | _ => none
theorem bfn_ok {b : Bf} {x : Str} {u : Value} (h : bfn b = some (x, u)) : BfV b x u := by
  cases b <;> first | (injection h with h; injection h with h1 h2; subst h1; subst h2; first | exact .len | exact .all | exact .any | exact .list | exact .tuple | exact .int) | cases h
theorem plainIx_of {b : Expr} (h : (match b with | .Slice _ _ _ _ => false | _ => true) = true) : PlainIx b := by
  cases b <;> first | (intro o i; rfl) | cases h
def isFrK (T : Kn) : Bool := match T with | .fr => true | _ => false
theorem isFrK_ok {k : Kn} (h : isFrK k = true) : k = .fr := by cases k <;> first | rfl | cases h
/-- kn by the tables alone -/
def knG (G : Gb) : Ex → Kn
  | .o _ => .bo
  | .lst _ | .dct _ _ | .comp _ _ | .dcomp _ _ _ | .sortk _ _ | .bin _ _ _ | .sl _ _ _ => .fr
  | .bf b _ => match b with | .list | .sorted | .dict => .fr | _ => .lk
  | .call f _ => match G.fn.find f with | some fd => if fd.fr then .fr else .lk | none => .lk
  | _ => .lk
theorem knG_eq {T : Tb} {x : Ex} : knG T.G x = kn T x := by
  cases x <;> first | rfl | (rename_i b _; cases b <;> rfl)
def kStr (a b : Str) : Bool := strEq a b
def kB (k : Const) (w : W) : Bool := match w with
  | .int i => (match k with | .int j => decide (j = i) | _ => false)
  | .bl b => (match k with | .bool a => a == b | _ => false)
  | .non => (match k with | .none => true | _ => false)
  | .str x => (match k with | .str y => strEq y x | _ => false)
  | _ => false
/-! comprehensions' scopes -/
def ownsOf (N : List Str) (l : List Nat) : List (Str × Nat) := l.map fun i => (N.getD i dbg, i)
def kFr : NameKind → Bool | .free => true | _ => false
def kLoC : NameKind → Bool | .local | .cell => true | _ => false
def eqK (a : Option NameKind) (k : NameKind) : Bool := match a, k with
  | some .local, .local | some .cell, .cell | some .free, .free | some .globalExplicit, .globalExplicit | some .globalImplicit, .globalImplicit => true
  | _, _ => false
theorem eqK_ok {a : Option NameKind} {k : NameKind} (h : eqK a k = true) : a = some k := by
  cases a with
  | none => cases k <;> cases h
  | some b => cases b <;> cases k <;> first | rfl | cases h
def isFun : ScopeKind → Bool | .function => true | _ => false
theorem isFun_ok {k : ScopeKind} (h : isFun k = true) : k = .function := by cases k <;> first | rfl | cases h
def blkB (N : List Str) (sc sc' : Scope) (l : List Nat) : Bool :=
  isFun sc'.kind && sc'.names.all (fun y => eqK (lk sc'.names y.1) y.2) && l.all (fun i => Nat.blt i N.length) &&
  sc'.names.all (fun y => bif kFr y.2 then kCF (lk sc.names y.1) else true) &&
  sc'.names.all (fun y => bif kLoC y.2 then ((ownsOf N l).any (fun p => strEq p.1 y.1) || N.all (fun z => !strEq z y.1)) else true)
theorem blkB_ok {N : List Str} {sc sc' : Scope} {l : List Nat} (h : blkB N sc sc' l = true) : BlkOk N sc sc' (ownsOf N l) ∧ (ownsOf N l).map (·.2) = l := by
  unfold blkB at h
  simp only [Bool.and_eq_true, List.all_eq_true] at h
  obtain ⟨⟨⟨⟨h1, h2⟩, h3⟩, h4⟩, h5⟩ := h
  refine ⟨⟨isFun_ok h1, fun y m => ?_, fun p m => ?_, fun y m e => ?_, fun y m e => ?_⟩, ?_⟩
  · have := eqK_ok (h2 y m); rw [lk_eq] at this; exact this
  · obtain ⟨i, mi, rfl⟩ := List.mem_map.mp m
    have hi : i < N.length := Nat.le_of_ble_eq_true (h3 i mi)
    show N[i]? = some (N.getD i dbg)
    rw [List.getD_eq_getElem?_getD, List.getElem?_eq_getElem hi]; rfl
  · have := h4 y m
    rw [e] at this
    have := kCF_ok this; rw [lk_eq] at this; exact this
  · have z := h5 y m
    have k : kLoC y.2 = true := by rcases e with e | e <;> rw [e] <;> rfl
    rw [k] at z
    have z : ((ownsOf N l).any (fun p => strEq p.1 y.1) || N.all (fun z => !strEq z y.1)) = true := z
    rw [Bool.or_eq_true] at z
    rcases z with z | z
    · obtain ⟨p, mp, ep⟩ := List.any_eq_true.mp z
      exact .inl (List.mem_map.mpr ⟨p, mp, sEq_eq ep⟩)
    · refine .inr fun mm => ?_
      have := List.all_eq_true.mp z _ mm
      simp [strEq] at this
  · unfold ownsOf; rw [List.map_map]; exact List.map_id' l
def nSl : Expr → Bool
  | .Slice _ _ _ _ => false
  | _ => true

/-! equality of texts -/
def posB (a b : Pos) : Bool := Nat.beq a.line b.line && Nat.beq a.col b.col && Nat.beq a.endLine b.endLine && Nat.beq a.endCol b.endCol
theorem posB_ok {a b : Pos} (h : posB a b = true) : a = b := by
  obtain ⟨a1, a2, a3, a4⟩ := a
  obtain ⟨b1, b2, b3, b4⟩ := b
  unfold posB at h
  simp only [Bool.and_eq_true] at h
  obtain ⟨⟨⟨h1, h2⟩, h3⟩, h4⟩ := h
  rw [Nat.eq_of_beq_eq_true h1, Nat.eq_of_beq_eq_true h2, Nat.eq_of_beq_eq_true h3, Nat.eq_of_beq_eq_true h4]
mutual
def eqX : Nat → Expr → Expr → Bool
  | 0, _, _ => false
  | n + 1, a, b => match a, b with
    | .Name x p, .Name y q => strEq x y && posB p q
    | .Constant u i p, .Constant v j q => decide (u = v) && Nat.beq i j && posB p q
    | .Call f es [] p, .Call g ds [] q => eqX n f g && eqXs n es ds && posB p q
    | .Tuple es i p, .Tuple ds j q => eqXs n es ds && Nat.beq i j && posB p q
    | .List es p, .List ds q => eqXs n es ds && posB p q
    | .Attribute a x p, .Attribute b y q => eqX n a b && strEq x y && posB p q
    | _, _ => false
def eqXs : Nat → List Expr → List Expr → Bool
  | 0, _, _ => false
  | n + 1, as, bs => match as, bs with
    | [], [] => true
    | a :: as, b :: bs => eqX n a b && eqXs n as bs
    | _, _ => false
end
theorem eqX_both : ∀ n, (∀ a b, eqX n a b = true → a = b) ∧ ∀ as bs, eqXs n as bs = true → as = bs
  | 0 => ⟨fun _ _ h => (by unfold eqX at h; cases h), fun _ _ h => (by unfold eqXs at h; cases h)⟩
  | n + 1 => by
    obtain ⟨i1, i2⟩ := eqX_both n
    refine ⟨fun a b h => ?_, fun as bs h => ?_⟩
    · unfold eqX at h
      split at h
      · rw [Bool.and_eq_true] at h; rw [sEq_eq h.1, posB_ok h.2]
      · simp only [Bool.and_eq_true] at h; rw [of_decide_eq_true h.1.1, Nat.eq_of_beq_eq_true h.1.2, posB_ok h.2]
      · simp only [Bool.and_eq_true] at h; rw [i1 _ _ h.1.1, i2 _ _ h.1.2, posB_ok h.2]
      · simp only [Bool.and_eq_true] at h; rw [i2 _ _ h.1.1, Nat.eq_of_beq_eq_true h.1.2, posB_ok h.2]
      · simp only [Bool.and_eq_true] at h; rw [i2 _ _ h.1, posB_ok h.2]
      · simp only [Bool.and_eq_true] at h; rw [i1 _ _ h.1.1, sEq_eq h.1.2, posB_ok h.2]
      · cases h
    · unfold eqXs at h
      split at h
      · rfl
      · rw [Bool.and_eq_true] at h; rw [i1 _ _ h.1, i2 _ _ h.2]
      · cases h
def argB (a b : Arg) : Bool := strEq a.arg b.arg && posB a.pos b.pos && a.annotation.isNone && b.annotation.isNone
theorem argB_ok {a b : Arg} (h : argB a b = true) : a = b := by
  obtain ⟨x, u, p⟩ := a
  obtain ⟨y, v, q⟩ := b
  unfold argB at h
  simp only [Bool.and_eq_true] at h
  obtain ⟨⟨⟨h1, h2⟩, h3⟩, h4⟩ := h
  have e1 := sEq_eq h1
  have e2 := posB_ok h2
  have e3 : u = none := by cases u <;> first | rfl | cases h3
  have e4 : v = none := by cases v <;> first | rfl | cases h4
  rw [e1, e2, e3, e4]
def argsEq : List Arg → List Arg → Bool
  | [], [] => true
  | a :: as, b :: bs => argB a b && argsEq as bs
  | _, _ => false
theorem argsEq_ok : ∀ {a b : List Arg}, argsEq a b = true → a = b
  | [], [], _ => rfl
  | [], _ :: _, h => by cases h
  | _ :: _, [], h => by cases h
  | a :: as, b :: bs, h => by
    unfold argsEq at h
    rw [Bool.and_eq_true] at h
    rw [argB_ok h.1, argsEq_ok h.2]
def parB (a b : Arguments) : Bool := match a, b with
  | ⟨[], as, none, [], [], none, []⟩, ⟨[], bs, none, [], [], none, []⟩ => argsEq as bs
  | _, _ => false
theorem parB_ok {a b : Arguments} (h : parB a b = true) : a = b ∧ ∀ env : Env, defaultsOf b env = ([], []) := by
  unfold parB at h
  split at h
  · rw [argsEq_ok h]; exact ⟨rfl, fun _ => rfl⟩
  · cases h
def lamB (L : LamD) (params : Arguments) (body : Expr) (scope : Scope) : Bool := parB params L.params && eqX 60 body L.body && decide (scope = L.scope) && L.scope.names.all fun y => !kFr y.2
theorem lamB_ok {L : LamD} {params : Arguments} {body : Expr} {scope : Scope} (h : lamB L params body scope = true) : params = L.params ∧ body = L.body ∧ scope = L.scope ∧ (∀ env : Env, defaultsOf L.params env = ([], [])) ∧ noFree L.scope := by
  unfold lamB at h
  simp only [Bool.and_eq_true] at h
  obtain ⟨⟨⟨h1, h2⟩, h3⟩, h4⟩ := h
  obtain ⟨p1, p2⟩ := parB_ok h1
  exact ⟨p1, (eqX_both 60).1 _ _ h2, of_decide_eq_true h3, p2, fun y m e => by have := List.all_eq_true.mp h4 y m; rw [e] at this; cases this⟩
def someEq (a : Option Str) (b : Str) : Bool := match a with | some x => strEq x b | none => false
mutual
def ckE (C : Ck) : Nat → Cfg → Expr → Ex → Bool
  | 0, _, _, _ => false
  | n + 1, c, e, x => match x with
    | .v i => (match e with | .Name id _ => rdB c i id && nin i c.own && nin i c.bor | _ => false)
    | .mv i => (match e with | .Name id _ => rdB c i id && nin i c.own && nin i c.bor | _ => false)
    | .o i => (match e with | .Name id _ => rdB c i id | _ => false)
    | .k w => (match e with | .Constant k _ _ => kB k w | _ => false)
    | .g id => (match e with | .Name y _ => strEq y (C.nm id) && glB c.sc y && (C.G.con.find id).isSome | _ => false)
    | .tup xs => (match e with | .Tuple es _ _ => ckEs C n c [] es xs && Nat.ble es.length 1000 | _ => false)
    | .lst xs => (match e with | .List es _ => ckEs C n c [] es xs && Nat.ble es.length 1000 | _ => false)
    | .bin op x y => (match e with | .BinOp a p b _ => bopB op p && ckE C n c a x && ckE C n c b y && (match op with | .rep => isFrK (knG C.G x) | _ => true) | _ => false)
    | .neg x => (match e with | .UnaryOp .USub a _ => ckE C n c a x | _ => false)
    | .cmp op x y => (match e with | .Compare a [p] [b] _ => copB op p && ckE C n c a x && ckE C n c b y && !behindInMarks p b | _ => false)
    | .cmp2 op op' x y z => (match e with | .Compare a [p, p'] [b, d] _ => copB op p && copB op' p' && ckE C n c a x && ckE C n c b y && ckE C n c d z && !behindInMarks p' d | _ => false)
    | .and xs => (match e with | .BoolOp .And es _ => ckEs C n c [] es xs | _ => false)
    | .or xs => (match e with | .BoolOp .Or es _ => ckEs C n c [] es xs | _ => false)
    | .not x => (match e with | .UnaryOp .Not a _ => ckE C n c a x | _ => false)
    | .ite z x y => (match e with | .IfExp t a b _ => ckT C n c t z && ckE C n c a x && ckE C n c b y && !isO x && !isO y | _ => false)
    | .call f xs => (match e with
      | .Call (.Name id _) es [] _ => (match C.G.fn.find f with
        | some fd => strEq id (C.nm f) && glB c.sc id && C.gf f && (match es with
          | [] => xs.isEmpty
          | _ :: _ => ckEs C n c ((List.range fd.np).map fun i => decide (i ∈ fd.bor)) es xs)
        | none => false)
      | _ => false)
    | .make ci xs => (match e with
      | .Call (.Name id _) es [] _ => strEq id (C.nm ci) && glB c.sc id && C.gc ci && ckEs C n c [] es xs && !es.isEmpty
      | _ => false)
    | .meth y m xs => (match e with
      | .Call (.Attribute o a p) es [] pos => strEq a (C.nm m) && ckE C n c o y && notCall o && (p.endLine == pos.line) && Nat.blt es.length 30 && ckEs C n c [] es xs
      | _ => false)
    | .bf b xs => (match e with
      | .Call (.Name id _) es [] _ => (match bfn b with
        | some (x, _) => strEq id x && glB c.sc id && freB C id && (match es, xs with | [e], [x] => ckE C n c e x | _, _ => false)
        | none => false)
      | _ => false)
    | .isi x ks => (match e with
      | .Call (.Name id _) [a, t] [] _ => strEq id "isinstance" && glB c.sc id && freB C id && ckE C n c a x && (match t with
        | .Name y _ => (match ks with
          | [.cls ci] => strEq y (C.nm ci) && glB c.sc y && C.gc ci && (match C.G.cls.find ci with | some cd => !cd.isExc | none => false)
          | [k] => (match clsName k with | some nm => strEq y (Str.ofString nm) && glB c.sc y && freB C y | none => false)
          | _ => false)
        | .Tuple [.Name y1 _, .Name y2 _] _ _ => (match ks with
          | [k1, k2] => (match clsName k1, clsName k2 with
            | some n1, some n2 => strEq y1 (Str.ofString n1) && glB c.sc y1 && freB C y1 && strEq y2 (Str.ofString n2) && glB c.sc y2 && freB C y2
            | _, _ => false)
          | _ => false)
        | _ => false)
      | _ => false)
    | .att x f => (match e with | .Attribute a y _ => strEq y (C.nm f) && ckE C n c a x && notCall a && !C.of_ f | _ => false)
    | .ix x y => (match e with | .Subscript a b _ => ckE C n c a x && ckE C n c b y && nSl b | _ => false)
    | .sl x l h => (match e with | .Subscript a (.Slice lo hi none _) _ => ckE C n c a x && ckO C n c lo l && ckO C n c hi h | _ => false)
    | .lam m caps => (match e with
      | .Lambda params body scope _ => (match C.lam m with | some L => caps.isEmpty && someEq c.lq L.q && lamB L params body scope | none => false)
      | _ => false)
    | .cv i xs => (match e with
      | .Call (.Name id _) es [] _ => rdB c i id && nin i c.own && nin i c.bor && ckEs C n c [] es xs && !es.isEmpty
      | _ => false)
    | .comp x gs => (match e with
      | .ListComp elt [⟨tg, iter, ifs, 0⟩] sc' _ => (match gs with
        | [.mk t it is] => ckI C n c [] iter it && notSet iter && blkB c.N c.sc sc' (tgS t) && ckTg C n { c with sc := relS sc' c.sc, fn := false, lq := none } tg t && ckTs C n { c with sc := relS sc' c.sc, fn := false, lq := none } ifs is && Nat.ble is.length 1 && ckE C n { c with sc := relS sc' c.sc, fn := false, lq := none } elt x && !isO x
        | _ => false)
      | .ListComp elt [⟨tg, iter, ifs, 0⟩, ⟨tg1, iter1, ifs1, 0⟩] sc' _ => (match gs with
        | [.mk t it is, .mk t1 it1 is1] => ckI C n c [] iter it && notSet iter && blkB c.N c.sc sc' (tgS t ++ tgS t1) && nin c.N.length c.own && ckTg C n { c with sc := relS sc' c.sc, fn := false, lq := none } tg t && ckTs C n { c with sc := relS sc' c.sc, fn := false, lq := none } ifs is && Nat.ble is.length 1 &&
          ckI C n { c with sc := relS sc' c.sc, fn := false, lq := none } [c.N.length] iter1 it1 && notSet iter1 && ckTg C n { c with sc := relS sc' c.sc, fn := false, lq := none } tg1 t1 && ckTs C n { c with sc := relS sc' c.sc, fn := false, lq := none } ifs1 is1 && Nat.ble is1.length 1 && ckE C n { c with sc := relS sc' c.sc, fn := false, lq := none } elt x && !isO x
        | _ => false)
      | _ => false)
    | _ => false
def ckEs (C : Ck) : Nat → Cfg → List Bool → List Expr → List Ex → Bool
  | 0, _, _, _, _ => false
  | n + 1, c, ms, es, xs => match es, xs with
    | [], [] => true
    | e :: es, x :: xs => (match ms with
      | m :: ms => ckE C n c e x && (m || !isO x) && ckEs C n c ms es xs
      | [] => ckE C n c e x && !isO x && ckEs C n c [] es xs)
    | _, _ => false
def ckO (C : Ck) : Nat → Cfg → Option Expr → Option Ex → Bool
  | 0, _, _, _ => false
  | n + 1, c, e, x => match e, x with
    | none, none => true
    | some e, some x => ckE C n c e x
    | _, _ => false
def ckT (C : Ck) : Nat → Cfg → Expr → Ex → Bool
  | 0, _, _, _ => false
  | n + 1, c, e, z => match e with
    | .UnaryOp .Not a _ => (match z with | .not x => ckT C n c a x | _ => false)
    | .BoolOp .And es _ => (match z with | .and xs => ckTs C n c es xs && !es.isEmpty | _ => false)
    | .BoolOp .Or es _ => (match z with | .or xs => ckTs C n c es xs && !es.isEmpty | _ => false)
    | .Compare a ops bs pos => tv z && ckE C n c (.Compare a ops bs pos) z
    | e => plainT e && tv z && ckE C n c e z
def ckTs (C : Ck) : Nat → Cfg → List Expr → List Ex → Bool
  | 0, _, _, _ => false
  | n + 1, c, es, xs => match es, xs with
    | [], [] => true
    | e :: es, x :: xs => ckT C n c e x && ckTs C n c es xs
    | _, _ => false
def ckI (C : Ck) : Nat → Cfg → List Nat → Expr → Ex → Bool
  | 0, _, _, _, _ => false
  | n + 1, c, M, e, x => match x with
    | .o i => (match e with | .Name id _ => rdB c i id && nin i M | _ => false)
    | .bf .range xs => (match e with
      | .Call (.Name id _) [a] [] _ => strEq id "range" && glB c.sc id && freB C id && (match xs with | [x] => ckE C n c a x && !isO x | _ => false)
      | _ => false)
    | x => ti x && !isO x && ckE C n c e x
def ckTg (C : Ck) : Nat → Cfg → Expr → Tg → Bool
  | 0, _, _, _ => false
  | n + 1, c, e, t => match t with
    | .nm i => (match e with | .Name id _ => at? c i id && (bif c.fn then locB c.sc id else plB c.sc id) && nin i c.own && nin i c.bor | _ => false)
    | .tu ts => (match e with | .Tuple es _ _ => ckTgs C n c es ts | _ => false)
    | _ => false
def ckTgs (C : Ck) : Nat → Cfg → List Expr → List Tg → Bool
  | 0, _, _, _ => false
  | n + 1, c, es, ts => match es, ts with
    | [], [] => true
    | e :: es, t :: ts => ckTg C n c e t && ckTgs C n c es ts
    | _, _ => false
end
end Pv
end

section
set_option Elab.async false
set_option linter.all false
set_option maxRecDepth 100000
namespace Pv
open PySem PySem.Spec PyProof.Rows L2
structure CkOk (T : Tb) (C : Ck) (n : Nat) : Prop where
  e : ∀ c e x, ckE C n c e x = true → TrE T c e x
  es : ∀ c ms e x, ckEs C n c ms e x = true → TrEs T c ms e x
  o : ∀ c e x, ckO C n c e x = true → TrO T c e x
  t : ∀ c e x, ckT C n c e x = true → TrT T c e x
  ts : ∀ c e x, ckTs C n c e x = true → TrTs T c e x
  i : ∀ c M e x, ckI C n c M e x = true → TrI T c M e x
  tg : ∀ c e x, ckTg C n c e x = true → TrTg T c e x
  tgs : ∀ c e x, ckTgs C n c e x = true → TrTgs T c e x
section
variable {T : Tb} {C : Ck} {n : Nat}
theorem nf {b : Bool} (h : (!b) = true) : b = false := by cases b <;> first | rfl | cases h
theorem ne_of_emp {α : Type} {l : List α} (h : (!l.isEmpty) = true) : l ≠ [] := fun z => by subst z; cases h
theorem TrEs.noNil {c : Cfg} {ms : List Bool} {e : Expr} {es : List Expr} (h : TrEs T c ms (e :: es) []) : False := by cases h
set_option maxHeartbeats 2000000
theorem ckE_step (F : Fcs T C) (i : CkOk T C n) (c : Cfg) (e : Expr) (x : Ex) (h : ckE C (n + 1) c e x = true) : TrE T c e x := by
  have hG := F.hG
  have hn := F.hn
  cases x <;> simp only [ckE] at h
  case v j =>
    split at h
    · simp only [Bool.and_eq_true] at h
      obtain ⟨⟨h1, h2⟩, h3⟩ := h
      obtain ⟨a, b, d, f⟩ := rdB_ok h1
      exact .v a b d f (nin_ok h2) (nin_ok h3)
    · cases h
  case mv j =>
    split at h
    · simp only [Bool.and_eq_true] at h
      obtain ⟨⟨h1, h2⟩, h3⟩ := h
      obtain ⟨a, b, d, f⟩ := rdB_ok h1
      exact .mv a b d f (nin_ok h2) (nin_ok h3)
    · cases h
  case o j =>
    split at h
    · obtain ⟨a, b, d, f⟩ := rdB_ok h
      exact .o a b d f
    · cases h
  case k w =>
    split at h
    · rename_i k j p
      unfold kB at h
      split at h
      · split at h
        · rw [of_decide_eq_true h]; exact .kInt
        · cases h
      · split at h
        · rw [eq_of_beq h]; exact .kBl
        · cases h
      · split at h
        · exact .kNon
        · cases h
      · split at h
        · rw [sEq_eq h]; exact .kStr
        · cases h
      · cases h
    · cases h
  case g id =>
    split at h
    · simp only [Bool.and_eq_true] at h
      obtain ⟨⟨h1, h2⟩, h3⟩ := h
      have e1 := sEq_eq h1
      rw [← hn] at e1
      subst e1
      rw [← hG] at h3
      cases q : T.G.con.find id with
      | none => rw [q] at h3; cases h3
      | some w =>
        obtain ⟨v, u, a1, a2, a3⟩ := F.co id w q
        exact .g (glB_ok h2) q a1 a2 a3
    · cases h
  case tup xs =>
    split at h
    · simp only [Bool.and_eq_true] at h
      exact .tup (i.es _ _ _ _ h.1) (Nat.le_of_ble_eq_true h.2)
    · cases h
  case lst xs =>
    split at h
    · simp only [Bool.and_eq_true] at h
      exact .lst (i.es _ _ _ _ h.1) (Nat.le_of_ble_eq_true h.2)
    · cases h
  case bin op x y =>
    split at h
    · simp only [Bool.and_eq_true] at h
      obtain ⟨⟨⟨h1, h2⟩, h3⟩, h4⟩ := h
      rw [bopB_ok h1]
      refine .bin (i.e _ _ _ h2) (i.e _ _ _ h3) fun z => ?_
      subst z
      rw [← knG_eq, hG]; exact isFrK_ok h4
    · cases h
  case neg x =>
    split at h
    · exact .neg (i.e _ _ _ h)
    · cases h
  case cmp op x y =>
    split at h
    · simp only [Bool.and_eq_true] at h
      obtain ⟨⟨⟨h1, h2⟩, h3⟩, h4⟩ := h
      rw [copB_ok h1] at h4 ⊢
      exact .cmp (i.e _ _ _ h2) (i.e _ _ _ h3) (nf h4)
    · cases h
  case cmp2 op op' x y z =>
    split at h
    · simp only [Bool.and_eq_true] at h
      obtain ⟨⟨⟨⟨⟨h1, h2⟩, h3⟩, h4⟩, h5⟩, h6⟩ := h
      rw [copB_ok h2] at h6 ⊢
      rw [copB_ok h1]
      exact .cmp2 (i.e _ _ _ h3) (i.e _ _ _ h4) (i.e _ _ _ h5) (nf h6)
    · cases h
  case and xs =>
    split at h
    · exact .and (i.es _ _ _ _ h)
    · cases h
  case or xs =>
    split at h
    · exact .or (i.es _ _ _ _ h)
    · cases h
  case not x =>
    split at h
    · exact .not (i.e _ _ _ h)
    · cases h
  case ite z x y =>
    split at h
    · simp only [Bool.and_eq_true] at h
      obtain ⟨⟨⟨⟨h1, h2⟩, h3⟩, h4⟩, h5⟩ := h
      exact .ite (i.t _ _ _ h1) (i.e _ _ _ h2) (i.e _ _ _ h3) (nf h4) (nf h5)
    · cases h
  case call f xs =>
    split at h
    · split at h
      · rename_i fd q
        simp only [Bool.and_eq_true] at h
        obtain ⟨⟨⟨h1, h2⟩, h3⟩, h4⟩ := h
        have e1 := sEq_eq h1
        rw [← hn] at e1
        subst e1
        rw [← hG] at q
        split at h4
        · cases xs with
          | nil => exact .call0 q (glB_ok h2) (F.fn _ h3)
          | cons a b => cases h4
        · have z := i.es _ _ _ _ h4
          cases xs with
          | nil => exact z.noNil.elim
          | cons a b => exact .call q (glB_ok h2) (F.fn _ h3) z
      · cases h
    · cases h
  case make ci xs =>
    split at h
    · rename_i id p es pos
      simp only [Bool.and_eq_true] at h
      obtain ⟨⟨⟨⟨h1, h2⟩, h3⟩, h4⟩, h5⟩ := h
      have e1 := sEq_eq h1
      rw [← hn] at e1
      subst e1
      have z := i.es _ _ _ _ h4
      obtain ⟨k1, k2⟩ := F.cl _ h3
      cases z with
      | nil => cases h5
      | more a b d => exact .make (glB_ok h2) k1 k2 (.more a b d)
    · cases h
  case meth y m xs =>
    split at h
    · simp only [Bool.and_eq_true] at h
      obtain ⟨⟨⟨⟨⟨h1, h2⟩, h3⟩, h4⟩, h5⟩, h6⟩ := h
      have e1 := sEq_eq h1
      rw [← hn] at e1
      subst e1
      exact .meth (i.e _ _ _ h2) h3 h4 (Nat.le_of_ble_eq_true h5) (i.es _ _ _ _ h6)
    · cases h
  case bf b xs =>
    split at h
    · split at h
      · rename_i y u q
        simp only [Bool.and_eq_true] at h
        obtain ⟨⟨⟨h1, h2⟩, h3⟩, h4⟩ := h
        have e1 := sEq_eq h1
        subst e1
        split at h4
        · exact .bf (bfn_ok q) (glB_ok h2) (freB_ok F h3) (i.e _ _ _ h4)
        · cases h4
      · cases h
    · cases h
  case isi x ks =>
    split at h
    · simp only [Bool.and_eq_true] at h
      obtain ⟨⟨⟨⟨h1, h2⟩, h3⟩, h4⟩, h5⟩ := h
      have e1 := sEq_eq h1
      subst e1
      have b2 := glB_ok h2
      have b3 := freB_ok F h3
      have b4 := i.e _ _ _ h4
      split at h5
      · split at h5
        · simp only [Bool.and_eq_true] at h5
          obtain ⟨⟨⟨k1, k2⟩, k3⟩, k4⟩ := h5
          have e1 := sEq_eq k1
          rw [← hn] at e1
          subst e1
          split at k4
          · rename_i cd q
            rw [← hG] at q
            exact .isiC b2 b3 (glB_ok k2) (F.cl _ k3).1 q (nf k4) b4
          · cases k4
        · split at h5
          · rename_i nm q
            simp only [Bool.and_eq_true] at h5
            obtain ⟨⟨k1, k2⟩, k3⟩ := h5
            have e1 := sEq_eq k1
            subst e1
            exact .isi1 q b2 b3 (glB_ok k2) (freB_ok F k3) b4
          · cases h5
        · cases h5
      · split at h5
        · split at h5
          · rename_i n1 n2 q1 q2
            simp only [Bool.and_eq_true] at h5
            obtain ⟨⟨⟨⟨⟨k1, k2⟩, k3⟩, k4⟩, k5⟩, k6⟩ := h5
            have e1 := sEq_eq k1
            have e2 := sEq_eq k4
            subst e1; subst e2
            exact .isi2 q1 q2 b2 b3 (glB_ok k2) (freB_ok F k3) (glB_ok k5) (freB_ok F k6) b4
          · cases h5
        · cases h5
      · cases h5
    · cases h
  case att x f =>
    split at h
    · simp only [Bool.and_eq_true] at h
      obtain ⟨⟨⟨h1, h2⟩, h3⟩, h4⟩ := h
      have e1 := sEq_eq h1
      rw [← hn] at e1
      subst e1
      exact .att (i.e _ _ _ h2) h3 (by rw [F.ho]; exact nf h4)
    · cases h
  case ix x y =>
    split at h
    · rename_i a b p
      simp only [Bool.and_eq_true] at h
      obtain ⟨⟨h1, h2⟩, h3⟩ := h
      exact .ix (i.e _ _ _ h1) (i.e _ _ _ h2) (plainIx_of (by cases b <;> first | rfl | exact h3))
    · cases h
  case sl x l u =>
    split at h
    · simp only [Bool.and_eq_true] at h
      obtain ⟨⟨h1, h2⟩, h3⟩ := h
      exact .sl (i.e _ _ _ h1) (i.o _ _ _ h2) (i.o _ _ _ h3)
    · cases h
  case comp x gs =>
    split at h
    · split at h
      · simp only [Bool.and_eq_true] at h
        obtain ⟨⟨⟨⟨⟨⟨⟨h1, h2⟩, h3⟩, h4⟩, h5⟩, h6⟩, h7⟩, h8⟩ := h
        obtain ⟨b1, b2⟩ := blkB_ok h3
        exact .comp (i.i _ _ _ _ h1) h2 b1 b2 (i.tg _ _ _ h4) (i.ts _ _ _ h5) (Nat.le_of_ble_eq_true h6) (i.e _ _ _ h7) (nf h8)
      · cases h
    · split at h
      · simp only [Bool.and_eq_true] at h
        obtain ⟨⟨⟨⟨⟨⟨⟨⟨⟨⟨⟨⟨⟨h1, h2⟩, h3⟩, h4⟩, h5⟩, h6⟩, h7⟩, h8⟩, h9⟩, h10⟩, h11⟩, h12⟩, h13⟩, h14⟩ := h
        obtain ⟨b1, b2⟩ := blkB_ok h3
        exact .comp2 (i.i _ _ _ _ h1) h2 b1 b2 (nin_ok h4) (i.tg _ _ _ h5) (i.ts _ _ _ h6) (Nat.le_of_ble_eq_true h7) (i.i _ _ _ _ h8) h9 (i.tg _ _ _ h10) (i.ts _ _ _ h11) (Nat.le_of_ble_eq_true h12) (i.e _ _ _ h13) (nf h14)
      · cases h
    · cases h
  case lam m caps =>
    split at h
    · split at h
      · rename_i L q
        simp only [Bool.and_eq_true] at h
        obtain ⟨⟨h1, h2⟩, h3⟩ := h
        obtain ⟨p1, p2, p3, p4, p5⟩ := lamB_ok h3
        subst p1; subst p2; subst p3
        cases caps with
        | cons _ _ => cases h1
        | nil =>
          refine .lam ?_ (by rw [F.hl]; exact q) p4 p5
          unfold someEq at h2
          split at h2
          · rename_i x e; rw [e, sEq_eq h2]
          · cases h2
      · cases h
    · cases h
  case cv i' xs =>
    split at h
    · rename_i id p es pos
      simp only [Bool.and_eq_true] at h
      obtain ⟨⟨⟨⟨h1, h2⟩, h3⟩, h4⟩, h5⟩ := h
      obtain ⟨a, b, d, f⟩ := rdB_ok h1
      have z := i.es _ _ _ _ h4
      cases z with
      | nil => cases h5
      | more z1 z2 z3 => exact .cv a b d f (nin_ok h2) (nin_ok h3) (.more z1 z2 z3)
    · cases h
  all_goals cases h
theorem ckEs_step (i : CkOk T C n) (c : Cfg) (ms : List Bool) (es : List Expr) (xs : List Ex) (h : ckEs C (n + 1) c ms es xs = true) : TrEs T c ms es xs := by
  simp only [ckEs] at h
  split at h
  · exact .nil
  · split at h
    · simp only [Bool.and_eq_true] at h
      obtain ⟨⟨h1, h2⟩, h3⟩ := h
      refine .cons (i.e _ _ _ h1) ?_ (i.es _ _ _ _ h3)
      rw [Bool.or_eq_true] at h2
      rcases h2 with z | z
      · exact .inl z
      · exact .inr (nf z)
    · simp only [Bool.and_eq_true] at h
      obtain ⟨⟨h1, h2⟩, h3⟩ := h
      exact .more (i.e _ _ _ h1) (nf h2) (i.es _ _ _ _ h3)
  · cases h
theorem ckO_step (i : CkOk T C n) (c : Cfg) (e : Option Expr) (x : Option Ex) (h : ckO C (n + 1) c e x = true) : TrO T c e x := by
  simp only [ckO] at h
  split at h
  · exact .none
  · exact .some (i.e _ _ _ h)
  · cases h
theorem ckT_step (i : CkOk T C n) (c : Cfg) (e : Expr) (x : Ex) (h : ckT C (n + 1) c e x = true) : TrT T c e x := by
  simp only [ckT] at h
  split at h
  · split at h
    · exact .not (i.t _ _ _ h)
    · cases h
  · split at h
    · simp only [Bool.and_eq_true] at h; exact .and (i.ts _ _ _ h.1) (ne_of_emp h.2)
    · cases h
  · split at h
    · simp only [Bool.and_eq_true] at h; exact .or (i.ts _ _ _ h.1) (ne_of_emp h.2)
    · cases h
  · simp only [Bool.and_eq_true] at h; exact .cmp (i.e _ _ _ h.2) h.1
  · simp only [Bool.and_eq_true] at h; exact .val (i.e _ _ _ h.2) h.1.1 h.1.2
theorem ckTs_step (i : CkOk T C n) (c : Cfg) (e : List Expr) (x : List Ex) (h : ckTs C (n + 1) c e x = true) : TrTs T c e x := by
  simp only [ckTs] at h
  split at h
  · exact .nil
  · simp only [Bool.and_eq_true] at h; exact .cons (i.t _ _ _ h.1) (i.ts _ _ _ h.2)
  · cases h
theorem ckI_step (F : Fcs T C) (i : CkOk T C n) (c : Cfg) (M : List Nat) (e : Expr) (x : Ex) (h : ckI C (n + 1) c M e x = true) : TrI T c M e x := by
  simp only [ckI] at h
  split at h
  · split at h
    · simp only [Bool.and_eq_true] at h
      obtain ⟨a, b, d, f⟩ := rdB_ok h.1
      exact .own a b d f (nin_ok h.2)
    · cases h
  · split at h
    · simp only [Bool.and_eq_true] at h
      obtain ⟨⟨⟨h1, h2⟩, h3⟩, h4⟩ := h
      have e1 := sEq_eq h1
      subst e1
      split at h4
      · simp only [Bool.and_eq_true] at h4
        exact .range1 (glB_ok h2) (freB_ok F h3) (i.e _ _ _ h4.1) (nf h4.2)
      · cases h4
    · cases h
  · simp only [Bool.and_eq_true] at h
    exact .val (i.e _ _ _ h.2) h.1.1 (nf h.1.2)
theorem ckTg_step (i : CkOk T C n) (c : Cfg) (e : Expr) (x : Tg) (h : ckTg C (n + 1) c e x = true) : TrTg T c e x := by
  simp only [ckTg] at h
  split at h
  · split at h
    · simp only [Bool.and_eq_true] at h
      obtain ⟨⟨⟨h1, h2⟩, h3⟩, h4⟩ := h
      cases q : c.fn with
      | true => rw [q] at h2; exact .nmC (at?_ok h1) (locB_ok h2) q (nin_ok h3) (nin_ok h4)
      | false => rw [q] at h2; exact .nm (at?_ok h1) (plB_ok h2) (nin_ok h3) (nin_ok h4)
    · cases h
  · split at h
    · exact .tu (i.tgs _ _ _ h)
    · cases h
  · cases h
theorem ckTgs_step (i : CkOk T C n) (c : Cfg) (e : List Expr) (x : List Tg) (h : ckTgs C (n + 1) c e x = true) : TrTgs T c e x := by
  simp only [ckTgs] at h
  split at h
  · exact .nil
  · simp only [Bool.and_eq_true] at h; exact .cons (i.tg _ _ _ h.1) (i.tgs _ _ _ h.2)
  · cases h
theorem ck_0 : CkOk T C 0 := ⟨fun _ _ _ h => by simp [ckE] at h, fun _ _ _ _ h => by simp [ckEs] at h, fun _ _ _ h => by simp [ckO] at h, fun _ _ _ h => by simp [ckT] at h, fun _ _ _ h => by simp [ckTs] at h, fun _ _ _ _ h => by simp [ckI] at h, fun _ _ _ h => by simp [ckTg] at h, fun _ _ _ h => by simp [ckTgs] at h⟩
theorem ck_ok (F : Fcs T C) : ∀ n, CkOk T C n
  | 0 => ck_0
  | n + 1 => have i := ck_ok F n; ⟨ckE_step F i, ckEs_step i, ckO_step i, ckT_step i, ckTs_step i, ckI_step F i, ckTg_step i, ckTgs_step i⟩
end
end Pv
end

section
set_option Elab.async false
set_option linter.all false
set_option maxRecDepth 100000
namespace Pv
open PySem PySem.Spec PyProof.Rows L2
def starB : Expr → Bool
  | .Starred _ _ => true
  | _ => false
def swNm (sc : Scope) (line : Nat) : Expr → Option Str
  | .Name id p => bif plB sc id && p.line == line then some id else none
  | _ => none
def lnOf (ts : List Expr) : Nat := (ts.head?.map fun e : Expr => e.pos.line).getD 0
def swP (sc : Scope) (ts vs : List Expr) : Option (Option (List Str)) :=
  bif !(ts.length == 2 || ts.length == 3) || vs.length != ts.length then some none else
  bif vs.any starB then some none else
  let names := ts.filterMap (swNm sc (lnOf ts))
  bif names.length != ts.length || names.eraseDups.length != names.length then some none else
  bif vs.all (foldedForSure 8) then some none else
  bif vs.all (constantsAlone 8) then none else some (some names)
theorem plB_beq {sc : Scope} {id : Str} : (sc.names.lookup id == some NameKind.local) = plB sc id := by
  unfold plB; rw [lk_eq]
  cases sc.names.lookup id with
  | none => rfl
  | some k => cases k <;> rfl
def swE (env : Env) (line : Nat) : Expr → Option Str
  | .Name id p => if env.kindOf id == some .local && p.line == line then some id else none
  | _ => none
theorem sw_ok {sc : Scope} {env : Env} {ts vs : List Expr} {k k2 : Nat} {tp p4 : Pos} {r : Option (List Str)} (hk : isFun sc.kind = true) (he : env.scope = sc) (h : swP sc ts vs = some r) :
    swappedStores [.Tuple ts k tp] (.Tuple vs k2 p4) env = pure r := by
  have hb : env.blockKind = .function := by unfold Env.blockKind; rw [he, isFun_ok hk]; rfl
  have hn : swE env (lnOf ts) = swNm sc (lnOf ts) := by
    funext e
    cases e <;> try rfl
    rename_i id p
    show (if env.kindOf id == some .local && p.line == _ then some id else none) = (bif plB sc id && p.line == _ then some id else none)
    unfold Env.kindOf
    rw [he, plB_beq]
    cases (plB sc id && p.line == lnOf ts) <;> rfl
  have z : swappedStores [.Tuple ts k tp] (.Tuple vs k2 p4) env = (if (!(ts.length == 2 || ts.length == 3) || vs.length != ts.length || env.blockKind != .function) = true then pure none else
      if (vs.any starB) = true then pure none else
      if ((ts.filterMap (swE env (lnOf ts))).length != ts.length || (ts.filterMap (swE env (lnOf ts))).eraseDups.length != (ts.filterMap (swE env (lnOf ts))).length) = true then pure none else
      if (vs.all (foldedForSure 8)) = true then pure none else
      if (vs.all (constantsAlone 8)) = true then (do let (_ : PUnit) ← unsupported "assign.tuple-of-constant-expressions:order-of-the-stores"; pure (some (ts.filterMap (swE env (lnOf ts))))) else
      pure (some (ts.filterMap (swE env (lnOf ts))))) := by
    unfold swappedStores
    unfold lnOf
    simp only [pure_bind]
    rfl
  rw [z, hn, hb]
  unfold swP at h
  simp only [] at h
  revert h
  cases e1 : (!(ts.length == 2 || ts.length == 3) || vs.length != ts.length) with
  | true => intro h; cases h; rfl
  | false =>
    cases e2 : vs.any starB with
    | true => intro h; cases h; rfl
    | false =>
      dsimp only [cond]
      cases e3 : ((ts.filterMap (swNm sc (lnOf ts))).length != ts.length || (ts.filterMap (swNm sc (lnOf ts))).eraseDups.length != (ts.filterMap (swNm sc (lnOf ts))).length) with
      | true => intro h; cases h; rfl
      | false =>
        cases e4 : vs.all (foldedForSure 8) with
        | true => intro h; cases h; rfl
        | false =>
          cases e5 : vs.all (constantsAlone 8) with
          | true => intro h; cases h
          | false => intro h; cases h; rfl
end Pv
end

section
set_option Elab.async false
set_option linter.all false
set_option maxRecDepth 100000
namespace Pv
open PySem PySem.Spec PyProof.Rows L2
def ckK (e : Expr) (x : Ex) : Bool := match x with
  | .k w => (match e with | .Constant k _ _ => kB k w | _ => false)
  | _ => false
theorem ckK_ok {e : Expr} {x : Ex} (h : ckK e x = true) : TrK e x := by
  unfold ckK at h
  split at h
  · split at h
    · unfold kB at h
      split at h
      · split at h
        · rw [of_decide_eq_true h]; exact .kInt
        · cases h
      · split at h
        · rw [eq_of_beq h]; exact .kBl
        · cases h
      · split at h
        · exact .kNon
        · cases h
      · split at h
        · rw [sEq_eq h]; exact .kStr
        · cases h
      · cases h
    · cases h
  · cases h
def ckH (s : Stmt) (x : Sm) : Bool := match x with
  | .ret x => (match s with | .Return (some e) _ => ckK e x | _ => false)
  | .cont => (match s with | .Continue _ => true | _ => false)
  | .pass => (match s with | .Pass _ => true | _ => false)
  | _ => false
theorem ckH_ok {s : Stmt} {x : Sm} (h : ckH s x = true) : TrH s x := by
  unfold ckH at h
  split at h
  · split at h
    · exact .ret (ckK_ok h)
    · cases h
  · split at h
    · exact .cont
    · cases h
  · split at h
    · exact .pass
    · cases h
  · cases h
def noLC (sc' : Scope) (y : Str) : Bool := sc'.names.all fun p => bif strEq p.1 y then !kLoC p.2 else true
theorem noLC_ok {sc' : Scope} {y : Str} (h : noLC sc' y = true) : (sc'.names.any fun (n, k) => n == y && (k == .local || k == .cell)) = false := by
  rw [List.any_eq_false]
  intro p m
  have z := List.all_eq_true.mp h p m
  obtain ⟨n, k⟩ := p
  intro q
  simp only [Bool.and_eq_true, Bool.or_eq_true, beq_iff_eq] at q
  obtain ⟨q1, q2⟩ := q
  have e : strEq n y = true := by rw [q1]; simp [strEq]
  rw [e] at z
  rcases q2 with q2 | q2 <;> subst q2 <;> cases z
def aopB : Bo → Bool := aop
def subB (l m : List Nat) : Bool := l.all fun i => isin i m
theorem subB_ok {l m : List Nat} (h : subB l m = true) : ∀ i, i ∈ l → i ∈ m := fun i hi => isin_ok (List.all_eq_true.mp h i hi)
def xtag (C : Ck) (ci : Nat) : Bool := C.xc ci && (match C.G.cls.find ci with | some cd => cd.pay.isNone | none => false)
mutual
/-- slots that a block's app, ext, rev and item stores change -/
def mS : Sm → List Nat
  | .asg (.sub i _) _ => [i]
  | .app i _ | .ext i _ | .rev i => [i]
  | .ife _ a b => mSs a ++ mSs b
  | .for _ _ b => mSs b
  | .while _ b => mSs b
  | .try b _ _ h => mSs b ++ mSs h
  | _ => []
def mSs : List Sm → List Nat
  | [] => []
  | s :: ss => mS s ++ mSs ss
end
mutual
def ckS (C : Ck) : Nat → Cfg → Bool → Bool → List Nat → Stmt → Sm → Bool
  | 0, _, _, _, _, _, _ => false
  | n + 1, c, fr, lp, M, s, x => match x with
    | .asg (.nm i) x => (match s with
      | .Assign [.Name id p] (.ListComp elt [⟨tg, iter, ifs, 0⟩] sc' q) _ => at? c i id && plB c.sc id && isFun c.sc.kind && (p.line == q.line) && noLC sc' id && nin i c.own && nin i c.bor && ckE C n c (.ListComp elt [⟨tg, iter, ifs, 0⟩] sc' q) x
      | .Assign [.Name id p] (.ListComp elt [⟨tg, iter, ifs, 0⟩, ⟨tg1, iter1, ifs1, 0⟩] sc' q) _ => at? c i id && plB c.sc id && isFun c.sc.kind && (p.line == q.line) && noLC sc' id && nin i c.own && nin i c.bor && ckE C n c (.ListComp elt [⟨tg, iter, ifs, 0⟩, ⟨tg1, iter1, ifs1, 0⟩] sc' q) x
      | .Assign [.Name id _] e _ => at? c i id && locB c.sc id && nin i c.own && nin i c.bor && ckE C n c e x && !isO x && notC e
      | _ => false)
    | .asg (.own i) x => (match s with
      | .Assign [.Name id p] (.ListComp elt [⟨tg, iter, ifs, 0⟩] sc' q) _ => at? c i id && plB c.sc id && isFun c.sc.kind && (p.line == q.line) && noLC sc' id && isin i c.own && ckE C n c (.ListComp elt [⟨tg, iter, ifs, 0⟩] sc' q) x
      | .Assign [.Name id p] (.ListComp elt [⟨tg, iter, ifs, 0⟩, ⟨tg1, iter1, ifs1, 0⟩] sc' q) _ => at? c i id && plB c.sc id && isFun c.sc.kind && (p.line == q.line) && noLC sc' id && isin i c.own && ckE C n c (.ListComp elt [⟨tg, iter, ifs, 0⟩, ⟨tg1, iter1, ifs1, 0⟩] sc' q) x
      | .Assign [.Name id _] e _ => at? c i id && locB c.sc id && isin i c.own && ckE C n c e x && isFrK (knG C.G x) && notC e
      | _ => false)
    | .asg (.tu ts) x => (match s with
      | .Assign [.Tuple es _ _] e _ => ckTgs C n c es ts && ckE C n c e x && !isO x && notT e
      | _ => false)
    | .asg (.att y f) x => (match s with
      | .Assign [.Attribute o a _] e _ => strEq a (C.nm f) && ckE C n c o y && ckE C n c e x && !isO x
      | _ => false)
    | .asg (.sub i y) x => (match s with
      | .Assign [.Subscript (.Name id _) ie _] e _ => rdB c i id && isin i c.own && isin i M && ckE C n c ie y && !isO y && notSl ie && ckE C n c e x && !isO x
      | _ => false)
    | .asg _ _ => false
    | .aug i op x => (match s with
      | .AugAssign (.Name id _) p e _ => at? c i id && locB c.sc id && nin i c.own && nin i c.bor && aop op && bopB op p && ckE C n c e x
      | _ => false)
    | .ret x => (match s with
      | .Return (some e) _ => (match fr with
        | false => (ckE C n c e x && !isO x) || (ckE C n (c.give c.own) e x && !isO x && noX x)
        | true => (match e with
          | .Name id _ => (match x with | .mv i => rdB c i id && isin i c.own | _ => false)
          | e => ckE C n c e x && isFrK (knG C.G x)))
      | _ => false)
    | .retN => (match s with | .Return none _ => true | _ => false)
    | .ex x => (match s with | .Expr e _ => ckE C n c e x && notC e | _ => false)
    | .app i x => (match s with
      | .Expr (.Call (.Attribute (.Name id _) m ap) [e] [] cp) _ => strEq m "append" && rdB c i id && isin i c.own && isin i M && ckE C n c e x && !isO x && (ap.endLine == cp.line)
      | _ => false)
    | .ext i x => (match s with
      | .Expr (.Call (.Attribute (.Name id _) m ap) [e] [] cp) _ => strEq m "extend" && rdB c i id && isin i c.own && isin i M && ckE C n c e x && isFrK (knG C.G x) && (ap.endLine == cp.line)
      | _ => false)
    | .rev i => (match s with
      | .Expr (.Call (.Attribute (.Name id _) m ap) [] [] cp) _ => strEq m "reverse" && rdB c i id && isin i c.own && isin i M && (ap.endLine == cp.line)
      | _ => false)
    | .ife z xa xb => (match s with | .If t a b _ => ckT C n c t z && ckSs C n c fr lp M a xa && ckSs C n c fr lp M b xb | _ => false)
    | .for t it xb => (match s with
      | .For tg iter b [] _ => lp && ckI C n c (mSs xb) iter it && subB (mSs xb) M && notSet iter && ckTg C n c tg t && ckSs C n c fr true (mSs xb) b xb
      | _ => false)
    | .while z xb => (match s with | .While e b [] _ => lp && ckT C n c e z && ckSs C n c fr true M b xb | _ => false)
    | .raise ci xs => (match s with
      | .Raise (some (.Call (.Name id _) [.Constant (.str m) _ _] [] _)) none _ => strEq id (C.nm ci) && glB c.sc id && C.gc ci && xtag C ci && (match xs with | [.k (.str y)] => strEq y m | _ => false)
      | _ => false)
    | .par ts xs => (match s with
      | .Assign [.Tuple es k tp] (.Tuple as_ k2 p4) _ => isFun c.sc.kind && (match swP c.sc es as_ with
        | some none => ckTgs C n c es ts && ckEs C n c [] as_ xs && Nat.ble as_.length 1000
        | some (some ns) => (match es, as_, ts, xs, ns with
          | [.Name x1 _, .Name x2 _], [e1, e2], [.nm i, .nm j], [y1, y2], [z1, z2] => strEq z1 x1 && strEq z2 x2 && at? c i x1 && at? c j x2 && !Nat.beq i j && plB c.sc x1 && plB c.sc x2 && nin i c.own && nin j c.own && nin i c.bor && nin j c.bor && ckEs C n c [] [e1, e2] [y1, y2]
          | _, _, _, _, _ => false)
        | none => false)
      | _ => false)
    | .try xb ci nm xh => (match s with
      | .Try b [.ExceptHandler (some (.Name id _)) none [h] _] [] [] _ => (match nm, xh with
        | none, [xh] => strEq id (C.nm ci) && glB c.sc id && C.gc ci && C.xq ci && ckSs C n c fr true M b xb && ckH h xh
        | _, _ => false)
      | _ => false)
    | .pass => (match s with | .Pass _ => true | _ => false)
    | .brk => (match s with | .Break _ => true | _ => false)
    | .cont => (match s with | .Continue _ => true | _ => false)
def ckSs (C : Ck) : Nat → Cfg → Bool → Bool → List Nat → List Stmt → List Sm → Bool
  | 0, _, _, _, _, _, _ => false
  | n + 1, c, fr, lp, M, ss, xs => match ss, xs with
    | [], [] => true
    | s :: ss, x :: xs => ckS C n c fr lp M s x && ckSs C n c fr lp M ss xs
    | _, _ => false
end
structure CkSOk (T : Tb) (C : Ck) (n : Nat) : Prop where
  s : ∀ c fr lp M s x, ckS C n c fr lp M s x = true → TrS T c fr lp M s x
  ss : ∀ c fr lp M s x, ckSs C n c fr lp M s x = true → TrSs T c fr lp M s x
section
variable {T : Tb} {C : Ck} {n : Nat}
set_option maxHeartbeats 4000000
theorem nbeq {i j : Nat} (h : (!Nat.beq i j) = true) : i ≠ j := fun e => by subst e; simp at h
theorem ckS_step (F : Fcs T C) (i : CkSOk T C n) (c : Cfg) (fr lp : Bool) (M : List Nat) (s : Stmt) (x : Sm) (h : ckS C (n + 1) c fr lp M s x = true) : TrS T c fr lp M s x := by
  have hG := F.hG
  have hn := F.hn
  have K := ck_ok F n
  unfold ckS at h
  split at h
  · -- nm
    split at h
    · simp only [Bool.and_eq_true] at h
      obtain ⟨⟨⟨⟨⟨⟨⟨h1, h2⟩, h3⟩, h4⟩, h5⟩, h6⟩, h7⟩, h8⟩ := h
      cases K.e _ _ _ h8 with
      | comp a1 a2 a3 a4 a5 a6 a7 a8 a9 => exact .setC (at?_ok h1) (plB_ok h2) (isFun_ok h3) h4 (noLC_ok h5) (nin_ok h6) (nin_ok h7) a1 a2 a3 a4 a5 a6 a7 a8 a9
    · simp only [Bool.and_eq_true] at h
      obtain ⟨⟨⟨⟨⟨⟨⟨h1, h2⟩, h3⟩, h4⟩, h5⟩, h6⟩, h7⟩, h8⟩ := h
      cases K.e _ _ _ h8 with
      | comp2 a1 a2 a3 a4 a5 a6 a7 a8 a9 a10 a11 a12 a13 a14 a15 => exact .setC2 (at?_ok h1) (plB_ok h2) (isFun_ok h3) h4 (noLC_ok h5) (nin_ok h6) (nin_ok h7) a1 a2 a3 a4 a5 a6 a7 a8 a9 a10 a11 a12 a13 a14 a15
    · simp only [Bool.and_eq_true] at h
      obtain ⟨⟨⟨⟨⟨⟨h1, h2⟩, h3⟩, h4⟩, h5⟩, h6⟩, h7⟩ := h
      exact .setN (at?_ok h1) (locB_ok h2) (nin_ok h3) (nin_ok h4) (K.e _ _ _ h5) (nf h6) h7
    · cases h
  · -- own
    split at h
    · simp only [Bool.and_eq_true] at h
      obtain ⟨⟨⟨⟨⟨⟨h1, h2⟩, h3⟩, h4⟩, h5⟩, h6⟩, h8⟩ := h
      cases K.e _ _ _ h8 with
      | comp a1 a2 a3 a4 a5 a6 a7 a8 a9 => exact .setCO (at?_ok h1) (plB_ok h2) (isFun_ok h3) h4 (noLC_ok h5) (isin_ok h6) a1 a2 a3 a4 a5 a6 a7 a8 a9
    · simp only [Bool.and_eq_true] at h
      obtain ⟨⟨⟨⟨⟨⟨h1, h2⟩, h3⟩, h4⟩, h5⟩, h6⟩, h8⟩ := h
      cases K.e _ _ _ h8 with
      | comp2 a1 a2 a3 a4 a5 a6 a7 a8 a9 a10 a11 a12 a13 a14 a15 => exact .setCO2 (at?_ok h1) (plB_ok h2) (isFun_ok h3) h4 (noLC_ok h5) (isin_ok h6) a1 a2 a3 a4 a5 a6 a7 a8 a9 a10 a11 a12 a13 a14 a15
    · simp only [Bool.and_eq_true] at h
      obtain ⟨⟨⟨⟨⟨h1, h2⟩, h3⟩, h4⟩, h5⟩, h6⟩ := h
      exact .setO (at?_ok h1) (locB_ok h2) (isin_ok h3) (K.e _ _ _ h4) (by rw [← knG_eq, hG]; exact isFrK_ok h5) h6
    · cases h
  · -- tu
    split at h
    · simp only [Bool.and_eq_true] at h
      obtain ⟨⟨⟨h1, h2⟩, h3⟩, h4⟩ := h
      exact .setT (K.tgs _ _ _ h1) (K.e _ _ _ h2) (nf h3) h4
    · cases h
  · -- att
    split at h
    · simp only [Bool.and_eq_true] at h
      obtain ⟨⟨⟨h1, h2⟩, h3⟩, h4⟩ := h
      have e1 := sEq_eq h1
      rw [← hn] at e1
      subst e1
      exact .setA (K.e _ _ _ h2) (K.e _ _ _ h3) (nf h4)
    · cases h
  · -- sub
    split at h
    · simp only [Bool.and_eq_true] at h
      obtain ⟨⟨⟨⟨⟨⟨⟨h1, h2⟩, h3⟩, h4⟩, h5⟩, h6⟩, h7⟩, h8⟩ := h
      obtain ⟨a, b, d, f⟩ := rdB_ok h1
      exact .sub a b d f (isin_ok h2) (isin_ok h3) (K.e _ _ _ h4) (nf h5) h6 (K.e _ _ _ h7) (nf h8)
    · cases h
  · cases h
  · -- aug
    split at h
    · simp only [Bool.and_eq_true] at h
      obtain ⟨⟨⟨⟨⟨⟨h1, h2⟩, h3⟩, h4⟩, h5⟩, h6⟩, h7⟩ := h
      rw [bopB_ok h6]
      exact .aug (at?_ok h1) (locB_ok h2) (nin_ok h3) (nin_ok h4) h5 (K.e _ _ _ h7)
    · cases h
  · -- ret
    split at h
    · split at h
      · rw [Bool.or_eq_true] at h
        rcases h with h | h
        · simp only [Bool.and_eq_true] at h
          exact .ret (K.e _ _ _ h.1) (nf h.2)
        · simp only [Bool.and_eq_true] at h
          exact .give (K.e _ _ _ h.1.1) (nf h.1.2) h.2
      · split at h
        · split at h
          · simp only [Bool.and_eq_true] at h
            obtain ⟨a, b, d, f⟩ := rdB_ok h.1
            exact .giveF a b d f (isin_ok h.2)
          · cases h
        · simp only [Bool.and_eq_true] at h
          exact .retF (K.e _ _ _ h.1) (by rw [← knG_eq, hG]; exact isFrK_ok h.2)
    · cases h
  · split at h
    · exact .retN
    · cases h
  · split at h
    · simp only [Bool.and_eq_true] at h
      exact .ex (K.e _ _ _ h.1) h.2
    · cases h
  · -- app
    split at h
    · simp only [Bool.and_eq_true] at h
      obtain ⟨⟨⟨⟨⟨⟨h1, h2⟩, h3⟩, h4⟩, h5⟩, h6⟩, h7⟩ := h
      have e1 := sEq_eq h1
      subst e1
      obtain ⟨a, b, d, f⟩ := rdB_ok h2
      exact .app a b d f (isin_ok h3) (isin_ok h4) (K.e _ _ _ h5) (nf h6) h7
    · cases h
  · -- ext
    split at h
    · simp only [Bool.and_eq_true] at h
      obtain ⟨⟨⟨⟨⟨⟨h1, h2⟩, h3⟩, h4⟩, h5⟩, h6⟩, h7⟩ := h
      have e1 := sEq_eq h1
      subst e1
      obtain ⟨a, b, d, f⟩ := rdB_ok h2
      exact .ext a b d f (isin_ok h3) (isin_ok h4) (K.e _ _ _ h5) (by rw [← knG_eq, hG]; exact isFrK_ok h6) h7
    · cases h
  · -- rev
    split at h
    · simp only [Bool.and_eq_true] at h
      obtain ⟨⟨⟨⟨h1, h2⟩, h3⟩, h4⟩, h7⟩ := h
      have e1 := sEq_eq h1
      subst e1
      obtain ⟨a, b, d, f⟩ := rdB_ok h2
      exact .rev a b d f (isin_ok h3) (isin_ok h4) h7
    · cases h
  · split at h
    · simp only [Bool.and_eq_true] at h
      exact .ife (K.t _ _ _ h.1.1) (i.ss _ _ _ _ _ _ h.1.2) (i.ss _ _ _ _ _ _ h.2)
    · cases h
  · -- for
    split at h
    · simp only [Bool.and_eq_true] at h
      obtain ⟨⟨⟨⟨⟨h1, h2⟩, h3⟩, h4⟩, h5⟩, h6⟩ := h
      subst h1
      exact .for (subB_ok h3) (K.i _ _ _ _ h2) h4 (K.tg _ _ _ h5) (i.ss _ _ _ _ _ _ h6)
    · cases h
  · split at h
    · simp only [Bool.and_eq_true] at h
      obtain ⟨⟨h1, h2⟩, h3⟩ := h
      subst h1
      exact .while (K.t _ _ _ h2) (i.ss _ _ _ _ _ _ h3)
    · cases h
  · -- raise
    split at h
    · simp only [Bool.and_eq_true] at h
      obtain ⟨⟨⟨⟨h1, h2⟩, h3⟩, h4⟩, h5⟩ := h
      have e1 := sEq_eq h1
      rw [← hn] at e1
      subst e1
      split at h5
      · have e2 := sEq_eq h5
        subst e2
        unfold xtag at h4
        rw [Bool.and_eq_true] at h4
        rw [← hG] at h4
        obtain ⟨k1, k2⟩ := h4
        split at k2
        · rename_i cd q
          refine .raise (glB_ok h2) (F.cl _ h3).1 (F.ex _ k1) q ?_
          cases r : cd.pay with
          | none => rfl
          | some z => rw [r] at k2; cases k2
        · cases k2
      · cases h5
    · cases h
  · -- par
    split at h
    · rw [Bool.and_eq_true] at h
      obtain ⟨hk, h⟩ := h
      split at h
      · rename_i q
        simp only [Bool.and_eq_true] at h
        exact .parN (K.tgs _ _ _ h.1.1) (K.es _ _ _ _ h.1.2) (Nat.le_of_ble_eq_true h.2) fun env he => sw_ok hk he q
      · rename_i q
        split at h
        · simp only [Bool.and_eq_true] at h
          obtain ⟨⟨⟨⟨⟨⟨⟨⟨⟨⟨⟨h1, h2⟩, h3⟩, h4⟩, h5⟩, h6⟩, h7⟩, h8⟩, h9⟩, h10⟩, h11⟩, h12⟩ := h
          have e1 := sEq_eq h1
          have e2 := sEq_eq h2
          subst e1; subst e2
          exact .par2 (at?_ok h3) (at?_ok h4) (nbeq h5) (plB_ok h6) (plB_ok h7) (nin_ok h8) (nin_ok h9) (nin_ok h10) (nin_ok h11) (fun env he => sw_ok hk he q) (K.es _ _ _ _ h12)
        · cases h
      · cases h
    · cases h
  · -- try
    split at h
    · split at h
      · simp only [Bool.and_eq_true] at h
        obtain ⟨⟨⟨⟨⟨h1, h2⟩, h3⟩, h6⟩, h4⟩, h5⟩ := h
        have e1 := sEq_eq h1
        rw [← hn] at e1
        subst e1
        exact .try (i.ss _ _ _ _ _ _ h4) (ckH_ok h5) (glB_ok h2) (F.cl _ h3).1 (F.xm _ h6)
      · cases h
    · cases h
  · split at h
    · exact .pass
    · cases h
  · split at h
    · exact .brk
    · cases h
  · split at h
    · exact .cont
    · cases h
theorem ckSs_step (i : CkSOk T C n) (c : Cfg) (fr lp : Bool) (M : List Nat) (s : List Stmt) (x : List Sm) (h : ckSs C (n + 1) c fr lp M s x = true) : TrSs T c fr lp M s x := by
  unfold ckSs at h
  split at h
  · exact .nil
  · simp only [Bool.and_eq_true] at h; exact .cons (i.s _ _ _ _ _ _ h.1) (i.ss _ _ _ _ _ _ h.2)
  · cases h
theorem ckS_ok (F : Fcs T C) : ∀ n, CkSOk T C n
  | 0 => ⟨fun _ _ _ _ _ _ h => (by unfold ckS at h; cases h), fun _ _ _ _ _ _ h => (by unfold ckSs at h; cases h)⟩
  | n + 1 => have i := ckS_ok F n; ⟨ckS_step F i, ckSs_step i⟩
end
end Pv
end

section
set_option Elab.async false
set_option linter.all false
set_option maxRecDepth 100000
namespace Pv
open PySem PySem.Spec PyProof.Rows L2
/-! ### a text's tables -/
def BT.all {α : Type} (p : Nat → α → Bool) : BT α → Bool
  | .lf => true
  | .nd l k a r => l.all p && p k a && r.all p
def BT.vals {α : Type} : BT α → List α
  | .lf => []
  | .nd l _ a r => l.vals ++ a :: r.vals
theorem BT.all_ok {α : Type} {p : Nat → α → Bool} : ∀ {t : BT α} {i : Nat} {a : α}, t.all p = true → t.find i = some a → p i a = true
  | .lf, _, _, _, h => by cases h
  | .nd l k b r, i, a, h, f => by
    unfold BT.all at h
    simp only [Bool.and_eq_true] at h
    unfold BT.find at f
    cases e : Nat.beq i k with
    | true => rw [e] at f; cases f; rw [Nat.eq_of_beq_eq_true e]; exact h.1.2
    | false =>
      rw [e] at f
      cases e2 : Nat.blt i k with
      | true => rw [e2] at f; exact BT.all_ok h.1.1 f
      | false => rw [e2] at f; exact BT.all_ok h.2 f
theorem BT.vals_ok {α : Type} : ∀ {t : BT α} {i : Nat} {a : α}, t.find i = some a → a ∈ t.vals
  | .lf, _, _, f => by cases f
  | .nd l k b r, i, a, f => by
    unfold BT.find at f
    unfold BT.vals
    cases e : Nat.beq i k with
    | true => rw [e] at f; cases f; simp
    | false =>
      rw [e] at f
      cases e2 : Nat.blt i k with
      | true => rw [e2] at f; exact List.mem_append_left _ (BT.vals_ok f)
      | false => rw [e2] at f; exact List.mem_append_right _ (List.mem_cons_of_mem _ (BT.vals_ok f))
/-! a lambda of the text, by its place -/
mutual
def fE : Nat → Nat → Nat → Expr → Option (Arguments × Expr × Scope)
  | 0, _, _, _ => none
  | n + 1, l, c, e => match e with
    | .Lambda p b s q => bif Nat.beq q.line l && Nat.beq q.col c then some (p, b, s) else fE n l c b
    | .Tuple es _ _ | .List es _ | .BoolOp _ es _ => fEs n l c es
    | .Call f es _ _ => fEs n l c (f :: es)
    | .BinOp a _ b _ | .Subscript a b _ => fEs n l c [a, b]
    | .Compare a _ bs _ => fEs n l c (a :: bs)
    | .IfExp t a b _ => fEs n l c [t, a, b]
    | .UnaryOp _ a _ | .Attribute a _ _ => fE n l c a
    | _ => none
def fEs : Nat → Nat → Nat → List Expr → Option (Arguments × Expr × Scope)
  | 0, _, _, _ => none
  | n + 1, l, c, es => match es with
    | [] => none
    | e :: es => match fE n l c e with | some x => some x | none => fEs n l c es
end
mutual
def fS : Nat → Nat → Nat → Stmt → Option (Arguments × Expr × Scope)
  | 0, _, _, _ => none
  | n + 1, l, c, s => match s with
    | .For _ i b _ _ => (match fE n l c i with | some x => some x | none => fSs n l c b)
    | .While t b _ _ => (match fE n l c t with | some x => some x | none => fSs n l c b)
    | .If t a b _ => (match fE n l c t with | some x => some x | none => fSs n l c (a ++ b))
    | .Assign _ e _ | .Expr e _ | .Return (some e) _ => fE n l c e
    | .Try b _ _ _ _ => fSs n l c b
    | _ => none
def fSs : Nat → Nat → Nat → List Stmt → Option (Arguments × Expr × Scope)
  | 0, _, _, _ => none
  | n + 1, l, c, ss => match ss with
    | [] => none
    | s :: ss => match fS n l c s with | some x => some x | none => fSs n l c ss
end
def noSt' : Stmt := .Pass ⟨0, 0, 0, 0⟩
def lamAt (l c : Nat) (st : Stmt) (q : Str) (N : List Str) (np : Nat) : LamD := match fSs 200 l c (defBody st) with
  | some (p, b, s) => ⟨p, b, s, q, N, np⟩
  | none => ⟨⟨[], [], none, [], [], none, []⟩, .Tuple [] 0 ⟨0, 0, 0, 0⟩, ⟨.function, [], false, false, []⟩, q, N, np⟩
structure Prg where
  G : Gb
  nm : BT Str
  N : BT (List Str)
  dd : BT He.DefD
  fre : List Str
  lamD : BT LamD
  mks : List Nat
def Prg.nmF (P : Prg) (i : Nat) : Str := (P.nm.find i).getD dbg
def noAt : Str × Option Str := (dbg, none)
def Prg.atF (P : Prg) (i : Nat) : Str × Option Str := match P.dd.find i with | some d => d.at_ | none => noAt
def isGl (p : Str × Option Str) (x : Str) : Bool := match p.2 with | none => strEq p.1 x | some _ => false
def isMt (p : Str × Option Str) (x m : Str) : Bool := match p.2 with | none => false | some y => strEq p.1 x && strEq y m
def Prg.C (P : Prg) : Ck where
  G := P.G
  nm := P.nmF
  gf := fun f => isGl (P.atF f) (P.nmF f) && (P.dd.find f).isSome
  gc := fun c => (P.G.cls.find c).isSome
  xc := fun c => match P.G.cls.find c with | some cd => cd.isExc && cd.pay.isNone | none => false
  xq := fun c => match P.G.cls.find c with | some cd => cd.isExc | none => false
  fre := P.fre
  of_ := fun _ => false
  lam := P.lamD.find
def Prg.qF (P : Prg) (f : Nat) : Str := match P.dd.find f with | some d => d.qual | none => dbg
def Prg.lqS (P : Prg) (f : Nat) : Str := (P.qF f ++ (".<locals>." : Str)) ++ ("<lambda>" : Str)
def Prg.lq (P : Prg) (f : Nat) : Option Str := bif isin f P.mks then some (P.lqS f) else none
def Prg.tf (P : Prg) : List He.Defn := P.mks.map P.atF
def Prg.T (P : Prg) (K : PySem.W.Frag) (mg : Str → Option Value) : Tb where
  G := P.G
  K := K
  mg := mg
  nm := P.nmF
  ca := fun c => He.ga K (P.nmF c)
  fa := fun f => He.fAd K (P.atF f)
  ownF := fun _ => false
  lam := P.lamD.find
  tabs := P.mks.map fun f => ((He.cT K (P.atF f)).2, P.lqS f)
  cs := P.mks.map fun f => He.cT K (P.atF f)
/-! ### the facts of the head -/
def kO (a b : Option (Option Value)) : Bool := decide (a = b)
def kOb (a b : Option Bool) : Bool := match a, b with | some true, some true => true | some false, some false => true | _, _ => false
theorem kOb_ok {a : Option Bool} {b : Bool} (h : kOb a (some b) = true) : a = some b := by
  cases a with
  | none => cases b <;> cases h
  | some c => cases b <;> cases c <;> first | rfl | cases h
def biT : List String := ["NoneType", "bool", "int", "str", "tuple", "list", "dict"]
def ckClass (P : Prg) (K : PySem.W.Frag) (c : Nat) (cd : CDef) : Bool :=
  let x := P.nmF c
  (He.Fa.glo x).ok K && (He.Fa.keep x).ok K && (bif cd.isExc then true else (He.Fa.cls x).ok K && kO (PySem.W.findIn K (.ref (He.ga K x)) "__ne__") (some (some (.builtin "object.__ne__")))) &&
  kO (PySem.W.findIn K (.ref (He.ga K x)) "__class__") (some (some (.builtin "object.__class__"))) && kOb (PySem.W.mroIn K (He.ga K x) (.type "object")) (some true) &&
  cd.fields.all (fun f => (He.Fa.noat x (P.nmF f)).ok K && cd.fields.all fun g => bif strEq (P.nmF f) (P.nmF g) then Nat.beq f g else true) &&
  cd.meths.all (fun mf => (He.Fa.meth x (P.nmF mf.1)).ok K && isMt (P.atF mf.2) x (P.nmF mf.1) && (P.G.fn.find mf.2).isSome && cd.fields.all fun g => !strEq (P.nmF g) (P.nmF mf.1)) &&
  (match cd.init with | some f => !cd.isExc && (He.Fa.mkr x).ok K && isMt (P.atF f) x "__init__" && (P.G.fn.find f).isSome | none => true) &&
  P.G.cls.all (fun c' cd' => (bif cd.isExc || cd'.isExc then true else PySem.W.notFirst K (He.ga K x) (.ref (He.ga K (P.nmF c')))) && (bif cd.isExc then true else kOb (PySem.W.kitOne K (.ref (He.ga K (P.nmF c'))) (.ref (He.ga K x))) (some (Nat.beq c' c)))) &&
  (bif cd.isExc then (bif cd.pay.isNone then (He.Fa.exc x).ok K else true) else biT.all fun t => kOb (PySem.W.kitOne K (.type t) (.ref (He.ga K x))) (some false)) &&
  (bif !cd.isExc then true else P.G.cls.all fun e _ => match catches P.G c e with | some b => kOb (PySem.W.exmOne K (.ref (He.ga K (P.nmF e))) (.ref (He.ga K x))) (some b) | none => true)
def ckP (P : Prg) (K : PySem.W.Frag) : Bool :=
  P.dd.all (fun f d => bif isGl d.at_ (P.nmF f) then (He.Fa.glo (P.nmF f)).ok K else true) && P.fre.all (fun x => (He.Fa.free x).ok K) && P.G.cls.all (ckClass P K) &&
  strEq (P.nmF 0) "__eq__" && kO (PySem.W.specialIn K (.builtin "object.__class__") "__get__") (some (some (.builtin "getset_descriptor.__get__"))) && kOb (PySem.W.takesIn K (.builtin "object.__class__")) (some true) &&
  P.G.con.all (fun _ _ => false) && P.mks.all fun f => (P.dd.find f).isSome && P.mks.all fun g => bif Nat.beq (He.cT K (P.atF f)).2 (He.cT K (P.atF g)).2 then strEq (P.lqS f) (P.lqS g) else true
/-! a def's own facts -/
def nodupB : List Str → Bool
  | [] => true
  | x :: r => r.all (fun y => !strEq y x) && nodupB r
theorem nodupB_ok : ∀ {l : List Str}, nodupB l = true → l.Nodup
  | [], _ => .nil
  | x :: r, h => by
    unfold nodupB at h
    rw [Bool.and_eq_true] at h
    refine List.nodup_cons.mpr ⟨fun m => ?_, nodupB_ok h.2⟩
    have := List.all_eq_true.mp h.1 x m
    simp [strEq] at this
def argsB (p : Arguments) (ps : List Str) : Bool := match p with
  | ⟨[], as, none, [], [], none, []⟩ => eqs (as.map (·.arg)) ps
  | _ => false
where eqs : List Str → List Str → Bool
  | [], [] => true
  | a :: as, b :: bs => strEq a b && eqs as bs
  | _, _ => false
theorem eqs_ok : ∀ {a b : List Str}, argsB.eqs a b = true → a = b
  | [], [], _ => rfl
  | [], _ :: _, h => by cases h
  | _ :: _, [], h => by cases h
  | a :: as, b :: bs, h => by
    unfold argsB.eqs at h
    rw [Bool.and_eq_true] at h
    rw [sEq_eq h.1, eqs_ok h.2]
theorem zip_has : ∀ {ns : List Str} {us : List Value} {n : Str}, us.length = ns.length → n ∈ ns → ((ns.zip us).lookup n).isNone = false
  | [], _, _, _, m => by cases m
  | a :: as, [], _, h, _ => by simp at h
  | a :: as, u :: us, n, h, m => by
    simp only [List.zip_cons_cons, List.lookup]
    cases e : (n == a) with
    | true => rfl
    | false =>
      refine zip_has (by simpa using h) ?_
      rcases List.mem_cons.mp m with z | z
      · rw [z] at e; simp at e
      · exact z
theorem filter_none {ns : List Str} {us : List Value} (h : us.length = ns.length) : ns.filter (fun n => ((ns.zip us).lookup n).isNone) = [] :=
  List.filter_eq_nil_iff.mpr fun n m => by rw [zip_has h m]; simp
theorem zip_map : ∀ {ns : List Str} {us : List Value}, us.length = ns.length → ns.Nodup → ns.filterMap (fun n => ((ns.zip us).lookup n).map fun x => (n, x)) = ns.zip us
  | [], [], _, _ => rfl
  | [], _ :: _, h, _ => by simp at h
  | a :: as, [], h, _ => by simp at h
  | a :: as, u :: us, h, nd => by
    obtain ⟨na, nd⟩ := List.nodup_cons.mp nd
    have z := zip_map (ns := as) (us := us) (by simpa using h) nd
    have e : as.filterMap (fun n => (((a :: as).zip (u :: us)).lookup n).map fun x => (n, x)) = as.filterMap (fun n => ((as.zip us).lookup n).map fun x => (n, x)) := by
      have go : ∀ l : List Str, (∀ n, n ∈ l → n ≠ a) → l.filterMap (fun n => (((a :: as).zip (u :: us)).lookup n).map fun x => (n, x)) = l.filterMap (fun n => ((as.zip us).lookup n).map fun x => (n, x)) := by
        intro l
        induction l with
        | nil => intro _; rfl
        | cons b bs ih =>
          intro hh
          have q : (b == a) = false := beq_eq_false_iff_ne.mpr (hh b (by simp))
          rw [List.filterMap_cons, List.filterMap_cons, ih fun n m => hh n (List.mem_cons_of_mem _ m)]
          simp only [List.zip_cons_cons, List.lookup, q]
      exact go as fun n m z => na (by rw [← z]; exact m)
    rw [List.filterMap_cons, e, z]
    simp [List.lookup]
theorem bind_plain {fd : FuncData} {as : List Arg} {us : List Value} (hp : fd.params = ⟨[], as, none, [], [], none, []⟩) (hd : fd.defaults = .none) (hl : us.length = as.length) (nd : (as.map (·.arg)).Nodup) :
    bindArgs fd ⟨us, []⟩ = pure ((as.map (·.arg)).zip us) := by
  have h := filter_none (ns := as.map (·.arg)) (us := us) (by simpa using hl)
  have e : seqItems? fd.defaults = pure none := by rw [hd]; rfl
  have zm := zip_map (ns := as.map (·.arg)) (us := us) (by simpa using hl) nd
  unfold bindArgs
  rw [e]
  simp [hp, h, hl]
  rw [List.filterMap_map] at zm
  rw [if_neg, zm]
  simp only [hp, List.map_nil, List.nil_append, List.drop_nil, List.length_nil, Nat.sub_zero, List.take_length]
  rw [h]; simp
def fnScB (N ps : List Str) (sc : Scope) : Bool := isFun sc.kind && !sc.isCoroutine && !sc.isGenerator && nodupB N && argsB.eqs (N.take ps.length) ps && ps.all (fun x => kLC (lk sc.names x)) && sc.names.all fun y => !kFr y.2
theorem fnScB_ok {N ps : List Str} {sc : Scope} (h : fnScB N ps sc = true) : FnScope N ps sc := by
  unfold fnScB at h
  simp only [Bool.and_eq_true] at h
  obtain ⟨⟨⟨⟨⟨⟨h1, h2⟩, h3⟩, h4⟩, h5⟩, h6⟩, h7⟩ := h
  refine ⟨isFun_ok h1, nf h2, nf h3, nodupB_ok h4, eqs_ok h5, fun x m => ?_, fun y m e => ?_⟩
  · have := kLC_ok (List.all_eq_true.mp h6 x m); rw [lk_eq] at this; exact this
  · have := List.all_eq_true.mp h7 y m; rw [e] at this; cases this
def ckDef (P : Prg) (fuel f : Nat) (fd : FDef) : Bool := match P.dd.find f, P.N.find f with
  | some d, some N => argsB d.params (N.take fd.np) && fnScB N (N.take fd.np) d.scope && Nat.beq N.length fd.ns && Nat.ble fd.np fd.ns && fd.own.all (fun i => Nat.ble fd.np i) && d.dfl.isEmpty && d.kwd.isEmpty &&
    ckSs P.C fuel ⟨N, d.scope, fd.own, fd.bor, true, P.lq f⟩ fd.fr true fd.own d.body fd.body
  | _, _ => false
theorem argsB_ok {fd : FuncData} {p : Arguments} {ps : List Str} (h : argsB p ps = true) (nd : ps.Nodup) (hp : fd.params = p) (hd : fd.defaults = .none) {us : List Value} (hl : us.length = ps.length) : bindArgs fd ⟨us, []⟩ = pure (ps.zip us) := by
  unfold argsB at h
  split at h
  · rename_i as
    have e := eqs_ok h
    subst e
    exact bind_plain hp hd (by simpa using hl) nd
  · cases h
def ckLam (P : Prg) (fuel m : Nat) (ld : LDef) : Bool := match P.lamD.find m with
  | some L => fnScB L.N (L.N.take ld.np) L.scope && Nat.beq L.N.length ld.ns && Nat.ble ld.np ld.ns && argsB L.params (L.N.take ld.np) && ckE P.C fuel ⟨L.N, L.scope, [], [], true, none⟩ L.body ld.body && !isO ld.body
  | none => false
variable {P : Prg} {K : PySem.W.Frag} {mg : Str → Option Value}
theorem kO_ok {a b : Option (Option Value)} (h : kO a b = true) : a = b := of_decide_eq_true h
structure PFs (P : Prg) (K : PySem.W.Frag) : Prop where
  gl : ∀ f d, P.dd.find f = some d → isGl d.at_ (P.nmF f) = true → (He.Fa.glo (P.nmF f)).ok K = true
  fr : ∀ x, x ∈ P.fre → (He.Fa.free x).ok K = true
  cl : ∀ c cd, P.G.cls.find c = some cd → ckClass P K c cd = true
  eq0 : P.nmF 0 = "__eq__"
  hn : PySem.W.specialIn K (.builtin "object.__class__") "__get__" = some (some (.builtin "getset_descriptor.__get__"))
  ht : PySem.W.takesIn K (.builtin "object.__class__") = some true
  co : P.G.con.all (fun _ _ => false) = true
  mkT : ∀ f, f ∈ P.mks → ∀ g, g ∈ P.mks → (bif Nat.beq (He.cT K (P.atF f)).2 (He.cT K (P.atF g)).2 then strEq (P.lqS f) (P.lqS g) else true) = true
theorem pfs_of (h : ckP P K = true) : PFs P K := by
  unfold ckP at h
  simp only [Bool.and_eq_true] at h
  obtain ⟨⟨⟨⟨⟨⟨⟨h1, h2⟩, h3⟩, h4⟩, h5⟩, h6⟩, h7⟩, h8⟩ := h
  refine ⟨fun f d e g => ?_, fun x m => List.all_eq_true.mp h2 x m, fun c cd e => BT.all_ok h3 e, sEq_eq h4, kO_ok h5, kOb_ok h6, h7, fun f mf g mg => ?_⟩
  · have z := BT.all_ok h1 e
    rw [g] at z
    exact z
  · have z := List.all_eq_true.mp h8 f mf
    rw [Bool.and_eq_true] at z
    exact List.all_eq_true.mp z.2 g mg
theorem defC_of {fuel f : Nat} {fd : FDef} (F : Fcs (P.T K mg) P.C) {w : World} {hh : Heap} (c : He.SaysX [] P.dd.vals [] P.tf (ckP P) w hh K) (h : ckDef P fuel f fd = true) : ∃ d N fd', P.dd.find f = some d ∧ P.N.find f = some N ∧ FunD K d.name d.qual d.params d.body d.scope [] [] (He.fAd K d.at_) fd' ∧ argsB d.params (N.take fd.np) = true ∧ (N.take fd.np).Nodup ∧ DefC (P.T K mg) f fd fd' (N.take fd.np) := by
  unfold ckDef at h
  split at h
  · rename_i d N e1 e2
    simp only [Bool.and_eq_true] at h
    obtain ⟨⟨⟨⟨⟨⟨⟨h1, h2⟩, h3⟩, h4⟩, h5⟩, h6⟩, h7⟩, h8⟩ := h
    obtain ⟨fd', U⟩ := hk_fn c (BT.vals_ok e1)
    have S := fnScB_ok h2
    have nd : (N.take fd.np).Nodup := S.nd.sublist (List.take_sublist _ _)
    have hN : N.length = fd.ns := Nat.eq_of_beq_eq_true h3
    have hle : fd.np ≤ fd.ns := Nat.le_of_ble_eq_true h4
    have hd : d.dvs K = [] := by unfold He.DefD.dvs; rw [List.isEmpty_iff.mp h6]; rfl
    have hk : d.kws K = [] := by unfold He.DefD.kws; rw [List.isEmpty_iff.mp h7]; rfl
    rw [hd, hk] at U
    have fa : (P.T K mg).fa f = He.fAd K d.at_ := by show He.fAd K (P.atF f) = _; unfold Prg.atF; rw [e1]
    have B : L2.Binds K fd' (N.take fd.np) [] := U.bindsN fun kV doc pm an cdv ct us hl => argsB_ok h1 nd rfl rfl hl
    refine ⟨d, N, fd', e1, e2, U, h1, nd, ?_⟩
    obtain ⟨oc, od, dV, kV, doc, pm, an, cdv, ct, osl, rfl, lk, hcd, hD, hK⟩ := U.ex
    refine ⟨P.lq f, _, _, _, _, _, dV, kV, doc, pm, cdv, ct, oc, an, od, osl, N, rfl, ?_, ?_, hcd, S, B, ?_, hN, hle, ?_, ?_, (ckS_ok F fuel).ss _ _ _ _ _ _ h8⟩
    · rw [fa]; exact U.kp
    · rw [fa]; exact lk
    · rw [List.length_take]; omega
    · intro i hi; exact Nat.le_of_ble_eq_true (List.all_eq_true.mp h5 i hi)
    · intro q hq
      unfold Prg.lq at hq
      cases hm : isin f P.mks with
      | false => rw [hm] at hq; cases hq
      | true =>
        rw [hm] at hq
        have hq : some (P.lqS f) = some q := hq
        injection hq with hq
        have mem := isin_ok hm
        obtain ⟨cA, rfl⟩ := He.codeIn_ref hcd
        have hat : P.atF f = d.at_ := by unfold Prg.atF; rw [e1]
        have e3 : He.codeOf K (P.atF f) = cA := He.codeOf_eq (by rw [hat]; exact lk) rfl
        have qf : P.qF f = d.qual := by unfold Prg.qF; rw [e1]
        refine ⟨by rw [← hq]; unfold Prg.lqS; rw [qf], cA, (He.cT K (P.atF f)).2, rfl, ?_, ?_, ?_⟩
        · refine List.mem_map.mpr ⟨f, mem, ?_⟩
          show (He.codeOf K (P.atF f), (He.cT K (P.atF f)).2) = _
          rw [e3]
        · exact List.mem_map.mpr ⟨f, mem, by rw [hq]⟩
        · intro p hp e
          obtain ⟨f', m', rfl⟩ := List.mem_map.mp hp
          have z := (pfs_of c.more).mkT f' m' f mem
          rw [show Nat.beq (He.cT K (P.atF f')).2 (He.cT K (P.atF f)).2 = true from by rw [show (He.cT K (P.atF f')).2 = (He.cT K (P.atF f)).2 from e]; exact Nat.beq_refl _] at z
          rw [← hq]; exact sEq_eq z
  · cases h
theorem isGl_ok {p : Str × Option Str} {x : Str} (h : isGl p x = true) : p = (x, none) := by
  obtain ⟨a, b⟩ := p
  cases b with
  | none => rw [show a = x from sEq_eq h]
  | some _ => cases h
theorem isMt_ok {p : Str × Option Str} {x m : Str} (h : isMt p x m = true) : p = (x, some m) := by
  obtain ⟨a, b⟩ := p
  cases b with
  | none => cases h
  | some y =>
    have h : (strEq a x && strEq y m) = true := h
    rw [Bool.and_eq_true] at h
    rw [sEq_eq h.1, sEq_eq h.2]
structure ClFs (P : Prg) (K : PySem.W.Frag) (c : Nat) (cd : CDef) : Prop where
  glo : (He.Fa.glo (P.nmF c)).ok K = true
  keep : (He.Fa.keep (P.nmF c)).ok K = true
  cls : cd.isExc = false → (He.Fa.cls (P.nmF c)).ok K = true ∧ PySem.W.findIn K (.ref (He.ga K (P.nmF c))) "__ne__" = some (some (.builtin "object.__ne__"))
  ha : PySem.W.findIn K (.ref (He.ga K (P.nmF c))) "__class__" = some (some (.builtin "object.__class__"))
  hm : PySem.W.mroIn K (He.ga K (P.nmF c)) (.type "object") = some true
  fl : ∀ f, f ∈ cd.fields → (He.Fa.noat (P.nmF c) (P.nmF f)).ok K = true ∧ ∀ g, g ∈ cd.fields → P.nmF f = P.nmF g → f = g
  mt : ∀ mf, mf ∈ cd.meths → (He.Fa.meth (P.nmF c) (P.nmF mf.1)).ok K = true ∧ P.atF mf.2 = (P.nmF c, some (P.nmF mf.1)) ∧ (P.G.fn.find mf.2).isSome = true ∧ ∀ g, g ∈ cd.fields → P.nmF g ≠ P.nmF mf.1
  ini : ∀ f, cd.init = some f → cd.isExc = false ∧ (He.Fa.mkr (P.nmF c)).ok K = true ∧ P.atF f = (P.nmF c, some ("__init__" : Str)) ∧ (P.G.fn.find f).isSome = true
  nfi : cd.isExc = false → ∀ c' cd', P.G.cls.find c' = some cd' → cd'.isExc = false → PySem.W.notFirst K (He.ga K (P.nmF c)) (.ref (He.ga K (P.nmF c'))) = true
  isi : cd.isExc = false → ∀ c' cd', P.G.cls.find c' = some cd' → PySem.W.kitOne K (.ref (He.ga K (P.nmF c'))) (.ref (He.ga K (P.nmF c))) = some (Nat.beq c' c)
  isb : cd.isExc = false → ∀ t, t ∈ biT → PySem.W.kitOne K (.type t) (.ref (He.ga K (P.nmF c))) = some false
  exc : cd.isExc = true → cd.pay.isNone = true → (He.Fa.exc (P.nmF c)).ok K = true
  exm : cd.isExc = true → ∀ e ce, P.G.cls.find e = some ce → ∀ b, catches P.G c e = some b → PySem.W.exmOne K (.ref (He.ga K (P.nmF e))) (.ref (He.ga K (P.nmF c))) = some b
theorem clfs_of {c : Nat} {cd : CDef} (h : ckClass P K c cd = true) : ClFs P K c cd := by
  unfold ckClass at h
  simp only [Bool.and_eq_true] at h
  obtain ⟨⟨⟨⟨⟨⟨⟨⟨⟨⟨h1, h2⟩, h3⟩, h4⟩, h5⟩, h6⟩, h7⟩, h8⟩, h9⟩, h10⟩, h11⟩ := h
  refine ⟨h1, h2, fun hx => ?_, kO_ok h4, kOb_ok h5, fun f m => ?_, fun mf m => ?_, fun f e => ?_, fun hx c' cd' e hx' => ?_, fun he c' cd' e => ?_, fun he t m => ?_, fun he hp => ?_, fun hx e ce q b hb => ?_⟩
  · rw [hx] at h3
    have h3 : ((He.Fa.cls (P.nmF c)).ok K && kO (PySem.W.findIn K (.ref (He.ga K (P.nmF c))) "__ne__") (some (some (.builtin "object.__ne__")))) = true := h3
    rw [Bool.and_eq_true] at h3
    exact ⟨h3.1, kO_ok h3.2⟩
  · have z := List.all_eq_true.mp h6 f m
    simp only [Bool.and_eq_true] at z
    refine ⟨z.1, fun g mg e => ?_⟩
    have y := List.all_eq_true.mp z.2 g mg
    rw [show strEq (P.nmF f) (P.nmF g) = true from by rw [e]; simp [strEq]] at y
    exact Nat.eq_of_beq_eq_true y
  · have z := List.all_eq_true.mp h7 mf m
    simp only [Bool.and_eq_true] at z
    exact ⟨z.1.1.1, isMt_ok z.1.1.2, z.1.2, fun g mg => sEq_ne (nf (List.all_eq_true.mp z.2 g mg))⟩
  · rw [e] at h8
    simp only [Bool.and_eq_true] at h8
    exact ⟨nf h8.1.1.1, h8.1.1.2, isMt_ok h8.1.2, h8.2⟩
  · have z := BT.all_ok h9 e
    simp only [Bool.and_eq_true] at z
    have z := z.1
    rw [hx, hx'] at z
    exact z
  · have z := BT.all_ok h9 e
    simp only [Bool.and_eq_true] at z
    have z := z.2
    rw [he] at z
    exact kOb_ok z
  · rw [he] at h10
    exact kOb_ok (List.all_eq_true.mp h10 t m)
  · rw [he, hp] at h10; exact h10
  · rw [hx] at h11
    have z := BT.all_ok (show P.G.cls.all _ = true from h11) q
    rw [hb] at z
    exact kOb_ok z
theorem lkN_mem : ∀ {l : List (Nat × Nat)} {m f : Nat}, l.lookup m = some f → (m, f) ∈ l
  | [], _, _, h => by cases h
  | (a, b) :: r, m, f, h => by
    unfold List.lookup at h
    split at h
    · rename_i q
      cases h
      rw [eq_of_beq q]; simp
    · exact List.mem_cons_of_mem _ (lkN_mem h)
theorem clsS_of (X : PFs P K) {c : Nat} {cd : CDef} (e : P.G.cls.find c = some cd) : ClsS (P.T K mg) c cd := by
  have F := clfs_of (X.cl c cd e)
  refine ⟨fun hx => He.cls_ok (F.cls hx).1, fun f g mf mg' e => (F.fl f mf).2 g mg' e, fun f m => He.noat_ok (F.fl f m).1, fun m f e => ?_, fun hx H a dx fs ha => .ins ha (He.cls_ok (F.cls hx).1) F.ha X.hn X.ht F.hm, F.isi, F.isb, X.eq0, fun hx => ⟨(F.cls hx).2, F.hm⟩, F.nfi, fun f e => ?_⟩
  · have z := F.mt (m, f) (lkN_mem e)
    obtain ⟨z1, z2, z3, z4⟩ := z
    have y := He.meth_ok z1
    refine ⟨?_, z4, Option.isSome_iff_exists.mp z3⟩
    show L2.Meth K (He.ga K (P.nmF c)) (P.nmF m) (He.fAd K (P.atF f))
    rw [z2]; exact y
  · obtain ⟨z0, z1, z2, z3⟩ := F.ini f e
    have y := He.mkr_ok z1
    refine ⟨z0, ?_, Option.isSome_iff_exists.mp z3⟩
    show L2.Mk K (He.ga K (P.nmF c)) (He.fAd K (P.atF f))
    rw [z2]; exact y
theorem fcs_of (X : PFs P K) {h : Heap} (KX : K.In h) (G : h.Ns mainGlobals mg) : Fcs (P.T K mg) P.C where
  hG := rfl
  hn := rfl
  ho := rfl
  hl := rfl
  fn := fun f e => by
    have e : (isGl (P.atF f) (P.nmF f) && (P.dd.find f).isSome) = true := e
    rw [Bool.and_eq_true] at e
    cases q : P.dd.find f with
    | none => rw [q] at e; cases e.2
    | some d =>
      have a : P.atF f = d.at_ := by unfold Prg.atF; rw [q]
      rw [a] at e
      have z := He.glo_ok KX G (X.gl f d q e.1)
      show mg (P.nmF f) = some (.ref (He.fAd K (P.atF f)))
      rw [z, a, isGl_ok e.1]; rfl
  cl := fun c e => by
    have e : (P.G.cls.find c).isSome = true := e
    obtain ⟨cd, q⟩ := Option.isSome_iff_exists.mp e
    have F := clfs_of (X.cl c cd q)
    exact ⟨He.glo_ok KX G F.glo, F.keep⟩
  fr := fun x m => He.free_ok KX G (X.fr x m)
  co := fun id w e => by have := BT.all_ok X.co e; cases this
  ex := fun c e => by
    have e : (match P.G.cls.find c with | some cd => cd.isExc && cd.pay.isNone | none => false) = true := e
    cases q : P.G.cls.find c with
    | none => rw [q] at e; cases e
    | some cd =>
      rw [q] at e
      have e : (cd.isExc && cd.pay.isNone) = true := e
      rw [Bool.and_eq_true] at e
      have F := clfs_of (X.cl c cd q)
      obtain ⟨a1, a2, a3, a4⟩ := He.exc_ok (F.exc e.1 e.2)
      exact ⟨"ValueError", "ValueError.__new__", "ValueError.__init__", He.veBase, PySem.F.excBase_ValueError, a1, a2, a3, a4⟩
  xm := fun c e x b hb => by
    have e : (match P.G.cls.find c with | some cd => cd.isExc | none => false) = true := e
    obtain ⟨cd, q, e⟩ : ∃ cd, P.G.cls.find c = some cd ∧ cd.isExc = true := by
      cases q : P.G.cls.find c with
      | none => rw [q] at e; cases e
      | some cd => rw [q] at e; exact ⟨cd, rfl, e⟩
    have F := clfs_of (X.cl c cd q)
    have hb : catches P.G c x = some b := hb
    cases y : P.G.cls.find x with
    | none => unfold catches at hb; rw [y] at hb; cases hb
    | some cx => exact F.exm e x cx y b hb
theorem lamF_of {fuel m : Nat} {ld : LDef} (F : Fcs (P.T K mg) P.C) (h : ckLam P fuel m ld = true) : LamF (P.T K mg) m ld := by
  unfold ckLam at h
  split at h
  · rename_i L e
    simp only [Bool.and_eq_true] at h
    obtain ⟨⟨⟨⟨⟨h1, h2⟩, h3⟩, h4⟩, h5⟩, h6⟩ := h
    have S := fnScB_ok h1
    have nd : (L.N.take ld.np).Nodup := S.nd.sublist (List.take_sublist _ _)
    have hN : L.N.length = ld.ns := Nat.eq_of_beq_eq_true h2
    have hle : ld.np ≤ ld.ns := Nat.le_of_ble_eq_true h3
    exact ⟨L, e, S, hN, hle, fun c pm ctv us hl => argsB_ok h4 nd rfl rfl (by rw [List.length_take]; omega), (ck_ok F fuel).e _ _ _ h5, nf h6⟩
  · cases h
/-- the ghost of a law's beginning -/
noncomputable def g0 (P : Prg) (K : PySem.W.Frag) (a : Addr) (lst : Prop) : Gh := by
  classical
  exact { ow := fun b => if (∃ p, p ∈ P.mks ∧ (He.cT K (P.atF p)).2 = b) then some (.fld 0 0) else if b = a ∧ lst then some .sh else none, io := [], lam := P.lamD.find }
theorem lawAt {l : PySem.W.OpenLaw} {w : World} {fa : Addr} {h : Heap} {fuel fuelE k lawF n : Nat} {fdl : FDef} {d : He.DefD} {Nl : List Str} {x : Str} (KX : K.In h) (G : h.Ns mainGlobals mg) (c : He.SaysX [] P.dd.vals [] P.tf (ckP P) w h K)
    (hD : P.G.fn.all (ckDef P fuel) = true) (hL : P.G.lam.all (ckLam P fuel) = true) (hlaw : P.G.fn.find lawF = some fdl) (hd : P.dd.find lawF = some d) (hat : isGl d.at_ (P.nmF lawF) = true) (hfa : mg (P.nmF lawF) = some (.ref fa)) (hnp : fdl.np = 1) (hNl : P.N.find lawF = some Nl) (hx : Nl.take 1 = [x]) (hk0 : k ≠ 0) (hbor : fdl.bor = []) (hfr : fdl.fr = false)
    (ev : ∀ ns : List Int, ns.length ≤ n → (∀ z, z ∈ ns → Builtin.Int.intBits z ≤ 1048576) → ∃ st, evF P.G fuelE k lawF [.lst (ns.map W.int)] [] = .ok (.bl true) st) : LamX.LawAtS l w K (L2.CX l.prog w) k n x mg fa h := by
  have X := pfs_of c.more
  have F : Fcs (P.T K mg) P.C := fcs_of X KX G
  have hC : ∀ ci cd, (P.T K mg).G.cls.find ci = some cd → ClsS (P.T K mg) ci cd := fun ci cd e => clsS_of X e
  have hDD : ∀ f fd, (P.T K mg).G.fn.find f = some fd → DefF (P.T K mg) f fd := fun f fd e => (let ⟨d, N, fd', _, _, _, _, _, D⟩ := defC_of F c (BT.all_ok hD e); ⟨fd', _, D⟩)
  have hLL : ∀ m ld, (P.T K mg).G.lam.find m = some ld → LamF (P.T K mg) m ld := fun m ld e => lamF_of F (BT.all_ok hL e)
  have hA : P.atF lawF = d.at_ := by unfold Prg.atF; rw [hd]
  have efa : fa = He.fAd K (P.atF lawF) := by
    have z := He.glo_ok KX G (X.gl lawF d hd hat)
    rw [hfa] at z
    injection z with z
    injection z with z
    rw [z, hA, isGl_ok hat]; rfl
  have memT : ∀ p, p ∈ P.mks.map (fun f => He.cT K (P.atF f)) → ∃ f, f ∈ P.mks ∧ P.atF f ∈ P.tf ∧ p = He.cT K (P.atF f) := fun p hp => by
    obtain ⟨f, m, e⟩ := List.mem_map.mp hp
    exact ⟨f, m, List.mem_map_of_mem m, e.symm⟩
  obtain ⟨d', N', fd', e1, e2, U, h1, nd, DC⟩ := defC_of (mg := mg) F c (BT.all_ok hD hlaw)
  rw [hd] at e1; cases e1
  rw [hNl] at e2; cases e2
  rw [hnp, hx] at h1 DC
  have bT := U.bindsA (ps := [x]) fun kV doc pm an cdv ct us hl => argsB_ok h1 (by simp) rfl rfl hl
  refine ⟨fd', P.mks.map fun f => He.cT K (P.atF f), spF (P.T K mg) k lawF fdl, fun p hp => ?_, fun p hp => ?_, fun p hp => ?_, fun s v => bT s [v] rfl, fun H a ns hl hbits hT hS => ?_, fun base KB GB hB => ?_⟩
  · obtain ⟨f, m, mt, rfl⟩ := memT p hp; exact c.empty _ mt
  · obtain ⟨f, m, mt, rfl⟩ := memT p hp; exact c.out _ mt
  · obtain ⟨f, m, mt, rfl⟩ := memT p hp; exact PySem.W.codeHd_of_K KX (c.hd _ mt)
  · refine ⟨by rw [hnp]; rfl, fuelE, [], g0 P K a (∃ vs, H a = some (.lst vs)), [.lst (ns.map W.int)], ?_, ⟨rfl, fun i o e => by simp at e, fun i j p q e => by simp [g0] at e, fun i o e => by simp at e, rfl, ?_⟩, ?_, ?_, rfl, ?_⟩
    · intro b t e
      unfold g0 at e
      dsimp only at e
      split at e
      · rename_i hp
        obtain ⟨f, m, rfl⟩ := hp
        exact ⟨_, hT _ (List.mem_map.mpr ⟨f, m, rfl⟩), fun _ => nofun, fun _ _ => nofun, fun _ _ _ => nofun, fun _ => nofun⟩
      · split at e
        · rename_i hp
          obtain ⟨rfl, vs, hv⟩ := hp
          exact ⟨_, hv, LD_lst⟩
        · cases e
    · refine ⟨fun p hp => ?_, fun p hp => ?_⟩
      · obtain ⟨f, m, rfl⟩ := List.mem_map.mp hp
        exact LamX.TabS.nil (hT _ (List.mem_map.mpr ⟨f, m, rfl⟩))
      · obtain ⟨f, m, rfl⟩ := List.mem_map.mp hp
        exact ⟨0, 0, by unfold g0; dsimp only; rw [if_pos ⟨f, m, rfl⟩]⟩
    · intro b i e
      unfold g0 at e
      dsimp only at e
      split at e
      · cases e
      · split at e <;> cases e
    · intro i w e
      have hi : i = 0 := by
        cases i with
        | zero => rfl
        | succ i => simp at e
      subst hi
      simp only [List.getElem?_cons_zero, Option.some.injEq] at e
      subst e
      refine ⟨.ref a, rfl, ?_⟩
      rw [if_neg (by rw [hbor]; simp)]
      have zs : ∀ (g : Gh) (l : List Int), RelZs (P.T K mg).K g H (l.map W.int) (l.map V.int) := fun g l => by
        induction l with
        | nil => exact .nil
        | cons z l ih => exact .cons (.int z) ih
      refine .lst ?_ (zs _ ns)
      rcases hS with (hS | ⟨o, hS⟩) | hS
      · refine .inl ⟨hS, ?_⟩
        unfold g0
        dsimp only
        rw [if_neg, if_pos ⟨rfl, _, hS⟩]
        rintro ⟨f, m, e⟩
        have z := hT _ (List.mem_map.mpr ⟨f, m, rfl⟩)
        rw [e, hS] at z
        cases z
      · exact .inr (.inl ⟨o, hS⟩)
      · exact .inr (.inr hS)
    · obtain ⟨st, e⟩ := ev ns hl hbits
      show Po (P.T K mg) _ H _ [] _ (evF P.G fuelE k lawF [.lst (ns.map W.int)] [])
      rw [e]
      intro g' H' _ _ _ v r
      rw [hfr] at r
      cases r
      rfl
  · cases k with
    | zero => exact absurd rfl hk0
    | succ k =>
      have ih := fns_ok (T := P.T K mg) (w := w) (P := l.prog) (base := base) (fun d m => sq_ok m) hC hDD hLL hB k
      have z := fn_stepC (T := P.T K mg) (w := w) (P := l.prog) (base := base) (fun m => sq_ok m) hlaw DC hC hB (fun j hj => (ih j hj).1) (fun j hj => (ih j hj).2)
      rw [efa]; exact z
end Pv
end

section
set_option linter.all false
set_option maxRecDepth 100000
namespace Pv
open PySem
/-- the evaluator's functions at one fuel -/
structure Fns where
  evE : Nat → Fr → Sto → Ex → R W
  evEs : Nat → Fr → Sto → List Ex → R (List W)
  evO : Nat → Fr → Sto → Option Ex → R (Option Int)
  evC : Nat → Co → W → W → Sto → R W
  evEq : Nat → Nat → W → W → Sto → R Bool
  evM : Nat → Nat → List W → Sto → R W
  evAnd : Nat → Fr → Sto → List Ex → R W
  evOr : Nat → Fr → Sto → List Ex → R W
  evT : Nat → Fr → Sto → Ex → R Bool
  evTA : Nat → Fr → Sto → List Ex → R Bool
  evTO : Nat → Fr → Sto → List Ex → R Bool
  evI : Nat → Fr → Sto → Ex → R (List W)
  evKs : Nat → Nat → List W → Sto → R (List W)
  evGs : Nat → Fr → Sto → List Gn → Ex → R (List W)
  evG : Nat → Fr → Sto → List Gn → Ex → R (List W)
  evGL : Nat → Fr → Sto → Tg → List W → List Ex → List Gn → Ex → R (List W)
  evL : Nat → Nat → List W → Sto → R W
  evF : Nat → Nat → List W → Sto → R W
  exs : Nat → Fr → Sto → List Sm → RS
  asgT : Nat → Fr → Sto → Tg → W → R Fr
  asgTs : Nat → Fr → Sto → List Tg → List W → R Fr
  ex1 : Nat → Fr → Sto → Sm → RS
  exFor : Nat → Fr → Sto → Tg → List W → List Sm → RS
  exWh : Nat → Fr → Sto → Ex → List Sm → RS
variable (G : Gb)
def k_evE_0 (F : Fns) (d : Nat) (σ : Fr) (st : Sto) (i : Nat) : R W := getv σ i st
def k_evE_1 (F : Fns) (d : Nat) (σ : Fr) (st : Sto) (i : Nat) : R W := getv σ i st
def k_evE_2 (F : Fns) (d : Nat) (σ : Fr) (st : Sto) (i : Nat) : R W := getv σ i st
def k_evE_3 (F : Fns) (d : Nat) (σ : Fr) (st : Sto) (w : W) : R W := .ok w st
def k_evE_4 (F : Fns) (d : Nat) (σ : Fr) (st : Sto) (id : Nat) : R W := o2r (G.con.find id) st
def k_evE_5 (F : Fns) (d : Nat) (σ : Fr) (st : Sto) (es : List Ex) : R W := (F.evEs d σ st es).bind fun ws st => .ok (.tup ws) st
def k_evE_6 (F : Fns) (d : Nat) (σ : Fr) (st : Sto) (es : List Ex) : R W := (F.evEs d σ st es).bind fun ws st => .ok (.lst ws) st
def k_evE_7 (F : Fns) (d : Nat) (σ : Fr) (st : Sto) (ks : List Ex) (vs : List Ex) : R W := (F.evEs d σ st ks).bind fun ks st => (F.evEs d σ st vs).bind fun vs st => .ok (.dic ks vs) st
def k_evE_8 (F : Fns) (d : Nat) (σ : Fr) (st : Sto) (op : Bo) (a : Ex) (b : Ex) : R W := (F.evE d σ st a).bind fun x st => (F.evE d σ st b).bind fun y st => o2r (binop op x y) st
def k_evE_9 (F : Fns) (d : Nat) (σ : Fr) (st : Sto) (a : Ex) : R W := (F.evE d σ st a).bind fun x st => match x with | .int i => .ok (.int (-i)) st | _ => .err
def k_evE_10 (F : Fns) (d : Nat) (σ : Fr) (st : Sto) (op : Co) (a : Ex) (b : Ex) : R W := (F.evE d σ st a).bind fun x st => (F.evE d σ st b).bind fun y st => F.evC d op x y st
def k_evE_11 (F : Fns) (d : Nat) (σ : Fr) (st : Sto) (op1 : Co) (op2 : Co) (a : Ex) (b : Ex) (c : Ex) : R W := (F.evE d σ st a).bind fun x st => (F.evE d σ st b).bind fun y st => match cmpop op1 x y with
      | some true => (F.evE d σ st c).bind fun z st => o2r ((cmpop op2 y z).map .bl) st
      | some false => .ok (.bl false) st
      | none => .err
def k_evE_12 (F : Fns) (d : Nat) (σ : Fr) (st : Sto) (es : List Ex) : R W := F.evAnd d σ st es
def k_evE_13 (F : Fns) (d : Nat) (σ : Fr) (st : Sto) (es : List Ex) : R W := F.evOr d σ st es
def k_evE_14 (F : Fns) (d : Nat) (σ : Fr) (st : Sto) (a : Ex) : R W := (F.evE d σ st a).bind fun w st => match w with | .bl b => .ok (.bl !b) st | _ => .err
def k_evE_15 (F : Fns) (d : Nat) (σ : Fr) (st : Sto) (c : Ex) (a : Ex) (b : Ex) : R W := (F.evT d σ st c).bind fun t st => match t with | true => F.evE d σ st a | false => F.evE d σ st b
def k_evE_16 (F : Fns) (d : Nat) (σ : Fr) (st : Sto) (f : Nat) (es : List Ex) : R W := (F.evEs d σ st es).bind fun ws st => F.evF d f ws st
def k_evE_17 (F : Fns) (d : Nat) (σ : Fr) (st : Sto) (c : Nat) (es : List Ex) : R W := bif Nat.beq d 0 then .err else (F.evEs d σ st es).bind fun ws st => F.evM d c ws st
def k_evE_18 (F : Fns) (d : Nat) (σ : Fr) (st : Sto) (o : Ex) (m : Nat) (es : List Ex) : R W := (F.evE d σ st o).bind fun x st => match x with
      | .obj p => match st[p]? with
        | some ob => match G.cls.find ob.cls with
          | some cd => match cd.meths.lookup m with
            | some f => (F.evEs d σ st es).bind fun ws st => F.evF d f (x :: ws) st
            | none => .err
          | none => .err
        | none => .err
      | _ => .err
def k_evE_19 (F : Fns) (d : Nat) (σ : Fr) (st : Sto) (i : Nat) (es : List Ex) : R W := (getv σ i st).bind fun x st => match x with
      | .fn f [] => (F.evEs d σ st es).bind fun ws st => F.evL d f ws st
      | _ => .err
def k_evE_20 (F : Fns) (d : Nat) (σ : Fr) (st : Sto) (b : Bf) (es : List Ex) : R W := match b, es with
      | .list, [a] => (F.evE d σ st a).bind fun w st => o2r ((seqOf w).map .lst) st
      | .tuple, [a] => (F.evE d σ st a).bind fun w st => o2r ((seqOf w).map .tup) st
      | .sorted, [a] => (F.evE d σ st a).bind fun w st => o2r ((match w with | .set ws => wsort ws | w => (itemsI w).bind wsort).map .lst) st
      | b, es => (F.evEs d σ st es).bind fun ws st => o2r (bfun b ws) st
def k_evE_21 (F : Fns) (d : Nat) (σ : Fr) (st : Sto) (f : Nat) (a : Ex) : R W := (F.evI d σ st a).bind fun ws st => (F.evKs d f ws st).bind fun ks st => o2r ((isort (ks.zip ws)).map fun l => .lst (l.map (·.2))) st
def k_evE_22 (F : Fns) (d : Nat) (σ : Fr) (st : Sto) (m : Bm) (a : Ex) (bs : List Ex) : R W := match m, bs with
      | .index, [b] => (F.evE d σ st a).bind fun x st => (F.evE d σ st b).bind fun y st => match items x with
        | some ws => bif isDat 50 y && isDats 50 ws && mem y ws then .ok (.int (ws.findIdx (weq · y))) st else .err
        | none => .err
      | .count, [b] => (F.evE d σ st a).bind fun x st => (F.evE d σ st b).bind fun y st => match items x with
        | some ws => bif isDat 50 y && isDats 50 ws then .ok (.int (ws.filter (weq · y)).length) st else .err
        | none => .err
      | _, _ => .err
def k_evE_23 (F : Fns) (d : Nat) (σ : Fr) (st : Sto) (o : Ex) (f : Nat) : R W := (F.evE d σ st o).bind fun x st => match x with
      | .obj p => match st[p]? with
        | some ob => o2r (fget f ob.fs) st
        | none => .err
      | _ => .err
def k_evE_24 (F : Fns) (d : Nat) (σ : Fr) (st : Sto) (a : Ex) (i : Ex) : R W := (F.evE d σ st a).bind fun x st => (F.evE d σ st i).bind fun y st => o2r (ixop x y) st
def k_evE_25 (F : Fns) (d : Nat) (σ : Fr) (st : Sto) (a : Ex) (lo : Option Ex) (hi : Option Ex) : R W := (F.evE d σ st a).bind fun x st => (F.evO d σ st lo).bind fun l st => (F.evO d σ st hi).bind fun h st => match x with
      | .tup ws => .ok (.tup (slice ws l h)) st
      | .lst ws => .ok (.lst (slice ws l h)) st
      | _ => .err
def k_evE_26 (F : Fns) (d : Nat) (σ : Fr) (st : Sto) (a : Ex) (ks : List Kd) : R W := (F.evE d σ st a).bind fun x st => o2r ((isAny st x ks).map .bl) st
def k_evE_27 (F : Fns) (d : Nat) (σ : Fr) (st : Sto) (e : Ex) (gs : List Gn) : R W := ((F.evGs d σ st gs e).bind fun ws st => bif small ws.length then .ok (.lst ws) st else .err).noexc
def k_evE_28 (F : Fns) (d : Nat) (σ : Fr) (st : Sto) (e : Ex) (gs : List Gn) : R W := ((F.evGs d σ st gs e).bind fun ws st => bif isDats 7 ws && small ws.length then .ok (.set (dedup [] ws)) st else .err).noexc
def k_evE_29 (F : Fns) (d : Nat) (σ : Fr) (st : Sto) (ke : Ex) (e : Ex) (g : Gn) : R W := ((F.evGs d σ st [g] (.tup [ke, e])).bind fun ws st => bif small ws.length then o2r (bfun .dict [.lst ws]) st else .err).noexc
def k_evE_30 (F : Fns) (d : Nat) (σ : Fr) (st : Sto) (f : Nat) (caps : List Nat) : R W := match caps with | [] => .ok (.fn f []) st | _ => .err
def k_evE (F : Fns) : Nat → Fr → Sto → Ex → R W
  | d, σ, st, e => match e with
    | .v i => k_evE_0 F d σ st i
    | .o i => k_evE_1 F d σ st i
    | .mv i => k_evE_2 F d σ st i
    | .k w => k_evE_3 F d σ st w
    | .g id => k_evE_4 G F d σ st id
    | .tup es => k_evE_5 F d σ st es
    | .lst es => k_evE_6 F d σ st es
    | .dct ks vs => k_evE_7 F d σ st ks vs
    | .bin op a b => k_evE_8 F d σ st op a b
    | .neg a => k_evE_9 F d σ st a
    | .cmp op a b => k_evE_10 F d σ st op a b
    | .cmp2 op1 op2 a b c => k_evE_11 F d σ st op1 op2 a b c
    | .and es => k_evE_12 F d σ st es
    | .or es => k_evE_13 F d σ st es
    | .not a => k_evE_14 F d σ st a
    | .ite c a b => k_evE_15 F d σ st c a b
    | .call f es => k_evE_16 F d σ st f es
    | .make c es => k_evE_17 F d σ st c es
    | .meth o m es => k_evE_18 G F d σ st o m es
    | .cv i es => k_evE_19 F d σ st i es
    | .bf b es => k_evE_20 F d σ st b es
    | .sortk f a => k_evE_21 F d σ st f a
    | .bm m a bs => k_evE_22 F d σ st m a bs
    | .att o f => k_evE_23 F d σ st o f
    | .ix a i => k_evE_24 F d σ st a i
    | .sl a lo hi => k_evE_25 F d σ st a lo hi
    | .isi a ks => k_evE_26 F d σ st a ks
    | .comp e gs => k_evE_27 F d σ st e gs
    | .scomp e gs => k_evE_28 F d σ st e gs
    | .dcomp ke e g => k_evE_29 F d σ st ke e g
    | .lam f caps => k_evE_30 F d σ st f caps
def k_evEs (F : Fns) : Nat → Fr → Sto → List Ex → R (List W)
  | _, _, st, [] => .ok [] st
  | d, σ, st, e :: es => (F.evE d σ st e).bind fun w st => (F.evEs d σ st es).bind fun ws st => .ok (w :: ws) st
def k_evO (F : Fns) : Nat → Fr → Sto → Option Ex → R (Option Int)
  | _, _, st, none => .ok none st
  | d, σ, st, some e => (F.evE d σ st e).bind fun w st => match w with | .int i => .ok (some i) st | _ => .err
def k_evC (F : Fns) : Nat → Co → W → W → Sto → R W
  | d, op, x, y, st => match x, op with
    | .obj p, .eq => ((F.evEq d p x y st).bind fun b st => .ok (.bl b) st).noexc
    | .obj p, .ne => (match d with
      | 0 => .err
      | d + 1 => ((F.evEq d p x y st).bind fun b st => .ok (.bl !b) st).noexc)
    | _, _ => o2r ((cmpop op x y).map .bl) st
def k_evEq (F : Fns) : Nat → Nat → W → W → Sto → R Bool
  | d, p, x, y, st => match y with
    | .obj q => match st[p]?, st[q]? with
      | some ob, some _ => match G.cls.find ob.cls with
        | some cd => match cd.meths.lookup 0 with
          | some f => (F.evF d f [x, y] st).bind fun w st => match w with | .bl b => .ok b st | _ => .err
          | none => .err
        | none => .err
      | _, _ => .err
    | _ => .err
def k_evM (F : Fns) : Nat → Nat → List W → Sto → R W
  | 0, _, _, _ => .err
  | d + 1, c, ws, st => match G.cls.find c with
      | some cd => match cd.init with
        | some f => (F.evF d f (.obj st.length :: ws) (st ++ [⟨c, []⟩])).bind fun w st' => bif isNon w then .ok (.obj st.length) st' else .err
        | none => .err
      | none => .err
def k_evAnd (F : Fns) : Nat → Fr → Sto → List Ex → R W
  | _, _, _, [] => .err
  | d, σ, st, e :: es => match es with
    | [] => F.evE d σ st e
    | _ => (F.evE d σ st e).bind fun w st => match w with | .bl true => F.evAnd d σ st es | .bl false => .ok (.bl false) st | _ => .err
def k_evOr (F : Fns) : Nat → Fr → Sto → List Ex → R W
  | _, _, _, [] => .err
  | d, σ, st, e :: es => match es with
    | [] => F.evE d σ st e
    | _ => (F.evE d σ st e).bind fun w st => match w with | .bl false => F.evOr d σ st es | .bl true => .ok (.bl true) st | _ => .err
def k_evT (F : Fns) : Nat → Fr → Sto → Ex → R Bool
  | d, σ, st, e => match e with
    | .not a => (F.evT d σ st a).bind fun b st => .ok (!b) st
    | .and es => F.evTA d σ st es
    | .or es => F.evTO d σ st es
    | e => (F.evE d σ st e).bind fun w st => o2r (truthy w) st
def k_evTA (F : Fns) : Nat → Fr → Sto → List Ex → R Bool
  | _, _, st, [] => .ok true st
  | d, σ, st, e :: es => (F.evT d σ st e).bind fun b st => match b with | true => F.evTA d σ st es | false => .ok false st
def k_evTO (F : Fns) : Nat → Fr → Sto → List Ex → R Bool
  | _, _, st, [] => .ok false st
  | d, σ, st, e :: es => (F.evT d σ st e).bind fun b st => match b with | false => F.evTO d σ st es | true => .ok true st
def k_evI (F : Fns) : Nat → Fr → Sto → Ex → R (List W)
  | d, σ, st, e => match e with
    | .bf .range [a] => (F.evE d σ st a).bind fun x st => match x with | .int i => bif decide (-(2 ^ 62) ≤ i) && decide (i < 2 ^ 62) then .ok (rng 0 i.toNat) st else .err | _ => .err
    | .bf .range [a, b] => (F.evE d σ st a).bind fun x st => (F.evE d σ st b).bind fun y st => match x, y with
      | .int i, .int j => bif decide (-(2 ^ 62) ≤ i) && decide (i < 2 ^ 62) && decide (-(2 ^ 62) ≤ j) && decide (j < 2 ^ 62) then .ok (rng i (j - i).toNat) st else .err
      | _, _ => .err
    | .bf .zip [a, b] => (F.evI d σ st a).bind fun xs st => (F.evI d σ st b).bind fun ys st => .ok (zipW xs ys) st
    | .bf .enum [a] => (F.evI d σ st a).bind fun xs st => .ok (enumW 0 xs) st
    | .bf .comb [a, b] => (F.evI d σ st a).bind fun xs st => (F.evE d σ st b).bind fun y st => match y with | .int i => .ok ((combos xs i.toNat).map .tup) st | _ => .err
    | .bm .items a [] => (F.evE d σ st a).bind fun x st => match x with | .dic ks vs => .ok (zipW ks vs) st | _ => .err
    | e => (F.evE d σ st e).bind fun w st => o2r (itemsI w) st
def k_evKs (F : Fns) : Nat → Nat → List W → Sto → R (List W)
  | _, _, [], st => .ok [] st
  | d, f, w :: ws, st => (F.evF d f [w] st).bind fun k st => (F.evKs d f ws st).bind fun ks st => .ok (k :: ks) st
def k_evGs (F : Fns) : Nat → Fr → Sto → List Gn → Ex → R (List W)
  | d, σ, st, gs, e => match gs with
    | [] => .err
    | .mk t it ifs :: gs' => (F.evI d σ st it).bind fun ws st => F.evGL d (wipeF σ (tgS t ++ gnS gs')) st t ws ifs gs' e
def k_evG (F : Fns) : Nat → Fr → Sto → List Gn → Ex → R (List W)
  | d, σ, st, gs, e => match gs with
    | [] => (F.evE d σ st e).bind fun w st => .ok [w] st
    | .mk t it ifs :: gs => (F.evI d σ st it).bind fun ws st => F.evGL d (wipeF σ (tgS t)) st t ws ifs gs e
def k_evGL (F : Fns) : Nat → Fr → Sto → Tg → List W → List Ex → List Gn → Ex → R (List W)
  | d, σ, st, t, ws, ifs, gs, e => match ws with
    | [] => .ok [] st
    | w :: ws => (F.asgT d σ st t w).bind fun σ' st => (F.evTA d σ' st ifs).bind fun b st => match b with
      | true => (F.evG d σ' st gs e).bind fun xs st => (F.evGL d σ st t ws ifs gs e).bind fun ys st => .ok (xs ++ ys) st
      | false => F.evGL d σ st t ws ifs gs e
def k_evL (F : Fns) : Nat → Nat → List W → Sto → R W
  | 0, _, _, _ => .err
  | d + 1, f, ws, st => match G.lam.find f with
    | none => .err
    | some ld => bif Nat.beq ws.length ld.np then F.evE d (ws.map some ++ List.replicate (ld.ns - ld.np) none) st ld.body else .err
def k_evF (F : Fns) : Nat → Nat → List W → Sto → R W
  | 0, _, _, _ => .err
  | d + 1, f, ws, st => match G.fn.find f with
    | none => .err
    | some fd => bif Nat.beq ws.length fd.np then
        (match F.exs d (ws.map some ++ List.replicate (fd.ns - fd.np) none) st fd.body with
          | .ok (.rt w) _ st => .ok w st
          | .ok .nx _ st => .ok .non st
          | .ok _ _ _ => .err
          | .exc c pl _ st => .exc c pl st
          | .err => .err)
      else .err
def k_exs (F : Fns) : Nat → Fr → Sto → List Sm → RS
  | d, σ, st, ss => match ss with
    | [] => .ok .nx σ st
    | s :: ss => (F.ex1 d σ st s).bind fun σ st => F.exs d σ st ss
def k_asgT (F : Fns) : Nat → Fr → Sto → Tg → W → R Fr
  | d, σ, st, t, w => match t with
    | .nm i => .ok (σ.set i (some w)) st
    | .own i => .ok (σ.set i (some w)) st
    | .tu ts => match w with
      | .tup ws => F.asgTs d σ st ts ws
      | _ => .err
    | .sub i e => (getv σ i st).bind fun x st => (F.evE d σ st e).bind fun y st => o2r ((putop x y w).map fun z => σ.set i (some z)) st
    | .att o f => (F.evE d σ st o).bind fun x st => match x with
      | .obj p => match st[p]? with
        | some ob => match G.cls.find ob.cls with
          | some cd => bif cd.fields.contains f && Nat.blt ob.fs.length 900 then .ok σ (st.set p ⟨ob.cls, fput f w ob.fs⟩) else .err
          | none => .err
        | none => .err
      | _ => .err
    | .subf o f e => (F.evE d σ st o).bind fun x st => (F.evE d σ st e).bind fun k st => match x with
      | .obj p => match st[p]? with
        | some ob => match (fget f ob.fs).bind fun z => putop z k w with
          | some z => .ok σ (st.set p ⟨ob.cls, fput f z ob.fs⟩)
          | none => .err
        | none => .err
      | _ => .err
def k_asgTs (F : Fns) : Nat → Fr → Sto → List Tg → List W → R Fr
  | d, σ, st, ts, ws => match ts, ws with
    | [], [] => .ok σ st
    | t :: ts, w :: ws => (F.asgT d σ st t w).bind fun σ st => F.asgTs d σ st ts ws
    | _, _ => .err
def k_ex1_0 (F : Fns) (d : Nat) (σ : Fr) (st : Sto) (t : Tg) (e : Ex) : RS := (F.evE d σ st e).toS σ fun w st => (F.asgT d σ st t w).toS σ fun σ st => .ok .nx σ st
def k_ex1_1 (F : Fns) (d : Nat) (σ : Fr) (st : Sto) (ts : List Tg) (es : List Ex) : RS := (F.evEs d σ st es).toS σ fun ws st => (F.asgTs d σ st ts ws).toS σ fun σ st => .ok .nx σ st
def k_ex1_2 (F : Fns) (d : Nat) (σ : Fr) (st : Sto) (i : Nat) (op : Bo) (e : Ex) : RS := (getv σ i st).toS σ fun x st => (F.evE d σ st e).toS σ fun y st => match binop op x y with
      | some (.int j) => .ok .nx (σ.set i (some (.int j))) st
      | _ => .err
def k_ex1_3 (F : Fns) (d : Nat) (σ : Fr) (st : Sto) (e : Ex) : RS := (F.evE d σ st e).toS σ fun w st => .ok (.rt w) σ st
def k_ex1_4 (F : Fns) (d : Nat) (σ : Fr) (st : Sto)  : RS := .ok (.rt .non) σ st
def k_ex1_5 (F : Fns) (d : Nat) (σ : Fr) (st : Sto) (e : Ex) : RS := (F.evE d σ st e).toS σ fun _ st => .ok .nx σ st
def k_ex1_6 (F : Fns) (d : Nat) (σ : Fr) (st : Sto) (i : Nat) (e : Ex) : RS := (getv σ i st).toS σ fun x st => match x with
      | .lst ws => (F.evE d σ st e).toS σ fun y st => bif small (ws.length + 1) then .ok .nx (σ.set i (some (.lst (ws ++ [y])))) st else .err
      | _ => .err
def k_ex1_7 (F : Fns) (d : Nat) (σ : Fr) (st : Sto) (i : Nat) (e : Ex) : RS := (getv σ i st).toS σ fun x st => match x with
      | .lst ws => (F.evE d σ st e).toS σ fun y st => match y with
        | .lst ys => bif small (ws.length + ys.length) then .ok .nx (σ.set i (some (.lst (ws ++ ys)))) st else .err
        | _ => .err
      | _ => .err
def k_ex1_8 (F : Fns) (d : Nat) (σ : Fr) (st : Sto) (i : Nat) : RS := (getv σ i st).toS σ fun x st => match x with
      | .lst ws => .ok .nx (σ.set i (some (.lst ws.reverse))) st
      | _ => .err
def k_ex1_9 (F : Fns) (d : Nat) (σ : Fr) (st : Sto) (c : Ex) (a : List Sm) (b : List Sm) : RS := (F.evT d σ st c).toS σ fun t st => match t with | true => F.exs d σ st a | false => F.exs d σ st b
def k_ex1_10 (F : Fns) (d : Nat) (σ : Fr) (st : Sto) (t : Tg) (it : Ex) (body : List Sm) : RS := (F.evI d σ st it).toS σ fun ws st => F.exFor d σ st t ws body
def k_ex1_11 (F : Fns) (d : Nat) (σ : Fr) (st : Sto) (c : Ex) (body : List Sm) : RS := F.exWh d σ st c body
def k_ex1_12 (F : Fns) (d : Nat) (σ : Fr) (st : Sto) (c : Nat) (es : List Ex) : RS := (F.evEs d σ st es).toS σ fun ws st => match G.cls.find c with
      | some cd => match cd.pay, ws with
        | some f, [w] => .exc c [(f, w)] σ st
        | none, _ => .exc c [] σ st
        | _, _ => .err
      | none => .err
def k_ex1_13 (F : Fns) (d : Nat) (σ : Fr) (st : Sto) (body : List Sm) (c : Nat) (nm : Option Nat) (h : List Sm) : RS := match F.exs d σ st body with
      | .ok f σ st => .ok f σ st
      | .exc e pl σ st => (match catches G c e with
        | some true => (match nm with
          | none => F.exs d σ st h
          | some i => F.exs d (σ.set i (some (.obj st.length))) (st ++ [⟨e, pl⟩]) h)
        | some false => .exc e pl σ st
        | none => .err)
      | .err => .err
def k_ex1_14 (F : Fns) (d : Nat) (σ : Fr) (st : Sto)  : RS := .ok .nx σ st
def k_ex1_15 (F : Fns) (d : Nat) (σ : Fr) (st : Sto)  : RS := .ok .bk σ st
def k_ex1_16 (F : Fns) (d : Nat) (σ : Fr) (st : Sto)  : RS := .ok .ct σ st
def k_ex1 (F : Fns) : Nat → Fr → Sto → Sm → RS
  | d, σ, st, s => match s with
    | .asg t e => k_ex1_0 F d σ st t e
    | .par ts es => k_ex1_1 F d σ st ts es
    | .aug i op e => k_ex1_2 F d σ st i op e
    | .ret e => k_ex1_3 F d σ st e
    | .retN => k_ex1_4 F d σ st
    | .ex e => k_ex1_5 F d σ st e
    | .app i e => k_ex1_6 F d σ st i e
    | .ext i e => k_ex1_7 F d σ st i e
    | .rev i => k_ex1_8 F d σ st i
    | .ife c a b => k_ex1_9 F d σ st c a b
    | .for t it body => k_ex1_10 F d σ st t it body
    | .while c body => k_ex1_11 F d σ st c body
    | .raise c es => k_ex1_12 G F d σ st c es
    | .try body c nm h => k_ex1_13 G F d σ st body c nm h
    | .pass => k_ex1_14 F d σ st
    | .brk => k_ex1_15 F d σ st
    | .cont => k_ex1_16 F d σ st
def k_exFor (F : Fns) : Nat → Fr → Sto → Tg → List W → List Sm → RS
  | d, σ, st, t, ws, body => match ws with
    | [] => .ok .nx σ st
    | w :: ws => (F.asgT d σ st t w).toS σ fun σ st => match F.exs d σ st body with
      | .ok .nx σ st => F.exFor d σ st t ws body
      | .ok .ct σ st => F.exFor d σ st t ws body
      | .ok .bk σ st => .ok .nx σ st
      | r => r
def k_exWh (F : Fns) : Nat → Fr → Sto → Ex → List Sm → RS
  | d, σ, st, c, body => (F.evT d σ st c).toS σ fun t st => match t with
    | false => .ok .nx σ st
    | true => match F.exs d σ st body with
      | .ok .nx σ st => F.exWh d σ st c body
      | .ok .ct σ st => F.exWh d σ st c body
      | .ok .bk σ st => .ok .nx σ st
      | r => r
def Fns.no : Fns := ⟨fun _ _ _ _ => .err, fun _ _ _ _ => .err, fun _ _ _ _ => .err, fun _ _ _ _ _ => .err, fun _ _ _ _ _ => .err, fun _ _ _ _ => .err, fun _ _ _ _ => .err, fun _ _ _ _ => .err, fun _ _ _ _ => .err, fun _ _ _ _ => .err, fun _ _ _ _ => .err, fun _ _ _ _ => .err, fun _ _ _ _ => .err, fun _ _ _ _ _ => .err, fun _ _ _ _ _ => .err, fun _ _ _ _ _ _ _ _ => .err, fun _ _ _ _ => .err, fun _ _ _ _ => .err, fun _ _ _ _ => .err, fun _ _ _ _ _ => .err, fun _ _ _ _ _ => .err, fun _ _ _ _ => .err, fun _ _ _ _ _ _ => .err, fun _ _ _ _ _ => .err⟩
def Fns.up (F : Fns) : Fns := ⟨k_evE G F, k_evEs F, k_evO F, k_evC F, k_evEq G F, k_evM G F, k_evAnd F, k_evOr F, k_evT F, k_evTA F, k_evTO F, k_evI F, k_evKs F, k_evGs F, k_evG F, k_evGL F, k_evL G F, k_evF G F, k_exs F, k_asgT G F, k_asgTs F, k_ex1 G F, k_exFor F, k_exWh F⟩
def its (n : Nat) : Fns := Nat.rec Fns.no (fun _ F => Fns.up G F) n
end Pv
end

section
set_option linter.all false
set_option Elab.async false
set_option maxRecDepth 100000
set_option maxHeartbeats 4000000
namespace Pv
open PySem
variable (G : Gb)
def Fns.of (n : Nat) : Fns := ⟨Pv.evE G n, Pv.evEs G n, Pv.evO G n, Pv.evC G n, Pv.evEq G n, Pv.evM G n, Pv.evAnd G n, Pv.evOr G n, Pv.evT G n, Pv.evTA G n, Pv.evTO G n, Pv.evI G n, Pv.evKs G n, Pv.evGs G n, Pv.evG G n, Pv.evGL G n, Pv.evL G n, Pv.evF G n, Pv.exs G n, Pv.asgT G n, Pv.asgTs G n, Pv.ex1 G n, Pv.exFor G n, Pv.exWh G n⟩
theorem z_evE : (fun _ _ _ _ => .err) = evE G 0 := by
  funext a0 a1 a2 a3
  rw [evE.eq_def]
theorem u_evE (n : Nat) : k_evE G (Fns.of G n) = evE G (n + 1) := by
  funext a0 a1 a2 a3
  rw [evE.eq_def]
  first | rfl | (cases a0 <;> rfl) | (cases a1 <;> rfl) | (cases a2 <;> rfl) | (cases a3 <;> rfl)
theorem z_evEs : (fun _ _ _ _ => .err) = evEs G 0 := by
  funext a0 a1 a2 a3
  rw [evEs.eq_def]
theorem u_evEs (n : Nat) : k_evEs (Fns.of G n) = evEs G (n + 1) := by
  funext a0 a1 a2 a3
  rw [evEs.eq_def]
  first | rfl | (cases a0 <;> rfl) | (cases a1 <;> rfl) | (cases a2 <;> rfl) | (cases a3 <;> rfl)
theorem z_evO : (fun _ _ _ _ => .err) = evO G 0 := by
  funext a0 a1 a2 a3
  rw [evO.eq_def]
theorem u_evO (n : Nat) : k_evO (Fns.of G n) = evO G (n + 1) := by
  funext a0 a1 a2 a3
  rw [evO.eq_def]
  first | rfl | (cases a0 <;> rfl) | (cases a1 <;> rfl) | (cases a2 <;> rfl) | (cases a3 <;> rfl)
theorem z_evC : (fun _ _ _ _ _ => .err) = evC G 0 := by
  funext a0 a1 a2 a3 a4
  rw [evC.eq_def]
theorem u_evC (n : Nat) : k_evC (Fns.of G n) = evC G (n + 1) := by
  funext a0 a1 a2 a3 a4
  rw [evC.eq_def]
  first | rfl | (cases a0 <;> rfl) | (cases a1 <;> rfl) | (cases a2 <;> rfl) | (cases a3 <;> rfl) | (cases a4 <;> rfl)
theorem z_evEq : (fun _ _ _ _ _ => .err) = evEq G 0 := by
  funext a0 a1 a2 a3 a4
  rw [evEq.eq_def]
theorem u_evEq (n : Nat) : k_evEq G (Fns.of G n) = evEq G (n + 1) := by
  funext a0 a1 a2 a3 a4
  rw [evEq.eq_def]
  first | rfl | (cases a0 <;> rfl) | (cases a1 <;> rfl) | (cases a2 <;> rfl) | (cases a3 <;> rfl) | (cases a4 <;> rfl)
theorem z_evM : (fun _ _ _ _ => .err) = evM G 0 := by
  funext a0 a1 a2 a3
  rw [evM.eq_def]
theorem u_evM (n : Nat) : k_evM G (Fns.of G n) = evM G (n + 1) := by
  funext a0 a1 a2 a3
  rw [evM.eq_def]
  first | rfl | (cases a0 <;> rfl) | (cases a1 <;> rfl) | (cases a2 <;> rfl) | (cases a3 <;> rfl)
theorem z_evAnd : (fun _ _ _ _ => .err) = evAnd G 0 := by
  funext a0 a1 a2 a3
  rw [evAnd.eq_def]
theorem u_evAnd (n : Nat) : k_evAnd (Fns.of G n) = evAnd G (n + 1) := by
  funext a0 a1 a2 a3
  rw [evAnd.eq_def]
  first | rfl | (cases a0 <;> rfl) | (cases a1 <;> rfl) | (cases a2 <;> rfl) | (cases a3 <;> rfl)
theorem z_evOr : (fun _ _ _ _ => .err) = evOr G 0 := by
  funext a0 a1 a2 a3
  rw [evOr.eq_def]
theorem u_evOr (n : Nat) : k_evOr (Fns.of G n) = evOr G (n + 1) := by
  funext a0 a1 a2 a3
  rw [evOr.eq_def]
  first | rfl | (cases a0 <;> rfl) | (cases a1 <;> rfl) | (cases a2 <;> rfl) | (cases a3 <;> rfl)
theorem z_evT : (fun _ _ _ _ => .err) = evT G 0 := by
  funext a0 a1 a2 a3
  rw [evT.eq_def]
theorem u_evT (n : Nat) : k_evT (Fns.of G n) = evT G (n + 1) := by
  funext a0 a1 a2 a3
  rw [evT.eq_def]
  first | rfl | (cases a0 <;> rfl) | (cases a1 <;> rfl) | (cases a2 <;> rfl) | (cases a3 <;> rfl)
theorem z_evTA : (fun _ _ _ _ => .err) = evTA G 0 := by
  funext a0 a1 a2 a3
  rw [evTA.eq_def]
theorem u_evTA (n : Nat) : k_evTA (Fns.of G n) = evTA G (n + 1) := by
  funext a0 a1 a2 a3
  rw [evTA.eq_def]
  first | rfl | (cases a0 <;> rfl) | (cases a1 <;> rfl) | (cases a2 <;> rfl) | (cases a3 <;> rfl)
theorem z_evTO : (fun _ _ _ _ => .err) = evTO G 0 := by
  funext a0 a1 a2 a3
  rw [evTO.eq_def]
theorem u_evTO (n : Nat) : k_evTO (Fns.of G n) = evTO G (n + 1) := by
  funext a0 a1 a2 a3
  rw [evTO.eq_def]
  first | rfl | (cases a0 <;> rfl) | (cases a1 <;> rfl) | (cases a2 <;> rfl) | (cases a3 <;> rfl)
theorem z_evI : (fun _ _ _ _ => .err) = evI G 0 := by
  funext a0 a1 a2 a3
  rw [evI.eq_def]
theorem u_evI (n : Nat) : k_evI (Fns.of G n) = evI G (n + 1) := by
  funext a0 a1 a2 a3
  rw [evI.eq_def]
  first | rfl | (cases a0 <;> rfl) | (cases a1 <;> rfl) | (cases a2 <;> rfl) | (cases a3 <;> rfl)
theorem z_evKs : (fun _ _ _ _ => .err) = evKs G 0 := by
  funext a0 a1 a2 a3
  rw [evKs.eq_def]
theorem u_evKs (n : Nat) : k_evKs (Fns.of G n) = evKs G (n + 1) := by
  funext a0 a1 a2 a3
  rw [evKs.eq_def]
  first | rfl | (cases a0 <;> rfl) | (cases a1 <;> rfl) | (cases a2 <;> rfl) | (cases a3 <;> rfl)
theorem z_evGs : (fun _ _ _ _ _ => .err) = evGs G 0 := by
  funext a0 a1 a2 a3 a4
  rw [evGs.eq_def]
theorem u_evGs (n : Nat) : k_evGs (Fns.of G n) = evGs G (n + 1) := by
  funext a0 a1 a2 a3 a4
  rw [evGs.eq_def]
  first | rfl | (cases a0 <;> rfl) | (cases a1 <;> rfl) | (cases a2 <;> rfl) | (cases a3 <;> rfl) | (cases a4 <;> rfl)
theorem z_evG : (fun _ _ _ _ _ => .err) = evG G 0 := by
  funext a0 a1 a2 a3 a4
  rw [evG.eq_def]
theorem u_evG (n : Nat) : k_evG (Fns.of G n) = evG G (n + 1) := by
  funext a0 a1 a2 a3 a4
  rw [evG.eq_def]
  first | rfl | (cases a0 <;> rfl) | (cases a1 <;> rfl) | (cases a2 <;> rfl) | (cases a3 <;> rfl) | (cases a4 <;> rfl)
theorem z_evGL : (fun _ _ _ _ _ _ _ _ => .err) = evGL G 0 := by
  funext a0 a1 a2 a3 a4 a5 a6 a7
  rw [evGL.eq_def]
theorem u_evGL (n : Nat) : k_evGL (Fns.of G n) = evGL G (n + 1) := by
  funext a0 a1 a2 a3 a4 a5 a6 a7
  rw [evGL.eq_def]
  first | rfl | (cases a0 <;> rfl) | (cases a1 <;> rfl) | (cases a2 <;> rfl) | (cases a3 <;> rfl) | (cases a4 <;> rfl) | (cases a5 <;> rfl) | (cases a6 <;> rfl) | (cases a7 <;> rfl)
theorem z_evL : (fun _ _ _ _ => .err) = evL G 0 := by
  funext a0 a1 a2 a3
  rw [evL.eq_def]
theorem u_evL (n : Nat) : k_evL G (Fns.of G n) = evL G (n + 1) := by
  funext a0 a1 a2 a3
  rw [evL.eq_def]
  first | rfl | (cases a0 <;> rfl) | (cases a1 <;> rfl) | (cases a2 <;> rfl) | (cases a3 <;> rfl)
theorem z_evF : (fun _ _ _ _ => .err) = evF G 0 := by
  funext a0 a1 a2 a3
  rw [evF.eq_def]
theorem u_evF (n : Nat) : k_evF G (Fns.of G n) = evF G (n + 1) := by
  funext a0 a1 a2 a3
  rw [evF.eq_def]
  first | rfl | (cases a0 <;> rfl) | (cases a1 <;> rfl) | (cases a2 <;> rfl) | (cases a3 <;> rfl)
theorem z_exs : (fun _ _ _ _ => .err) = exs G 0 := by
  funext a0 a1 a2 a3
  rw [exs.eq_def]
theorem u_exs (n : Nat) : k_exs (Fns.of G n) = exs G (n + 1) := by
  funext a0 a1 a2 a3
  rw [exs.eq_def]
  first | rfl | (cases a0 <;> rfl) | (cases a1 <;> rfl) | (cases a2 <;> rfl) | (cases a3 <;> rfl)
theorem z_asgT : (fun _ _ _ _ _ => .err) = asgT G 0 := by
  funext a0 a1 a2 a3 a4
  rw [asgT.eq_def]
theorem u_asgT (n : Nat) : k_asgT G (Fns.of G n) = asgT G (n + 1) := by
  funext a0 a1 a2 a3 a4
  rw [asgT.eq_def]
  first | rfl | (cases a0 <;> rfl) | (cases a1 <;> rfl) | (cases a2 <;> rfl) | (cases a3 <;> rfl) | (cases a4 <;> rfl)
theorem z_asgTs : (fun _ _ _ _ _ => .err) = asgTs G 0 := by
  funext a0 a1 a2 a3 a4
  rw [asgTs.eq_def]
theorem u_asgTs (n : Nat) : k_asgTs (Fns.of G n) = asgTs G (n + 1) := by
  funext a0 a1 a2 a3 a4
  rw [asgTs.eq_def]
  first | rfl | (cases a0 <;> rfl) | (cases a1 <;> rfl) | (cases a2 <;> rfl) | (cases a3 <;> rfl) | (cases a4 <;> rfl)
theorem z_ex1 : (fun _ _ _ _ => .err) = ex1 G 0 := by
  funext a0 a1 a2 a3
  rw [ex1.eq_def]
theorem u_ex1 (n : Nat) : k_ex1 G (Fns.of G n) = ex1 G (n + 1) := by
  funext a0 a1 a2 a3
  rw [ex1.eq_def]
  first | rfl | (cases a0 <;> rfl) | (cases a1 <;> rfl) | (cases a2 <;> rfl) | (cases a3 <;> rfl)
theorem z_exFor : (fun _ _ _ _ _ _ => .err) = exFor G 0 := by
  funext a0 a1 a2 a3 a4 a5
  rw [exFor.eq_def]
theorem u_exFor (n : Nat) : k_exFor (Fns.of G n) = exFor G (n + 1) := by
  funext a0 a1 a2 a3 a4 a5
  rw [exFor.eq_def]
  first | rfl | (cases a0 <;> rfl) | (cases a1 <;> rfl) | (cases a2 <;> rfl) | (cases a3 <;> rfl) | (cases a4 <;> rfl) | (cases a5 <;> rfl)
theorem z_exWh : (fun _ _ _ _ _ => .err) = exWh G 0 := by
  funext a0 a1 a2 a3 a4
  rw [exWh.eq_def]
theorem u_exWh (n : Nat) : k_exWh (Fns.of G n) = exWh G (n + 1) := by
  funext a0 a1 a2 a3 a4
  rw [exWh.eq_def]
  first | rfl | (cases a0 <;> rfl) | (cases a1 <;> rfl) | (cases a2 <;> rfl) | (cases a3 <;> rfl) | (cases a4 <;> rfl)
theorem its_of : ∀ n : Nat, its G n = Fns.of G n
  | 0 => by
    show Fns.no = Fns.of G 0
    unfold Fns.no Fns.of
    rw [← z_evE G, ← z_evEs G, ← z_evO G, ← z_evC G, ← z_evEq G, ← z_evM G, ← z_evAnd G, ← z_evOr G, ← z_evT G, ← z_evTA G, ← z_evTO G, ← z_evI G, ← z_evKs G, ← z_evGs G, ← z_evG G, ← z_evGL G, ← z_evL G, ← z_evF G, ← z_exs G, ← z_asgT G, ← z_asgTs G, ← z_ex1 G, ← z_exFor G, ← z_exWh G]
  | n + 1 => by
    show Fns.up G (its G n) = Fns.of G (n + 1)
    rw [its_of n]
    unfold Fns.up
    rw [u_evE, u_evEs, u_evO, u_evC, u_evEq, u_evM, u_evAnd, u_evOr, u_evT, u_evTA, u_evTO, u_evI, u_evKs, u_evGs, u_evG, u_evGL, u_evL, u_evF, u_exs, u_asgT, u_asgTs, u_ex1, u_exFor, u_exWh]
    rfl
end Pv
end

section
set_option linter.all false
namespace Pv
open PySem
section
variable {G : Gb} {n d : Nat} {σ σ1 σ2 : Fr} {st st1 st2 : Sto} {t : Tg} {w : W} {ws : List W} {b : List Sm} {r : RS}
theorem exs_its {ss : List Sm} (h : (its G n).exs d σ st ss = r) : exs G n d σ st ss = r := by rw [its_of] at h; exact h
theorem ex1_its {s : Sm} (h : (its G n).ex1 d σ st s = r) : ex1 G n d σ st s = r := by rw [its_of] at h; exact h
theorem evF_its {f : Nat} {r : R W} (h : (its G n).evF d f ws st = r) : evF G n d f ws st = r := by rw [its_of] at h; exact h
/-- a turn of a loop -/
theorem for_step (h1 : asgT G n d σ st t w = .ok σ1 st1) (h2 : exs G n d σ1 st1 b = .ok .nx σ2 st2) (h3 : exFor G n d σ2 st2 t ws b = r) : exFor G (n + 1) d σ st t (w :: ws) b = r := by
  rw [exFor_cons, h1]
  show (match exs G n d σ1 st1 b with | .ok .nx σ st => exFor G n d σ st t ws b | .ok .ct σ st => exFor G n d σ st t ws b | .ok .bk σ st => .ok .nx σ st | r => r) = r
  rw [h2]; exact h3
theorem for_end : exFor G (n + 1) d σ st t [] b = .ok .nx σ st := exFor_nil
theorem for_of {it : Ex} (h1 : evI G n d σ st it = .ok ws st1) (h2 : exFor G n d σ st1 t ws b = r) : ex1 G (n + 1) d σ st (.for t it b) = r := by
  simp only [ex1]; rw [h1]; exact h2
theorem exs_step {s : Sm} {ss : List Sm} (h1 : ex1 G n d σ st s = .ok .nx σ1 st1) (h2 : exs G n d σ1 st1 ss = r) : exs G (n + 1) d σ st (s :: ss) = r := by
  simp only [exs]; rw [h1]; exact h2
theorem exs_nil : exs G (n + 1) d σ st [] = .ok .nx σ st := by simp only [exs]
theorem exs_ret {s : Sm} {ss : List Sm} (h1 : ex1 G n d σ st s = .ok (.rt w) σ1 st1) : exs G (n + 1) d σ st (s :: ss) = .ok (.rt w) σ1 st1 := by
  simp only [exs]; rw [h1]; rfl
theorem evF_rt {f : Nat} {fd : FDef} (hf : G.fn.find f = some fd) (hl : ws.length = fd.np) (h : exs G n d (ws.map some ++ List.replicate (fd.ns - fd.np) none) st fd.body = .ok (.rt w) σ1 st1) : evF G (n + 1) (d + 1) f ws st = .ok w st1 := by
  rw [evF.eq_def]
  simp only [hf]
  rw [show Nat.beq ws.length fd.np = true from by rw [hl]; exact Nat.beq_refl _]
  simp only [cond]
  rw [h]
end
end Pv
end

section
set_option Elab.async false
set_option linter.all false
set_option maxRecDepth 100000
set_option maxHeartbeats 0
namespace Pv.k08
open PySem PySem.Spec PyProof.Rows L2
abbrev R : PySem.W.OpenRow := PySem.W.OpenLaw.row PySem.Challenge.rw_retrykeys_k08_promises_by_hand
def noSt : Stmt := .Pass ⟨0, 0, 0, 0⟩
def tp (i : Nat) : Stmt := PySem.Challenge.pw_retrykeys_k08_promises_by_hand.main.body.getD i noSt
def inC (i j : Nat) : Stmt := match tp i with | .ClassDef _ _ _ b _ _ _ _ _ _ _ => b.getD j noSt | _ => noSt
def atF (x : Str) (m : Option Str) (q : Str) (st : Stmt) : He.DefD := ⟨(x, m), (match m with | none => x | some y => y), q, defArgs st, defBody st, defScope st, [], []⟩
/-- _wall: 0 k, -/
def d__wall : FDef := ⟨1, [], [], false, 1,
 [.while (.k (.bl true))
   [.pass]]⟩

/-- is_integer: 0 value, -/
def d_is_integer : FDef := ⟨1, [], [], false, 1,
 [.ret (.and [(.isi (.v 0) [.int]), (.not (.isi (.v 0) [.bool]))])]⟩

/-- is_index: 0 value, 1 size, -/
def d_is_index : FDef := ⟨2, [], [], false, 2,
 [.ret (.and [(.call 2 [(.v 0)]), (.cmp2 .le .lt (.k (.int 0)) (.v 0) (.v 1))])]⟩

/-- is_answer: 0 value, -/
def d_is_answer : FDef := ⟨1, [], [], false, 1,
 [.ret (.call 3 [(.v 0), (.k (.int 10))])]⟩

/-- is_tuple: 0 value, 1 least, 2 most, -/
def d_is_tuple : FDef := ⟨3, [], [], false, 3,
 [.ret (.and [(.isi (.v 0) [.tuple]), (.cmp2 .le .le (.v 1) (.bf .len [(.v 0)]) (.v 2))])]⟩

/-- is_reply: 0 value, 1 states, -/
def d_is_reply : FDef := ⟨2, [], [], false, 2,
 [.ret (.and [(.call 5 [(.v 0), (.k (.int 2)), (.k (.int 2))]), (.call 3 [(.ix (.v 0) (.k (.int 0))), (.v 1)]), (.call 4 [(.ix (.v 0) (.k (.int 1)))])])]⟩

/-- is_row: 0 value, 1 states, 2 calls, 3 reply, -/
def d_is_row : FDef := ⟨3, [], [], false, 4,
 [.ret (.and [(.call 5 [(.v 0), (.v 2), (.v 2)]), (.bf .all [(.comp (.call 6 [(.v 3), (.v 1)]) [(.mk (.nm 3) (.v 0) [])])])])]⟩

/-- is_service: 0 value, 1 row, -/
def d_is_service : FDef := ⟨1, [], [], false, 2,
 [.ife (.or [(.not (.call 5 [(.v 0), (.k (.int 1)), (.k (.int 4))])), (.not (.call 5 [(.ix (.v 0) (.k (.int 0))), (.k (.int 1)), (.k (.int 3))]))])
   [.ret (.k (.bl false))]
   [],
  .ret (.bf .all [(.comp (.call 7 [(.v 1), (.bf .len [(.v 0)]), (.bf .len [(.ix (.v 0) (.k (.int 0)))])]) [(.mk (.nm 1) (.v 0) [])])])]⟩

/-- is_system: 0 value, 1 service, -/
def d_is_system : FDef := ⟨1, [], [], false, 2,
 [.ret (.and [(.call 5 [(.v 0), (.k (.int 1)), (.k (.int 2))]), (.bf .all [(.comp (.call 8 [(.v 1)]) [(.mk (.nm 1) (.v 0) [])])])])]⟩

/-- check_service: 0 service, -/
def d_check_service : FDef := ⟨1, [], [], false, 1,
 [.ife (.not (.call 8 [(.v 0)]))
   [.raise 10 [(.k (.str ⟨#[110, 111, 116, 32, 97, 32, 115, 101, 114, 118, 105, 99, 101]⟩))]]
   []]⟩

/-- execute: 0 service, 1 state, 2 call, -/
def d_execute : FDef := ⟨3, [], [], false, 3,
 [.ex (.call 11 [(.v 0)]),
  .ife (.or [(.not (.call 3 [(.v 1), (.bf .len [(.v 0)])])), (.not (.call 3 [(.v 2), (.bf .len [(.ix (.v 0) (.k (.int 0)))])]))])
   [.raise 12 [(.k (.str ⟨#[116, 104, 101, 32, 115, 101, 114, 118, 105, 99, 101, 32, 104, 97, 115, 32, 110, 111, 32, 115, 117, 99, 104, 32, 115, 116, 97, 116, 101, 32, 111, 114, 32, 110, 111, 32, 115, 117, 99, 104, 32, 99, 97, 108, 108]⟩))]]
   [],
  .ret (.ix (.ix (.v 0) (.v 1)) (.v 2))]⟩

/-- executed: 0 service, 1 state, 2 calls, 3 answers, 4 call, 5 answer, -/
def d_executed : FDef := ⟨3, [], [3], false, 6,
 [.asg (.own 3) (.lst []),
  .for (.nm 4) (.v 2)
   [.asg (.tu [(.nm 1), (.nm 5)]) (.ix (.ix (.v 0) (.v 1)) (.v 4)),
    .app 3 (.v 5)],
  .ret (.tup [(.v 1), (.mv 3)])]⟩

/-- repeats_in: 0 service, 1 state, 2 call, 3 once, 4 twice, 5 answers, 6 answer, -/
def d_repeats_in : FDef := ⟨3, [], [], false, 7,
 [.asg (.tu [(.nm 3), (.tu [(.nm 6)])]) (.call 14 [(.v 0), (.v 1), (.tup [(.v 2)])]),
  .asg (.tu [(.nm 4), (.nm 5)]) (.call 14 [(.v 0), (.v 1), (.tup [(.v 2), (.v 2)])]),
  .ret (.and [(.cmp .eq (.v 3) (.v 4)), (.cmp .eq (.v 5) (.lst [(.v 6), (.v 6)]))])]⟩

/-- repeats: 0 service, 1 call, 2 state, -/
def d_repeats : FDef := ⟨2, [], [], false, 3,
 [.ret (.bf .all [(.comp (.call 15 [(.v 0), (.v 2), (.v 1)]) [(.mk (.nm 2) (.bf .range [(.bf .len [(.v 0)])]) [])])])]⟩

/-- commutes_in: 0 service, 1 state, 2 first, 3 second, 4 there, 5 answers, 6 back, 7 swapped, -/
def d_commutes_in : FDef := ⟨4, [], [], false, 8,
 [.asg (.tu [(.nm 4), (.nm 5)]) (.call 14 [(.v 0), (.v 1), (.tup [(.v 2), (.v 3)])]),
  .asg (.tu [(.nm 6), (.nm 7)]) (.call 14 [(.v 0), (.v 1), (.tup [(.v 3), (.v 2)])]),
  .ret (.and [(.cmp .eq (.v 4) (.v 6)), (.cmp .eq (.v 5) (.lst [(.ix (.v 7) (.k (.int 1))), (.ix (.v 7) (.k (.int 0)))]))])]⟩

/-- commutes: 0 service, 1 first, 2 second, 3 state, -/
def d_commutes : FDef := ⟨3, [], [], false, 4,
 [.ret (.bf .all [(.comp (.call 17 [(.v 0), (.v 3), (.v 1), (.v 2)]) [(.mk (.nm 3) (.bf .range [(.bf .len [(.v 0)])]) [])])])]⟩

/-- repeatable: 0 service, 1 call, -/
def d_repeatable : FDef := ⟨1, [], [], false, 2,
 [.ex (.call 11 [(.v 0)]),
  .ret (.comp (.v 1) [(.mk (.nm 1) (.bf .range [(.bf .len [(.ix (.v 0) (.k (.int 0)))])]) [(.call 16 [(.v 0), (.v 1)])])])]⟩

/-- commuting: 0 service, 1 pairs, 2 second, 3 first, -/
def d_commuting : FDef := ⟨1, [], [], false, 4,
 [.ex (.call 11 [(.v 0)]),
  .asg (.nm 1) (.comp (.tup [(.v 3), (.v 2)]) [(.mk (.nm 2) (.bf .range [(.bf .len [(.ix (.v 0) (.k (.int 0)))])]) []), (.mk (.nm 3) (.bf .range [(.v 2)]) [])]),
  .ret (.comp (.tup [(.v 3), (.v 2)]) [(.mk (.tu [(.nm 3), (.nm 2)]) (.v 1) [(.call 18 [(.v 0), (.v 3), (.v 2)])])])]⟩

/-- _law_number: 0 script, 1 index, 2 values, 3 value, 4 mixed, -/
def d__law_number : FDef := ⟨2, [], [], false, 5,
 [.asg (.nm 2) (.ite (.cmp .ne (.v 0) (.lst [])) (.v 0) (.lst [(.k (.int 9))])),
  .asg (.nm 3) (.bin .add (.bin .mod (.bf .int [(.ix (.v 2) (.bin .mod (.bf .int [(.v 1)]) (.bf .len [(.v 2)])))]) (.bin .pow (.k (.int 10)) (.k (.int 18)))) (.bin .mul (.k (.int 13)) (.bin .fdiv (.v 1) (.bf .len [(.v 2)])))),
  .asg (.nm 4) (.bin .mod (.bin .add (.bin .mul (.bin .add (.v 3) (.bin .mul (.k (.int 977)) (.v 1))) (.k (.int 48271))) (.bin .mul (.k (.int 7919)) (.bf .len [(.v 2)]))) (.k (.int 2147483647))),
  .ret (.bin .fdiv (.bin .mul (.bin .mul (.v 4) (.bin .add (.bin .add (.v 4) (.bin .mul (.k (.int 31)) (.v 1))) (.k (.int 7)))) (.bin .add (.v 4) (.k (.int 5)))) (.k (.int 1009)))]⟩

/-- _law_executed: 0 service, 1 state, 2 call, -/
def d__law_executed : FDef := ⟨3, [], [], false, 3,
 [.try [.ret (.call 13 [(.v 0), (.v 1), (.v 2)])] 12 none
   [.ret (.k (.non))]]⟩

/-- _law_services_right: 0 counter, 1 state, 2 wrong, 3 due, 4 place, 5 moves, 6 service, 7 call, -/
def d__law_services_right : FDef := ⟨0, [], [5], false, 8,
 [.asg (.nm 0) (.tup [(.tup [(.tup [(.k (.int 0)), (.k (.int 0))]), (.tup [(.k (.int 1)), (.k (.int 1))]), (.tup [(.k (.int 0)), (.k (.int 0))])]), (.tup [(.tup [(.k (.int 0)), (.k (.int 0))]), (.tup [(.k (.int 2)), (.k (.int 2))]), (.tup [(.k (.int 1)), (.k (.int 1))])]), (.tup [(.tup [(.k (.int 0)), (.k (.int 0))]), (.tup [(.k (.int 0)), (.k (.int 0))]), (.tup [(.k (.int 2)), (.k (.int 2))])])]),
  .for (.nm 1) (.bf .range [(.k (.int 3))])
   [.asg (.nm 3) (.lst [(.tup [(.k (.int 0)), (.k (.int 0))]), (.tup [(.bin .mod (.bin .add (.v 1) (.k (.int 1))) (.k (.int 3))), (.bin .mod (.bin .add (.v 1) (.k (.int 1))) (.k (.int 3)))]), (.tup [(.v 1), (.v 1)])]),
    .ife (.cmp .ne (.comp (.call 22 [(.v 0), (.v 1), (.v 7)]) [(.mk (.nm 7) (.bf .range [(.k (.int 3))]) [])]) (.v 3))
     [.ret (.k (.bl false))]
     []],
  .for (.nm 2) (.tup [(.tup [(.k (.int 3)), (.k (.int 0))]), (.tup [(.k (.int 0)), (.k (.int 10))]), (.tup [(.neg (.k (.int 1))), (.k (.int 0))]), (.tup [(.k (.int 0)), (.neg (.k (.int 1)))]), (.tup [(.k (.int 0)), (.k (.bl true))]), (.tup [(.k (.bl true)), (.k (.int 0))]), (.tup [(.k (.int 0))]), (.lst [(.k (.int 0)), (.k (.int 0))]), (.k (.non))])
   [.for (.nm 4) (.bf .range [(.k (.int 9))])
     [.asg (.own 5) (.call 23 [(.v 0)]),
      .asg (.sub 5 (.v 4)) (.v 2),
      .asg (.nm 6) (.tup [(.bf .tuple [(.sl (.o 5) none (some (.k (.int 3))))]), (.bf .tuple [(.sl (.o 5) (some (.k (.int 3))) (some (.k (.int 6))))]), (.bf .tuple [(.sl (.o 5) (some (.k (.int 6))) none)])]),
      .ife (.or [(.call 8 [(.v 6)]), (.call 9 [(.tup [(.v 6)])]), (.call 9 [(.tup [(.v 0), (.v 6)])])])
       [.ret (.k (.bl false))]
       [],
      .ife (.not (.call 24 [(.v 6)]))
       [.ret (.k (.bl false))]
       []]],
  .ret (.and [(.call 8 [(.v 0)]), (.call 9 [(.tup [(.v 0), (.v 0)])])])]⟩

/-- _law_moves: 0 service, 1 found, 2 row, -/
def d__law_moves : FDef := ⟨1, [], [1], true, 3,
 [.asg (.own 1) (.lst []),
  .for (.nm 2) (.v 0)
   [.asg (.own 1) (.bin .add (.o 1) (.bf .list [(.v 2)]))],
  .ret (.mv 1)]⟩

/-- _law_is_refused: 0 service, 1 ask, -/
def d__law_is_refused : FDef := ⟨1, [], [], false, 2,
 [.for (.nm 1) (.tup [(.lam 26 []), (.lam 27 []), (.lam 28 [])])
   [.try [.ex (.cv 1 [(.v 0)]),
      .ret (.k (.bl false))] 10 none
     [.cont]],
  .ret (.k (.bl true))]⟩

/-- _law_equal_right: 0 one, 1 other, 2 first, 3 second, 4 whole, 5 less, -/
def d__law_equal_right : FDef := ⟨0, [], [], false, 6,
 [.par [(.nm 0), (.nm 1)] [(.make 29 [(.lst [(.lst [(.tup [(.k (.int 1))])]), (.lst [(.tup [(.k (.int 2))])])])]), (.make 29 [(.lst [(.lst [(.tup [(.k (.int 1))])]), (.lst [(.tup [(.k (.int 3))])])])])],
  .ife (.or [(.cmp .ne (.v 0) (.make 29 [(.lst [(.lst [(.tup [(.k (.int 1))])]), (.lst [(.tup [(.k (.int 2))])])])])), (.cmp .eq (.v 0) (.v 1)), (.cmp .eq (.v 1) (.v 0))])
   [.ret (.k (.bl false))]
   [],
  .ife (.or [(.cmp .eq (.v 0) (.make 29 [(.lst [(.lst [(.tup [(.k (.int 1))])])])])), (.cmp .eq (.v 0) (.make 29 [(.lst [])]))])
   [.ret (.k (.bl false))]
   [],
  .par [(.nm 2), (.nm 3)] [(.make 30 [(.tup [(.k (.int 0))]), (.lst [(.tup [(.k (.str ⟨#[100, 111]⟩))])])]), (.make 30 [(.tup [(.k (.int 0))]), (.lst [(.tup [(.k (.str ⟨#[100, 111]⟩))]), (.tup [(.k (.str ⟨#[100, 111]⟩))])])])],
  .ife (.or [(.cmp .ne (.v 2) (.make 30 [(.tup [(.k (.int 0))]), (.lst [(.tup [(.k (.str ⟨#[100, 111]⟩))])])])), (.cmp .eq (.v 2) (.v 3))])
   [.ret (.k (.bl false))]
   [],
  .ife (.or [(.cmp .eq (.v 3) (.v 2)), (.cmp .eq (.v 2) (.make 30 [(.tup [(.k (.int 1))]), (.lst [(.tup [(.k (.str ⟨#[100, 111]⟩))])])]))])
   [.ret (.k (.bl false))]
   [],
  .par [(.nm 4), (.nm 5)] [(.make 31 [(.lst [(.tup [(.tup []), (.tup [])])]), (.lst [(.tup [(.tup [(.k (.int 0))]), (.lst [])])])]), (.make 31 [(.lst []), (.lst [(.tup [(.tup [(.k (.int 0))]), (.lst [])])])])],
  .ife (.or [(.cmp .ne (.v 4) (.make 31 [(.lst [(.tup [(.tup []), (.tup [])])]), (.lst [(.tup [(.tup [(.k (.int 0))]), (.lst [])])])])), (.cmp .eq (.v 4) (.v 5))])
   [.ret (.k (.bl false))]
   [],
  .ife (.or [(.cmp .eq (.v 5) (.v 4)), (.cmp .eq (.v 4) (.make 31 [(.lst [(.tup [(.tup []), (.tup [])])]), (.lst [])]))])
   [.ret (.k (.bl false))]
   [],
  .ife (.not (.and [(.cmp .ne (.v 0) (.v 2)), (.cmp .ne (.v 2) (.v 0)), (.cmp .ne (.v 4) (.v 0)), (.cmp .ne (.v 0) (.v 4))]))
   [.ret (.k (.bl false))]
   [],
  .ret (.cmp .ne (.v 2) (.v 4))]⟩

/-- law: 0 script, -/
def d_law : FDef := ⟨1, [], [], false, 1,
 [.ret (.ite (.cmp .eq (.bin .mod (.call 21 [(.v 0), (.k (.int 3))]) (.k (.int 2))) (.k (.int 0))) (.call 25 []) (.call 32 []))]⟩

/-- Sufficient.__init__: 0 self, 1 states, 2 row, -/
def d_Sufficient_init : FDef := ⟨2, [], [], false, 3,
 [.asg (.att (.v 0) 34) (.comp (.bf .list [(.v 2)]) [(.mk (.nm 2) (.v 1) [])])]⟩

/-- Sufficient.__eq__: 0 self, 1 other, -/
def d_Sufficient_eq : FDef := ⟨2, [], [], false, 2,
 [.ret (.and [(.isi (.v 1) [.cls 29]), (.cmp .eq (.att (.v 0) 34) (.att (.v 1) 34))])]⟩

/-- Sufficient.is_correct: 0 self, 1 system, 2 workflow, 3 protection, 4 situations, 5 faults, -/
def d_Sufficient_is_correct : FDef := ⟨6, [], [], false, 6,
 [.ex (.call 1 [(.k (.int 0))])]⟩

/-- Insufficient.__init__: 0 self, 1 situation, 2 events, -/
def d_Insufficient_init : FDef := ⟨3, [], [], false, 3,
 [.asg (.att (.v 0) 38) (.v 1),
  .asg (.att (.v 0) 39) (.bf .list [(.v 2)])]⟩

/-- Insufficient.__eq__: 0 self, 1 other, -/
def d_Insufficient_eq : FDef := ⟨2, [], [], false, 2,
 [.ife (.not (.isi (.v 1) [.cls 30]))
   [.ret (.k (.bl false))]
   [],
  .ret (.and [(.cmp .eq (.att (.v 0) 38) (.att (.v 1) 38)), (.cmp .eq (.att (.v 0) 39) (.att (.v 1) 39))])]⟩

/-- Insufficient.is_correct: 0 self, 1 system, 2 workflow, 3 protection, 4 situations, 5 faults, -/
def d_Insufficient_is_correct : FDef := ⟨6, [], [], false, 6,
 [.ex (.call 1 [(.k (.int 1))])]⟩

/-- Family.__init__: 0 self, 1 protections, 2 runs, 3 situation, 4 events, -/
def d_Family_init : FDef := ⟨3, [], [], false, 5,
 [.asg (.att (.v 0) 43) (.bf .list [(.v 1)]),
  .asg (.att (.v 0) 44) (.comp (.tup [(.v 3), (.bf .list [(.v 4)])]) [(.mk (.tu [(.nm 3), (.nm 4)]) (.v 2) [])])]⟩

/-- Family.__eq__: 0 self, 1 other, -/
def d_Family_eq : FDef := ⟨2, [], [], false, 2,
 [.ret (.and [(.isi (.v 1) [.cls 31]), (.cmp .eq (.att (.v 0) 43) (.att (.v 1) 43)), (.cmp .eq (.att (.v 0) 44) (.att (.v 1) 44))])]⟩

/-- Family.is_correct: 0 self, 1 system, 2 workflow, 3 situations, 4 faults, -/
def d_Family_is_correct : FDef := ⟨5, [], [], false, 5,
 [.ex (.call 1 [(.k (.int 2))])]⟩

/-- _lam133016_k08: 0 it, -/
def d_lam133016_k08 : FDef := ⟨1, [], [], false, 1,
 [.ret (.call 19 [(.v 0)])]⟩

/-- _lam133043_k08: 0 me, -/
def d_lam133043_k08 : FDef := ⟨1, [], [], false, 1,
 [.ret (.call 20 [(.v 0)])]⟩

/-- _lam133069_k08: 0 us, -/
def d_lam133069_k08 : FDef := ⟨1, [], [], false, 1,
 [.ret (.call 13 [(.v 0), (.k (.int 0)), (.k (.int 0))])]⟩

def fns : BT FDef := (.nd (.nd (.nd (.nd (.nd (.nd .lf 1 d__wall .lf) 2 d_is_integer .lf) 3 d_is_index (.nd .lf 4 d_is_answer .lf)) 5 d_is_tuple (.nd (.nd .lf 6 d_is_reply .lf) 7 d_is_row (.nd .lf 8 d_is_service .lf))) 9 d_is_system (.nd (.nd (.nd (.nd .lf 11 d_check_service .lf) 13 d_execute .lf) 14 d_executed (.nd .lf 15 d_repeats_in .lf)) 16 d_repeats (.nd (.nd .lf 17 d_commutes_in .lf) 18 d_commutes (.nd .lf 19 d_repeatable .lf)))) 20 d_commuting (.nd (.nd (.nd (.nd (.nd .lf 21 d__law_number .lf) 22 d__law_executed .lf) 23 d__law_moves (.nd .lf 24 d__law_is_refused .lf)) 25 d__law_services_right (.nd (.nd .lf 32 d__law_equal_right .lf) 33 d_law (.nd .lf 35 d_Sufficient_init .lf))) 36 d_Sufficient_eq (.nd (.nd (.nd .lf 37 d_Sufficient_is_correct .lf) 40 d_Insufficient_init (.nd .lf 41 d_Insufficient_eq .lf)) 42 d_Insufficient_is_correct (.nd (.nd .lf 45 d_Family_init .lf) 46 d_Family_eq (.nd .lf 47 d_Family_is_correct .lf)))))
def clss : BT CDef := (.nd (.nd (.nd .lf 10 ⟨none, [], none, true, [], [48]⟩ .lf) 12 ⟨none, [], none, true, [], [48]⟩ (.nd .lf 29 ⟨some 35, [(0, 36), (49, 37)], none, false, [34], []⟩ .lf)) 30 ⟨some 40, [(0, 41), (49, 42)], none, false, [38, 39], []⟩ (.nd (.nd .lf 31 ⟨some 45, [(0, 46), (49, 47)], none, false, [43, 44], []⟩ .lf) 48 ⟨none, [], none, true, [], []⟩ .lf))
def cons : BT W := .lf
def lams : BT LDef := (.nd (.nd .lf 26 ⟨1, 1, (.call 19 [(.v 0)])⟩ .lf) 27 ⟨1, 1, (.call 20 [(.v 0)])⟩ (.nd .lf 28 ⟨1, 1, (.call 13 [(.v 0), (.k (.int 0)), (.k (.int 0))])⟩ .lf))
def gb : Gb := ⟨fns, clss, cons, lams⟩
def nms : BT Str := (.nd (.nd (.nd (.nd (.nd (.nd .lf 0 "__eq__" .lf) 1 "_wall" (.nd .lf 2 "is_integer" .lf)) 3 "is_index" (.nd (.nd .lf 4 "is_answer" .lf) 5 "is_tuple" .lf)) 6 "is_reply" (.nd (.nd (.nd .lf 7 "is_row" .lf) 8 "is_service" .lf) 9 "is_system" (.nd (.nd .lf 10 "InvalidSystem" .lf) 11 "check_service" .lf))) 12 "InvalidNumber" (.nd (.nd (.nd (.nd .lf 13 "execute" .lf) 14 "executed" (.nd .lf 15 "repeats_in" .lf)) 16 "repeats" (.nd (.nd .lf 17 "commutes_in" .lf) 18 "commutes" .lf)) 19 "repeatable" (.nd (.nd (.nd .lf 20 "commuting" .lf) 21 "_law_number" .lf) 22 "_law_executed" (.nd (.nd .lf 23 "_law_moves" .lf) 24 "_law_is_refused" .lf)))) 25 "_law_services_right" (.nd (.nd (.nd (.nd (.nd .lf 26 "_lam133016_k08" .lf) 27 "_lam133043_k08" (.nd .lf 28 "_lam133069_k08" .lf)) 29 "Sufficient" (.nd (.nd .lf 30 "Insufficient" .lf) 31 "Family" .lf)) 32 "_law_equal_right" (.nd (.nd (.nd .lf 33 "law" .lf) 34 "states" .lf) 35 "Sufficient.__init__" (.nd (.nd .lf 36 "Sufficient.__eq__" .lf) 37 "Sufficient.is_correct" .lf))) 38 "situation" (.nd (.nd (.nd (.nd .lf 39 "events" .lf) 40 "Insufficient.__init__" .lf) 41 "Insufficient.__eq__" (.nd (.nd .lf 42 "Insufficient.is_correct" .lf) 43 "protections" .lf)) 44 "runs" (.nd (.nd (.nd .lf 45 "Family.__init__" .lf) 46 "Family.__eq__" .lf) 47 "Family.is_correct" (.nd (.nd .lf 48 "RetryError" .lf) 49 "is_correct" .lf)))))
def slots : BT (List Str) := (.nd (.nd (.nd (.nd (.nd (.nd .lf 1 ["k"] .lf) 2 ["value"] .lf) 3 ["value", "size"] (.nd .lf 4 ["value"] .lf)) 5 ["value", "least", "most"] (.nd (.nd .lf 6 ["value", "states"] .lf) 7 ["value", "states", "calls", "reply"] (.nd .lf 8 ["value", "row"] .lf))) 9 ["value", "service"] (.nd (.nd (.nd (.nd .lf 11 ["service"] .lf) 13 ["service", "state", "call"] .lf) 14 ["service", "state", "calls", "answers", "call", "answer"] (.nd .lf 15 ["service", "state", "call", "once", "twice", "answers", "answer"] .lf)) 16 ["service", "call", "state"] (.nd (.nd .lf 17 ["service", "state", "first", "second", "there", "answers", "back", "swapped"] .lf) 18 ["service", "first", "second", "state"] (.nd .lf 19 ["service", "call"] .lf)))) 20 ["service", "pairs", "second", "first"] (.nd (.nd (.nd (.nd (.nd .lf 21 ["script", "index", "values", "value", "mixed"] .lf) 22 ["service", "state", "call"] .lf) 23 ["service", "found", "row"] (.nd .lf 24 ["service", "ask"] .lf)) 25 ["counter", "state", "wrong", "due", "place", "moves", "service", "call"] (.nd (.nd .lf 32 ["one", "other", "first", "second", "whole", "less"] .lf) 33 ["script"] (.nd .lf 35 ["self", "states", "row"] .lf))) 36 ["self", "other"] (.nd (.nd (.nd .lf 37 ["self", "system", "workflow", "protection", "situations", "faults"] .lf) 40 ["self", "situation", "events"] (.nd .lf 41 ["self", "other"] .lf)) 42 ["self", "system", "workflow", "protection", "situations", "faults"] (.nd (.nd .lf 45 ["self", "protections", "runs", "situation", "events"] .lf) 46 ["self", "other"] (.nd .lf 47 ["self", "system", "workflow", "situations", "faults"] .lf)))))
def dds : BT He.DefD := (.nd (.nd (.nd (.nd (.nd (.nd .lf 1 (atF "_wall" none "_wall" (tp 0)) .lf) 2 (atF "is_integer" none "is_integer" (tp 6)) .lf) 3 (atF "is_index" none "is_index" (tp 7)) (.nd .lf 4 (atF "is_answer" none "is_answer" (tp 8)) .lf)) 5 (atF "is_tuple" none "is_tuple" (tp 9)) (.nd (.nd .lf 6 (atF "is_reply" none "is_reply" (tp 11)) .lf) 7 (atF "is_row" none "is_row" (tp 12)) (.nd .lf 8 (atF "is_service" none "is_service" (tp 13)) .lf))) 9 (atF "is_system" none "is_system" (tp 14)) (.nd (.nd (.nd (.nd .lf 11 (atF "check_service" none "check_service" (tp 15)) .lf) 13 (atF "execute" none "execute" (tp 16)) .lf) 14 (atF "executed" none "executed" (tp 17)) (.nd .lf 15 (atF "repeats_in" none "repeats_in" (tp 18)) .lf)) 16 (atF "repeats" none "repeats" (tp 19)) (.nd (.nd .lf 17 (atF "commutes_in" none "commutes_in" (tp 20)) .lf) 18 (atF "commutes" none "commutes" (tp 21)) (.nd .lf 19 (atF "repeatable" none "repeatable" (tp 22)) .lf)))) 20 (atF "commuting" none "commuting" (tp 23)) (.nd (.nd (.nd (.nd (.nd .lf 21 (atF "_law_number" none "_law_number" (tp 30)) .lf) 22 (atF "_law_executed" none "_law_executed" (tp 31)) .lf) 23 (atF "_law_moves" none "_law_moves" (tp 33)) (.nd .lf 24 (atF "_law_is_refused" none "_law_is_refused" (tp 34)) .lf)) 25 (atF "_law_services_right" none "_law_services_right" (tp 32)) (.nd (.nd .lf 32 (atF "_law_equal_right" none "_law_equal_right" (tp 35)) .lf) 33 (atF "law" none "law" (tp 36)) (.nd .lf 35 (atF "Sufficient" (some "__init__") "Sufficient.__init__" (inC 25 0)) .lf))) 36 (atF "Sufficient" (some "__eq__") "Sufficient.__eq__" (inC 25 1)) (.nd (.nd (.nd .lf 37 (atF "Sufficient" (some "is_correct") "Sufficient.is_correct" (inC 25 2)) .lf) 40 (atF "Insufficient" (some "__init__") "Insufficient.__init__" (inC 26 0)) (.nd .lf 41 (atF "Insufficient" (some "__eq__") "Insufficient.__eq__" (inC 26 1)) .lf)) 42 (atF "Insufficient" (some "is_correct") "Insufficient.is_correct" (inC 26 2)) (.nd (.nd .lf 45 (atF "Family" (some "__init__") "Family.__init__" (inC 28 0)) .lf) 46 (atF "Family" (some "__eq__") "Family.__eq__" (inC 28 1)) (.nd .lf 47 (atF "Family" (some "is_correct") "Family.is_correct" (inC 28 2)) .lf)))))
def lamds : BT LamD := (.nd (.nd .lf 26 (lamAt 133 16 (tp 34) "_law_is_refused.<locals>.<lambda>" ["it"] 1) .lf) 27 (lamAt 133 43 (tp 34) "_law_is_refused.<locals>.<lambda>" ["me"] 1) (.nd .lf 28 (lamAt 133 69 (tp 34) "_law_is_refused.<locals>.<lambda>" ["us"] 1) .lf))
def prg : Prg := ⟨gb, nms, slots, dds, ["len", "all", "any", "list", "tuple", "int", "range", "zip", "enumerate", "set", "dict", "sorted", "combinations", "max", "min", "abs", "sum", "isinstance", "bool", "str"], lamds, [24]⟩
def loose0 : List Str := ["_wall", "RetryError", "InvalidSystem", "InvalidNumber", "is_integer", "is_index", "is_answer", "is_tuple", "is_reply", "is_row", "is_service", "is_system", "check_service", "execute", "executed", "repeats_in", "repeats", "commutes_in", "commutes", "repeatable", "commuting", "Sufficient", "Insufficient", "Family", "_law_number", "_law_executed", "_law_services_right", "_law_moves", "_law_is_refused", "_law_equal_right"]
def loose : List Str := loose0
def lawI : Nat := 36
def lawF : Nat := 33
end Pv.k08
end

section
set_option maxRecDepth 100000
namespace Pv.k08
open Pv PySem
def numF : Nat := 21
def okInt : Pv.R Pv.W → Bool
  | .ok (.int _) [] => true
  | _ => false
theorem isDats_int (n : Nat) : ∀ l : List Int, isDats n (l.map Pv.W.int) = true
  | [] => by simp [isDats]
  | z :: r => by simp [isDats, isDat, isDats_int n r]
theorem num_L (L : List Pv.W) (m y : Int) (h1 : weqs L [] = false) (hd : isDats 49 L = true) (hm : (L.length : Int) = m) (hp : 0 < m) (hb : m < 1073741824) (h4 : ((ixOf L.length (3 % m)).bind fun j => L[j]?) = some (.int y)) : okInt (evF gb 392 39 numF [.lst L, .int 3] []) = true := by
  have hf : gb.fn.find numF = some d__law_number := by rfl
  have d1 : decide (0 < m) = true := decide_eq_true hp
  have d2 : decide (m < 1073741824) = true := decide_eq_true hb
  rw [evF_s hf rfl]
  unfold d__law_number
  simp [exs, ex1, evE, evEs, evT, evC, Pv.R.toS, Pv.R.bind, RS.bind, getv, asgT, bfun, ssize, o2r, cmpop, isDat, isDats, weq, h1, hd, truthy, binop, hm, d1, d2, ixop, h4]
  generalize hq : ((y % 1000000000000000000 + 13 * (3 / m) + 2931) * 48271 + 7919 * m) % 2147483647 = q
  have q1 : 0 ≤ q := by rw [← hq]; exact Int.emod_nonneg _ (by decide)
  have q2 : q < 2147483647 := by rw [← hq]; exact Int.emod_lt_of_pos _ (by decide)
  have b1 : decide (-18446744073709551616 < q) = true := decide_eq_true (by omega)
  have b2 : decide (q < 18446744073709551616) = true := decide_eq_true (by omega)
  have b3 : decide (-18446744073709551616 < q + 5) = true := decide_eq_true (by omega)
  have b4 : decide (q + 5 < 18446744073709551616) = true := decide_eq_true (by omega)
  simp [b1, b2, b3, b4, okInt]
theorem isDats_ints (n : Nat) : ∀ l : List Int, isDats n (l.map Pv.W.int) = true
  | [] => by simp [isDats]
  | z :: r => by simp [isDats, isDat, isDats_ints n r]
theorem num_ok (ns : List Int) (hl : ns.length ≤ 63) : okInt (evF gb 392 39 numF [.lst (ns.map Pv.W.int), .int 3] []) = true := by
  cases ns with
  | nil => decide +kernel
  | cons z r =>
    have hm : 0 < ((z :: r).map Pv.W.int).length := by simp
    have hm2 : ((z :: r).map Pv.W.int).length ≤ 63 := by simpa using hl
    have e1 : 0 ≤ (3 : Int) % (((z :: r).map Pv.W.int).length : Int) := Int.emod_nonneg _ (by omega)
    have e2 : (3 : Int) % (((z :: r).map Pv.W.int).length : Int) < (((z :: r).map Pv.W.int).length : Int) := Int.emod_lt_of_pos _ (by omega)
    have e3 : ((3 : Int) % (((z :: r).map Pv.W.int).length : Int)).toNat < (z :: r).length := by simp at e2 ⊢; omega
    refine num_L ((z :: r).map Pv.W.int) _ ((z :: r)[((3 : Int) % (((z :: r).map Pv.W.int).length : Int)).toNat]) rfl (isDats_ints 49 _) rfl (by omega) (by omega) ?_
    unfold ixOf
    rw [decide_eq_true e1, decide_eq_true e2]
    show ((z :: r).map Pv.W.int)[_]? = _
    rw [List.getElem?_map, List.getElem?_eq_getElem e3]
    rfl
end Pv.k08
end

section
set_option maxRecDepth 100000
namespace Pv.k08
open Pv PySem
def okTrue : Pv.R Pv.W → Bool
  | .ok (.bl true) _ => true
  | _ => false
def srF : Nat := 25
def erF : Nat := 32
theorem law_gen (G : Gb) (L : List Pv.W) (i : Int) (st1 st2 : Sto) (hf : G.fn.find lawF = some d_law) (h1 : evF G 392 39 numF [.lst L, .int 3] [] = .ok (.int i) []) (h2 : evF G 395 39 srF [] [] = .ok (.bl true) st1) (h3 : evF G 395 39 erF [] [] = .ok (.bl true) st2) :
    ∃ st, evF G 400 40 lawF [.lst L] [] = .ok (.bl true) st := by
  rw [evF_s hf rfl]
  unfold d_law
  unfold numF at h1
  unfold srF at h2
  unfold erF at h3
  have d1 : decide ((0 : Int) < 2) = true := rfl
  simp only [exs, ex1, evE, evEs, evT, Pv.R.toS, Pv.R.bind, RS.bind, getv, o2r, h1, h2, h3, List.map, List.replicate, List.append_nil, List.getElem?_cons_zero, binop, d1, cond, Nat.sub_self]
  cases hb : (i % 2 == 0) with
  | true => exact ⟨st1, by simp only [evC, cmpop, isDat, weq, o2r, truthy, cond, Bool.and_self, Option.map, hb, h2]⟩
  | false => exact ⟨st2, by simp only [evC, cmpop, isDat, weq, o2r, truthy, cond, Bool.and_self, Option.map, hb, h3]⟩
end Pv.k08
end

section
set_option Elab.async false
set_option linter.all false
set_option maxRecDepth 100000
set_option maxHeartbeats 0
namespace Pv.k08
open PySem PySem.Spec PyProof.Rows L2
abbrev hk : PySem.W.Hook := He.hookX 7 [] prg.dd.vals [] prg.tf (ckP prg)
abbrev ob : PySem.W.SharedT → He.AlX := seeX 7 prg.dd.vals prg.tf (ckP prg)
theorem run (w : World) : HandSHeadRun.RunEq R (PySem.W.view R.prog [lawI]) hk ob 4000 loose w := by
  intro os
  kernel_rfl
end Pv.k08
end

section
set_option Elab.async false
set_option maxRecDepth 100000
set_option maxHeartbeats 0
namespace Pv.k08
open Pv PySem
def sb : List Sm := d__law_services_right.body
def s0 : Sm := sb.getD 0 .pass
def s1 : Sm := sb.getD 1 .pass
def s2 : Sm := sb.getD 2 .pass
def s3 : Sm := sb.getD 3 .pass
def lpI : Ex := match s2 with | .for _ i _ => i | _ => .k .non
def lpB : List Sm := match s2 with | .for _ _ b => b | _ => []
def inI : Ex := match lpB with | [.for _ i _] => i | _ => .k .non
def inB : List Sm := match lpB with | [.for _ _ b] => b | _ => []
def w0 : Pv.W := (.tup [(.int 3), (.int 0)])
def w1 : Pv.W := (.tup [(.int 0), (.int 10)])
def w2 : Pv.W := (.tup [(.int (-1)), (.int 0)])
def w3 : Pv.W := (.tup [(.int 0), (.int (-1))])
def w4 : Pv.W := (.tup [(.int 0), (.bl true)])
def w5 : Pv.W := (.tup [(.bl true), (.int 0)])
def w6 : Pv.W := (.tup [(.int 0)])
def w7 : Pv.W := (.lst [(.int 0), (.int 0)])
def w8 : Pv.W := .non
def o0 : Fr := [some (.tup [(.tup [(.tup [(.int 0), (.int 0)]), (.tup [(.int 1), (.int 1)]), (.tup [(.int 0), (.int 0)])]), (.tup [(.tup [(.int 0), (.int 0)]), (.tup [(.int 2), (.int 2)]), (.tup [(.int 1), (.int 1)])]), (.tup [(.tup [(.int 0), (.int 0)]), (.tup [(.int 0), (.int 0)]), (.tup [(.int 2), (.int 2)])])]), some (.int 2), none, some (.lst [(.tup [(.int 0), (.int 0)]), (.tup [(.int 0), (.int 0)]), (.tup [(.int 2), (.int 2)])]), none, none, none, none]
def o1 : Fr := [some (.tup [(.tup [(.tup [(.int 0), (.int 0)]), (.tup [(.int 1), (.int 1)]), (.tup [(.int 0), (.int 0)])]), (.tup [(.tup [(.int 0), (.int 0)]), (.tup [(.int 2), (.int 2)]), (.tup [(.int 1), (.int 1)])]), (.tup [(.tup [(.int 0), (.int 0)]), (.tup [(.int 0), (.int 0)]), (.tup [(.int 2), (.int 2)])])]), some (.int 2), some (.tup [(.int 3), (.int 0)]), some (.lst [(.tup [(.int 0), (.int 0)]), (.tup [(.int 0), (.int 0)]), (.tup [(.int 2), (.int 2)])]), some (.int 8), some (.lst [(.tup [(.int 0), (.int 0)]), (.tup [(.int 1), (.int 1)]), (.tup [(.int 0), (.int 0)]), (.tup [(.int 0), (.int 0)]), (.tup [(.int 2), (.int 2)]), (.tup [(.int 1), (.int 1)]), (.tup [(.int 0), (.int 0)]), (.tup [(.int 0), (.int 0)]), (.tup [(.int 3), (.int 0)])]), some (.tup [(.tup [(.tup [(.int 0), (.int 0)]), (.tup [(.int 1), (.int 1)]), (.tup [(.int 0), (.int 0)])]), (.tup [(.tup [(.int 0), (.int 0)]), (.tup [(.int 2), (.int 2)]), (.tup [(.int 1), (.int 1)])]), (.tup [(.tup [(.int 0), (.int 0)]), (.tup [(.int 0), (.int 0)]), (.tup [(.int 3), (.int 0)])])]), none]
def o2 : Fr := [some (.tup [(.tup [(.tup [(.int 0), (.int 0)]), (.tup [(.int 1), (.int 1)]), (.tup [(.int 0), (.int 0)])]), (.tup [(.tup [(.int 0), (.int 0)]), (.tup [(.int 2), (.int 2)]), (.tup [(.int 1), (.int 1)])]), (.tup [(.tup [(.int 0), (.int 0)]), (.tup [(.int 0), (.int 0)]), (.tup [(.int 2), (.int 2)])])]), some (.int 2), some (.tup [(.int 0), (.int 10)]), some (.lst [(.tup [(.int 0), (.int 0)]), (.tup [(.int 0), (.int 0)]), (.tup [(.int 2), (.int 2)])]), some (.int 8), some (.lst [(.tup [(.int 0), (.int 0)]), (.tup [(.int 1), (.int 1)]), (.tup [(.int 0), (.int 0)]), (.tup [(.int 0), (.int 0)]), (.tup [(.int 2), (.int 2)]), (.tup [(.int 1), (.int 1)]), (.tup [(.int 0), (.int 0)]), (.tup [(.int 0), (.int 0)]), (.tup [(.int 0), (.int 10)])]), some (.tup [(.tup [(.tup [(.int 0), (.int 0)]), (.tup [(.int 1), (.int 1)]), (.tup [(.int 0), (.int 0)])]), (.tup [(.tup [(.int 0), (.int 0)]), (.tup [(.int 2), (.int 2)]), (.tup [(.int 1), (.int 1)])]), (.tup [(.tup [(.int 0), (.int 0)]), (.tup [(.int 0), (.int 0)]), (.tup [(.int 0), (.int 10)])])]), none]
def o3 : Fr := [some (.tup [(.tup [(.tup [(.int 0), (.int 0)]), (.tup [(.int 1), (.int 1)]), (.tup [(.int 0), (.int 0)])]), (.tup [(.tup [(.int 0), (.int 0)]), (.tup [(.int 2), (.int 2)]), (.tup [(.int 1), (.int 1)])]), (.tup [(.tup [(.int 0), (.int 0)]), (.tup [(.int 0), (.int 0)]), (.tup [(.int 2), (.int 2)])])]), some (.int 2), some (.tup [(.int (-1)), (.int 0)]), some (.lst [(.tup [(.int 0), (.int 0)]), (.tup [(.int 0), (.int 0)]), (.tup [(.int 2), (.int 2)])]), some (.int 8), some (.lst [(.tup [(.int 0), (.int 0)]), (.tup [(.int 1), (.int 1)]), (.tup [(.int 0), (.int 0)]), (.tup [(.int 0), (.int 0)]), (.tup [(.int 2), (.int 2)]), (.tup [(.int 1), (.int 1)]), (.tup [(.int 0), (.int 0)]), (.tup [(.int 0), (.int 0)]), (.tup [(.int (-1)), (.int 0)])]), some (.tup [(.tup [(.tup [(.int 0), (.int 0)]), (.tup [(.int 1), (.int 1)]), (.tup [(.int 0), (.int 0)])]), (.tup [(.tup [(.int 0), (.int 0)]), (.tup [(.int 2), (.int 2)]), (.tup [(.int 1), (.int 1)])]), (.tup [(.tup [(.int 0), (.int 0)]), (.tup [(.int 0), (.int 0)]), (.tup [(.int (-1)), (.int 0)])])]), none]
def o4 : Fr := [some (.tup [(.tup [(.tup [(.int 0), (.int 0)]), (.tup [(.int 1), (.int 1)]), (.tup [(.int 0), (.int 0)])]), (.tup [(.tup [(.int 0), (.int 0)]), (.tup [(.int 2), (.int 2)]), (.tup [(.int 1), (.int 1)])]), (.tup [(.tup [(.int 0), (.int 0)]), (.tup [(.int 0), (.int 0)]), (.tup [(.int 2), (.int 2)])])]), some (.int 2), some (.tup [(.int 0), (.int (-1))]), some (.lst [(.tup [(.int 0), (.int 0)]), (.tup [(.int 0), (.int 0)]), (.tup [(.int 2), (.int 2)])]), some (.int 8), some (.lst [(.tup [(.int 0), (.int 0)]), (.tup [(.int 1), (.int 1)]), (.tup [(.int 0), (.int 0)]), (.tup [(.int 0), (.int 0)]), (.tup [(.int 2), (.int 2)]), (.tup [(.int 1), (.int 1)]), (.tup [(.int 0), (.int 0)]), (.tup [(.int 0), (.int 0)]), (.tup [(.int 0), (.int (-1))])]), some (.tup [(.tup [(.tup [(.int 0), (.int 0)]), (.tup [(.int 1), (.int 1)]), (.tup [(.int 0), (.int 0)])]), (.tup [(.tup [(.int 0), (.int 0)]), (.tup [(.int 2), (.int 2)]), (.tup [(.int 1), (.int 1)])]), (.tup [(.tup [(.int 0), (.int 0)]), (.tup [(.int 0), (.int 0)]), (.tup [(.int 0), (.int (-1))])])]), none]
def o5 : Fr := [some (.tup [(.tup [(.tup [(.int 0), (.int 0)]), (.tup [(.int 1), (.int 1)]), (.tup [(.int 0), (.int 0)])]), (.tup [(.tup [(.int 0), (.int 0)]), (.tup [(.int 2), (.int 2)]), (.tup [(.int 1), (.int 1)])]), (.tup [(.tup [(.int 0), (.int 0)]), (.tup [(.int 0), (.int 0)]), (.tup [(.int 2), (.int 2)])])]), some (.int 2), some (.tup [(.int 0), (.bl true)]), some (.lst [(.tup [(.int 0), (.int 0)]), (.tup [(.int 0), (.int 0)]), (.tup [(.int 2), (.int 2)])]), some (.int 8), some (.lst [(.tup [(.int 0), (.int 0)]), (.tup [(.int 1), (.int 1)]), (.tup [(.int 0), (.int 0)]), (.tup [(.int 0), (.int 0)]), (.tup [(.int 2), (.int 2)]), (.tup [(.int 1), (.int 1)]), (.tup [(.int 0), (.int 0)]), (.tup [(.int 0), (.int 0)]), (.tup [(.int 0), (.bl true)])]), some (.tup [(.tup [(.tup [(.int 0), (.int 0)]), (.tup [(.int 1), (.int 1)]), (.tup [(.int 0), (.int 0)])]), (.tup [(.tup [(.int 0), (.int 0)]), (.tup [(.int 2), (.int 2)]), (.tup [(.int 1), (.int 1)])]), (.tup [(.tup [(.int 0), (.int 0)]), (.tup [(.int 0), (.int 0)]), (.tup [(.int 0), (.bl true)])])]), none]
def o6 : Fr := [some (.tup [(.tup [(.tup [(.int 0), (.int 0)]), (.tup [(.int 1), (.int 1)]), (.tup [(.int 0), (.int 0)])]), (.tup [(.tup [(.int 0), (.int 0)]), (.tup [(.int 2), (.int 2)]), (.tup [(.int 1), (.int 1)])]), (.tup [(.tup [(.int 0), (.int 0)]), (.tup [(.int 0), (.int 0)]), (.tup [(.int 2), (.int 2)])])]), some (.int 2), some (.tup [(.bl true), (.int 0)]), some (.lst [(.tup [(.int 0), (.int 0)]), (.tup [(.int 0), (.int 0)]), (.tup [(.int 2), (.int 2)])]), some (.int 8), some (.lst [(.tup [(.int 0), (.int 0)]), (.tup [(.int 1), (.int 1)]), (.tup [(.int 0), (.int 0)]), (.tup [(.int 0), (.int 0)]), (.tup [(.int 2), (.int 2)]), (.tup [(.int 1), (.int 1)]), (.tup [(.int 0), (.int 0)]), (.tup [(.int 0), (.int 0)]), (.tup [(.bl true), (.int 0)])]), some (.tup [(.tup [(.tup [(.int 0), (.int 0)]), (.tup [(.int 1), (.int 1)]), (.tup [(.int 0), (.int 0)])]), (.tup [(.tup [(.int 0), (.int 0)]), (.tup [(.int 2), (.int 2)]), (.tup [(.int 1), (.int 1)])]), (.tup [(.tup [(.int 0), (.int 0)]), (.tup [(.int 0), (.int 0)]), (.tup [(.bl true), (.int 0)])])]), none]
def o7 : Fr := [some (.tup [(.tup [(.tup [(.int 0), (.int 0)]), (.tup [(.int 1), (.int 1)]), (.tup [(.int 0), (.int 0)])]), (.tup [(.tup [(.int 0), (.int 0)]), (.tup [(.int 2), (.int 2)]), (.tup [(.int 1), (.int 1)])]), (.tup [(.tup [(.int 0), (.int 0)]), (.tup [(.int 0), (.int 0)]), (.tup [(.int 2), (.int 2)])])]), some (.int 2), some (.tup [(.int 0)]), some (.lst [(.tup [(.int 0), (.int 0)]), (.tup [(.int 0), (.int 0)]), (.tup [(.int 2), (.int 2)])]), some (.int 8), some (.lst [(.tup [(.int 0), (.int 0)]), (.tup [(.int 1), (.int 1)]), (.tup [(.int 0), (.int 0)]), (.tup [(.int 0), (.int 0)]), (.tup [(.int 2), (.int 2)]), (.tup [(.int 1), (.int 1)]), (.tup [(.int 0), (.int 0)]), (.tup [(.int 0), (.int 0)]), (.tup [(.int 0)])]), some (.tup [(.tup [(.tup [(.int 0), (.int 0)]), (.tup [(.int 1), (.int 1)]), (.tup [(.int 0), (.int 0)])]), (.tup [(.tup [(.int 0), (.int 0)]), (.tup [(.int 2), (.int 2)]), (.tup [(.int 1), (.int 1)])]), (.tup [(.tup [(.int 0), (.int 0)]), (.tup [(.int 0), (.int 0)]), (.tup [(.int 0)])])]), none]
def o8 : Fr := [some (.tup [(.tup [(.tup [(.int 0), (.int 0)]), (.tup [(.int 1), (.int 1)]), (.tup [(.int 0), (.int 0)])]), (.tup [(.tup [(.int 0), (.int 0)]), (.tup [(.int 2), (.int 2)]), (.tup [(.int 1), (.int 1)])]), (.tup [(.tup [(.int 0), (.int 0)]), (.tup [(.int 0), (.int 0)]), (.tup [(.int 2), (.int 2)])])]), some (.int 2), some (.lst [(.int 0), (.int 0)]), some (.lst [(.tup [(.int 0), (.int 0)]), (.tup [(.int 0), (.int 0)]), (.tup [(.int 2), (.int 2)])]), some (.int 8), some (.lst [(.tup [(.int 0), (.int 0)]), (.tup [(.int 1), (.int 1)]), (.tup [(.int 0), (.int 0)]), (.tup [(.int 0), (.int 0)]), (.tup [(.int 2), (.int 2)]), (.tup [(.int 1), (.int 1)]), (.tup [(.int 0), (.int 0)]), (.tup [(.int 0), (.int 0)]), (.lst [(.int 0), (.int 0)])]), some (.tup [(.tup [(.tup [(.int 0), (.int 0)]), (.tup [(.int 1), (.int 1)]), (.tup [(.int 0), (.int 0)])]), (.tup [(.tup [(.int 0), (.int 0)]), (.tup [(.int 2), (.int 2)]), (.tup [(.int 1), (.int 1)])]), (.tup [(.tup [(.int 0), (.int 0)]), (.tup [(.int 0), (.int 0)]), (.lst [(.int 0), (.int 0)])])]), none]
def o9 : Fr := [some (.tup [(.tup [(.tup [(.int 0), (.int 0)]), (.tup [(.int 1), (.int 1)]), (.tup [(.int 0), (.int 0)])]), (.tup [(.tup [(.int 0), (.int 0)]), (.tup [(.int 2), (.int 2)]), (.tup [(.int 1), (.int 1)])]), (.tup [(.tup [(.int 0), (.int 0)]), (.tup [(.int 0), (.int 0)]), (.tup [(.int 2), (.int 2)])])]), some (.int 2), some .non, some (.lst [(.tup [(.int 0), (.int 0)]), (.tup [(.int 0), (.int 0)]), (.tup [(.int 2), (.int 2)])]), some (.int 8), some (.lst [(.tup [(.int 0), (.int 0)]), (.tup [(.int 1), (.int 1)]), (.tup [(.int 0), (.int 0)]), (.tup [(.int 0), (.int 0)]), (.tup [(.int 2), (.int 2)]), (.tup [(.int 1), (.int 1)]), (.tup [(.int 0), (.int 0)]), (.tup [(.int 0), (.int 0)]), .non]), some (.tup [(.tup [(.tup [(.int 0), (.int 0)]), (.tup [(.int 1), (.int 1)]), (.tup [(.int 0), (.int 0)])]), (.tup [(.tup [(.int 0), (.int 0)]), (.tup [(.int 2), (.int 2)]), (.tup [(.int 1), (.int 1)])]), (.tup [(.tup [(.int 0), (.int 0)]), (.tup [(.int 0), (.int 0)]), .non])]), none]
def i0_0 : Fr := [some (.tup [(.tup [(.tup [(.int 0), (.int 0)]), (.tup [(.int 1), (.int 1)]), (.tup [(.int 0), (.int 0)])]), (.tup [(.tup [(.int 0), (.int 0)]), (.tup [(.int 2), (.int 2)]), (.tup [(.int 1), (.int 1)])]), (.tup [(.tup [(.int 0), (.int 0)]), (.tup [(.int 0), (.int 0)]), (.tup [(.int 2), (.int 2)])])]), some (.int 2), some (.tup [(.int 3), (.int 0)]), some (.lst [(.tup [(.int 0), (.int 0)]), (.tup [(.int 0), (.int 0)]), (.tup [(.int 2), (.int 2)])]), none, none, none, none]
def i0_1 : Fr := [some (.tup [(.tup [(.tup [(.int 0), (.int 0)]), (.tup [(.int 1), (.int 1)]), (.tup [(.int 0), (.int 0)])]), (.tup [(.tup [(.int 0), (.int 0)]), (.tup [(.int 2), (.int 2)]), (.tup [(.int 1), (.int 1)])]), (.tup [(.tup [(.int 0), (.int 0)]), (.tup [(.int 0), (.int 0)]), (.tup [(.int 2), (.int 2)])])]), some (.int 2), some (.tup [(.int 3), (.int 0)]), some (.lst [(.tup [(.int 0), (.int 0)]), (.tup [(.int 0), (.int 0)]), (.tup [(.int 2), (.int 2)])]), some (.int 0), some (.lst [(.tup [(.int 3), (.int 0)]), (.tup [(.int 1), (.int 1)]), (.tup [(.int 0), (.int 0)]), (.tup [(.int 0), (.int 0)]), (.tup [(.int 2), (.int 2)]), (.tup [(.int 1), (.int 1)]), (.tup [(.int 0), (.int 0)]), (.tup [(.int 0), (.int 0)]), (.tup [(.int 2), (.int 2)])]), some (.tup [(.tup [(.tup [(.int 3), (.int 0)]), (.tup [(.int 1), (.int 1)]), (.tup [(.int 0), (.int 0)])]), (.tup [(.tup [(.int 0), (.int 0)]), (.tup [(.int 2), (.int 2)]), (.tup [(.int 1), (.int 1)])]), (.tup [(.tup [(.int 0), (.int 0)]), (.tup [(.int 0), (.int 0)]), (.tup [(.int 2), (.int 2)])])]), none]
def i0_2 : Fr := [some (.tup [(.tup [(.tup [(.int 0), (.int 0)]), (.tup [(.int 1), (.int 1)]), (.tup [(.int 0), (.int 0)])]), (.tup [(.tup [(.int 0), (.int 0)]), (.tup [(.int 2), (.int 2)]), (.tup [(.int 1), (.int 1)])]), (.tup [(.tup [(.int 0), (.int 0)]), (.tup [(.int 0), (.int 0)]), (.tup [(.int 2), (.int 2)])])]), some (.int 2), some (.tup [(.int 3), (.int 0)]), some (.lst [(.tup [(.int 0), (.int 0)]), (.tup [(.int 0), (.int 0)]), (.tup [(.int 2), (.int 2)])]), some (.int 1), some (.lst [(.tup [(.int 0), (.int 0)]), (.tup [(.int 3), (.int 0)]), (.tup [(.int 0), (.int 0)]), (.tup [(.int 0), (.int 0)]), (.tup [(.int 2), (.int 2)]), (.tup [(.int 1), (.int 1)]), (.tup [(.int 0), (.int 0)]), (.tup [(.int 0), (.int 0)]), (.tup [(.int 2), (.int 2)])]), some (.tup [(.tup [(.tup [(.int 0), (.int 0)]), (.tup [(.int 3), (.int 0)]), (.tup [(.int 0), (.int 0)])]), (.tup [(.tup [(.int 0), (.int 0)]), (.tup [(.int 2), (.int 2)]), (.tup [(.int 1), (.int 1)])]), (.tup [(.tup [(.int 0), (.int 0)]), (.tup [(.int 0), (.int 0)]), (.tup [(.int 2), (.int 2)])])]), none]
def i0_3 : Fr := [some (.tup [(.tup [(.tup [(.int 0), (.int 0)]), (.tup [(.int 1), (.int 1)]), (.tup [(.int 0), (.int 0)])]), (.tup [(.tup [(.int 0), (.int 0)]), (.tup [(.int 2), (.int 2)]), (.tup [(.int 1), (.int 1)])]), (.tup [(.tup [(.int 0), (.int 0)]), (.tup [(.int 0), (.int 0)]), (.tup [(.int 2), (.int 2)])])]), some (.int 2), some (.tup [(.int 3), (.int 0)]), some (.lst [(.tup [(.int 0), (.int 0)]), (.tup [(.int 0), (.int 0)]), (.tup [(.int 2), (.int 2)])]), some (.int 2), some (.lst [(.tup [(.int 0), (.int 0)]), (.tup [(.int 1), (.int 1)]), (.tup [(.int 3), (.int 0)]), (.tup [(.int 0), (.int 0)]), (.tup [(.int 2), (.int 2)]), (.tup [(.int 1), (.int 1)]), (.tup [(.int 0), (.int 0)]), (.tup [(.int 0), (.int 0)]), (.tup [(.int 2), (.int 2)])]), some (.tup [(.tup [(.tup [(.int 0), (.int 0)]), (.tup [(.int 1), (.int 1)]), (.tup [(.int 3), (.int 0)])]), (.tup [(.tup [(.int 0), (.int 0)]), (.tup [(.int 2), (.int 2)]), (.tup [(.int 1), (.int 1)])]), (.tup [(.tup [(.int 0), (.int 0)]), (.tup [(.int 0), (.int 0)]), (.tup [(.int 2), (.int 2)])])]), none]
def i0_4 : Fr := [some (.tup [(.tup [(.tup [(.int 0), (.int 0)]), (.tup [(.int 1), (.int 1)]), (.tup [(.int 0), (.int 0)])]), (.tup [(.tup [(.int 0), (.int 0)]), (.tup [(.int 2), (.int 2)]), (.tup [(.int 1), (.int 1)])]), (.tup [(.tup [(.int 0), (.int 0)]), (.tup [(.int 0), (.int 0)]), (.tup [(.int 2), (.int 2)])])]), some (.int 2), some (.tup [(.int 3), (.int 0)]), some (.lst [(.tup [(.int 0), (.int 0)]), (.tup [(.int 0), (.int 0)]), (.tup [(.int 2), (.int 2)])]), some (.int 3), some (.lst [(.tup [(.int 0), (.int 0)]), (.tup [(.int 1), (.int 1)]), (.tup [(.int 0), (.int 0)]), (.tup [(.int 3), (.int 0)]), (.tup [(.int 2), (.int 2)]), (.tup [(.int 1), (.int 1)]), (.tup [(.int 0), (.int 0)]), (.tup [(.int 0), (.int 0)]), (.tup [(.int 2), (.int 2)])]), some (.tup [(.tup [(.tup [(.int 0), (.int 0)]), (.tup [(.int 1), (.int 1)]), (.tup [(.int 0), (.int 0)])]), (.tup [(.tup [(.int 3), (.int 0)]), (.tup [(.int 2), (.int 2)]), (.tup [(.int 1), (.int 1)])]), (.tup [(.tup [(.int 0), (.int 0)]), (.tup [(.int 0), (.int 0)]), (.tup [(.int 2), (.int 2)])])]), none]
def i0_5 : Fr := [some (.tup [(.tup [(.tup [(.int 0), (.int 0)]), (.tup [(.int 1), (.int 1)]), (.tup [(.int 0), (.int 0)])]), (.tup [(.tup [(.int 0), (.int 0)]), (.tup [(.int 2), (.int 2)]), (.tup [(.int 1), (.int 1)])]), (.tup [(.tup [(.int 0), (.int 0)]), (.tup [(.int 0), (.int 0)]), (.tup [(.int 2), (.int 2)])])]), some (.int 2), some (.tup [(.int 3), (.int 0)]), some (.lst [(.tup [(.int 0), (.int 0)]), (.tup [(.int 0), (.int 0)]), (.tup [(.int 2), (.int 2)])]), some (.int 4), some (.lst [(.tup [(.int 0), (.int 0)]), (.tup [(.int 1), (.int 1)]), (.tup [(.int 0), (.int 0)]), (.tup [(.int 0), (.int 0)]), (.tup [(.int 3), (.int 0)]), (.tup [(.int 1), (.int 1)]), (.tup [(.int 0), (.int 0)]), (.tup [(.int 0), (.int 0)]), (.tup [(.int 2), (.int 2)])]), some (.tup [(.tup [(.tup [(.int 0), (.int 0)]), (.tup [(.int 1), (.int 1)]), (.tup [(.int 0), (.int 0)])]), (.tup [(.tup [(.int 0), (.int 0)]), (.tup [(.int 3), (.int 0)]), (.tup [(.int 1), (.int 1)])]), (.tup [(.tup [(.int 0), (.int 0)]), (.tup [(.int 0), (.int 0)]), (.tup [(.int 2), (.int 2)])])]), none]
def i0_6 : Fr := [some (.tup [(.tup [(.tup [(.int 0), (.int 0)]), (.tup [(.int 1), (.int 1)]), (.tup [(.int 0), (.int 0)])]), (.tup [(.tup [(.int 0), (.int 0)]), (.tup [(.int 2), (.int 2)]), (.tup [(.int 1), (.int 1)])]), (.tup [(.tup [(.int 0), (.int 0)]), (.tup [(.int 0), (.int 0)]), (.tup [(.int 2), (.int 2)])])]), some (.int 2), some (.tup [(.int 3), (.int 0)]), some (.lst [(.tup [(.int 0), (.int 0)]), (.tup [(.int 0), (.int 0)]), (.tup [(.int 2), (.int 2)])]), some (.int 5), some (.lst [(.tup [(.int 0), (.int 0)]), (.tup [(.int 1), (.int 1)]), (.tup [(.int 0), (.int 0)]), (.tup [(.int 0), (.int 0)]), (.tup [(.int 2), (.int 2)]), (.tup [(.int 3), (.int 0)]), (.tup [(.int 0), (.int 0)]), (.tup [(.int 0), (.int 0)]), (.tup [(.int 2), (.int 2)])]), some (.tup [(.tup [(.tup [(.int 0), (.int 0)]), (.tup [(.int 1), (.int 1)]), (.tup [(.int 0), (.int 0)])]), (.tup [(.tup [(.int 0), (.int 0)]), (.tup [(.int 2), (.int 2)]), (.tup [(.int 3), (.int 0)])]), (.tup [(.tup [(.int 0), (.int 0)]), (.tup [(.int 0), (.int 0)]), (.tup [(.int 2), (.int 2)])])]), none]
def i0_7 : Fr := [some (.tup [(.tup [(.tup [(.int 0), (.int 0)]), (.tup [(.int 1), (.int 1)]), (.tup [(.int 0), (.int 0)])]), (.tup [(.tup [(.int 0), (.int 0)]), (.tup [(.int 2), (.int 2)]), (.tup [(.int 1), (.int 1)])]), (.tup [(.tup [(.int 0), (.int 0)]), (.tup [(.int 0), (.int 0)]), (.tup [(.int 2), (.int 2)])])]), some (.int 2), some (.tup [(.int 3), (.int 0)]), some (.lst [(.tup [(.int 0), (.int 0)]), (.tup [(.int 0), (.int 0)]), (.tup [(.int 2), (.int 2)])]), some (.int 6), some (.lst [(.tup [(.int 0), (.int 0)]), (.tup [(.int 1), (.int 1)]), (.tup [(.int 0), (.int 0)]), (.tup [(.int 0), (.int 0)]), (.tup [(.int 2), (.int 2)]), (.tup [(.int 1), (.int 1)]), (.tup [(.int 3), (.int 0)]), (.tup [(.int 0), (.int 0)]), (.tup [(.int 2), (.int 2)])]), some (.tup [(.tup [(.tup [(.int 0), (.int 0)]), (.tup [(.int 1), (.int 1)]), (.tup [(.int 0), (.int 0)])]), (.tup [(.tup [(.int 0), (.int 0)]), (.tup [(.int 2), (.int 2)]), (.tup [(.int 1), (.int 1)])]), (.tup [(.tup [(.int 3), (.int 0)]), (.tup [(.int 0), (.int 0)]), (.tup [(.int 2), (.int 2)])])]), none]
def i0_8 : Fr := [some (.tup [(.tup [(.tup [(.int 0), (.int 0)]), (.tup [(.int 1), (.int 1)]), (.tup [(.int 0), (.int 0)])]), (.tup [(.tup [(.int 0), (.int 0)]), (.tup [(.int 2), (.int 2)]), (.tup [(.int 1), (.int 1)])]), (.tup [(.tup [(.int 0), (.int 0)]), (.tup [(.int 0), (.int 0)]), (.tup [(.int 2), (.int 2)])])]), some (.int 2), some (.tup [(.int 3), (.int 0)]), some (.lst [(.tup [(.int 0), (.int 0)]), (.tup [(.int 0), (.int 0)]), (.tup [(.int 2), (.int 2)])]), some (.int 7), some (.lst [(.tup [(.int 0), (.int 0)]), (.tup [(.int 1), (.int 1)]), (.tup [(.int 0), (.int 0)]), (.tup [(.int 0), (.int 0)]), (.tup [(.int 2), (.int 2)]), (.tup [(.int 1), (.int 1)]), (.tup [(.int 0), (.int 0)]), (.tup [(.int 3), (.int 0)]), (.tup [(.int 2), (.int 2)])]), some (.tup [(.tup [(.tup [(.int 0), (.int 0)]), (.tup [(.int 1), (.int 1)]), (.tup [(.int 0), (.int 0)])]), (.tup [(.tup [(.int 0), (.int 0)]), (.tup [(.int 2), (.int 2)]), (.tup [(.int 1), (.int 1)])]), (.tup [(.tup [(.int 0), (.int 0)]), (.tup [(.int 3), (.int 0)]), (.tup [(.int 2), (.int 2)])])]), none]
def i1_0 : Fr := [some (.tup [(.tup [(.tup [(.int 0), (.int 0)]), (.tup [(.int 1), (.int 1)]), (.tup [(.int 0), (.int 0)])]), (.tup [(.tup [(.int 0), (.int 0)]), (.tup [(.int 2), (.int 2)]), (.tup [(.int 1), (.int 1)])]), (.tup [(.tup [(.int 0), (.int 0)]), (.tup [(.int 0), (.int 0)]), (.tup [(.int 2), (.int 2)])])]), some (.int 2), some (.tup [(.int 0), (.int 10)]), some (.lst [(.tup [(.int 0), (.int 0)]), (.tup [(.int 0), (.int 0)]), (.tup [(.int 2), (.int 2)])]), some (.int 8), some (.lst [(.tup [(.int 0), (.int 0)]), (.tup [(.int 1), (.int 1)]), (.tup [(.int 0), (.int 0)]), (.tup [(.int 0), (.int 0)]), (.tup [(.int 2), (.int 2)]), (.tup [(.int 1), (.int 1)]), (.tup [(.int 0), (.int 0)]), (.tup [(.int 0), (.int 0)]), (.tup [(.int 3), (.int 0)])]), some (.tup [(.tup [(.tup [(.int 0), (.int 0)]), (.tup [(.int 1), (.int 1)]), (.tup [(.int 0), (.int 0)])]), (.tup [(.tup [(.int 0), (.int 0)]), (.tup [(.int 2), (.int 2)]), (.tup [(.int 1), (.int 1)])]), (.tup [(.tup [(.int 0), (.int 0)]), (.tup [(.int 0), (.int 0)]), (.tup [(.int 3), (.int 0)])])]), none]
def i1_1 : Fr := [some (.tup [(.tup [(.tup [(.int 0), (.int 0)]), (.tup [(.int 1), (.int 1)]), (.tup [(.int 0), (.int 0)])]), (.tup [(.tup [(.int 0), (.int 0)]), (.tup [(.int 2), (.int 2)]), (.tup [(.int 1), (.int 1)])]), (.tup [(.tup [(.int 0), (.int 0)]), (.tup [(.int 0), (.int 0)]), (.tup [(.int 2), (.int 2)])])]), some (.int 2), some (.tup [(.int 0), (.int 10)]), some (.lst [(.tup [(.int 0), (.int 0)]), (.tup [(.int 0), (.int 0)]), (.tup [(.int 2), (.int 2)])]), some (.int 0), some (.lst [(.tup [(.int 0), (.int 10)]), (.tup [(.int 1), (.int 1)]), (.tup [(.int 0), (.int 0)]), (.tup [(.int 0), (.int 0)]), (.tup [(.int 2), (.int 2)]), (.tup [(.int 1), (.int 1)]), (.tup [(.int 0), (.int 0)]), (.tup [(.int 0), (.int 0)]), (.tup [(.int 2), (.int 2)])]), some (.tup [(.tup [(.tup [(.int 0), (.int 10)]), (.tup [(.int 1), (.int 1)]), (.tup [(.int 0), (.int 0)])]), (.tup [(.tup [(.int 0), (.int 0)]), (.tup [(.int 2), (.int 2)]), (.tup [(.int 1), (.int 1)])]), (.tup [(.tup [(.int 0), (.int 0)]), (.tup [(.int 0), (.int 0)]), (.tup [(.int 2), (.int 2)])])]), none]
def i1_2 : Fr := [some (.tup [(.tup [(.tup [(.int 0), (.int 0)]), (.tup [(.int 1), (.int 1)]), (.tup [(.int 0), (.int 0)])]), (.tup [(.tup [(.int 0), (.int 0)]), (.tup [(.int 2), (.int 2)]), (.tup [(.int 1), (.int 1)])]), (.tup [(.tup [(.int 0), (.int 0)]), (.tup [(.int 0), (.int 0)]), (.tup [(.int 2), (.int 2)])])]), some (.int 2), some (.tup [(.int 0), (.int 10)]), some (.lst [(.tup [(.int 0), (.int 0)]), (.tup [(.int 0), (.int 0)]), (.tup [(.int 2), (.int 2)])]), some (.int 1), some (.lst [(.tup [(.int 0), (.int 0)]), (.tup [(.int 0), (.int 10)]), (.tup [(.int 0), (.int 0)]), (.tup [(.int 0), (.int 0)]), (.tup [(.int 2), (.int 2)]), (.tup [(.int 1), (.int 1)]), (.tup [(.int 0), (.int 0)]), (.tup [(.int 0), (.int 0)]), (.tup [(.int 2), (.int 2)])]), some (.tup [(.tup [(.tup [(.int 0), (.int 0)]), (.tup [(.int 0), (.int 10)]), (.tup [(.int 0), (.int 0)])]), (.tup [(.tup [(.int 0), (.int 0)]), (.tup [(.int 2), (.int 2)]), (.tup [(.int 1), (.int 1)])]), (.tup [(.tup [(.int 0), (.int 0)]), (.tup [(.int 0), (.int 0)]), (.tup [(.int 2), (.int 2)])])]), none]
def i1_3 : Fr := [some (.tup [(.tup [(.tup [(.int 0), (.int 0)]), (.tup [(.int 1), (.int 1)]), (.tup [(.int 0), (.int 0)])]), (.tup [(.tup [(.int 0), (.int 0)]), (.tup [(.int 2), (.int 2)]), (.tup [(.int 1), (.int 1)])]), (.tup [(.tup [(.int 0), (.int 0)]), (.tup [(.int 0), (.int 0)]), (.tup [(.int 2), (.int 2)])])]), some (.int 2), some (.tup [(.int 0), (.int 10)]), some (.lst [(.tup [(.int 0), (.int 0)]), (.tup [(.int 0), (.int 0)]), (.tup [(.int 2), (.int 2)])]), some (.int 2), some (.lst [(.tup [(.int 0), (.int 0)]), (.tup [(.int 1), (.int 1)]), (.tup [(.int 0), (.int 10)]), (.tup [(.int 0), (.int 0)]), (.tup [(.int 2), (.int 2)]), (.tup [(.int 1), (.int 1)]), (.tup [(.int 0), (.int 0)]), (.tup [(.int 0), (.int 0)]), (.tup [(.int 2), (.int 2)])]), some (.tup [(.tup [(.tup [(.int 0), (.int 0)]), (.tup [(.int 1), (.int 1)]), (.tup [(.int 0), (.int 10)])]), (.tup [(.tup [(.int 0), (.int 0)]), (.tup [(.int 2), (.int 2)]), (.tup [(.int 1), (.int 1)])]), (.tup [(.tup [(.int 0), (.int 0)]), (.tup [(.int 0), (.int 0)]), (.tup [(.int 2), (.int 2)])])]), none]
def i1_4 : Fr := [some (.tup [(.tup [(.tup [(.int 0), (.int 0)]), (.tup [(.int 1), (.int 1)]), (.tup [(.int 0), (.int 0)])]), (.tup [(.tup [(.int 0), (.int 0)]), (.tup [(.int 2), (.int 2)]), (.tup [(.int 1), (.int 1)])]), (.tup [(.tup [(.int 0), (.int 0)]), (.tup [(.int 0), (.int 0)]), (.tup [(.int 2), (.int 2)])])]), some (.int 2), some (.tup [(.int 0), (.int 10)]), some (.lst [(.tup [(.int 0), (.int 0)]), (.tup [(.int 0), (.int 0)]), (.tup [(.int 2), (.int 2)])]), some (.int 3), some (.lst [(.tup [(.int 0), (.int 0)]), (.tup [(.int 1), (.int 1)]), (.tup [(.int 0), (.int 0)]), (.tup [(.int 0), (.int 10)]), (.tup [(.int 2), (.int 2)]), (.tup [(.int 1), (.int 1)]), (.tup [(.int 0), (.int 0)]), (.tup [(.int 0), (.int 0)]), (.tup [(.int 2), (.int 2)])]), some (.tup [(.tup [(.tup [(.int 0), (.int 0)]), (.tup [(.int 1), (.int 1)]), (.tup [(.int 0), (.int 0)])]), (.tup [(.tup [(.int 0), (.int 10)]), (.tup [(.int 2), (.int 2)]), (.tup [(.int 1), (.int 1)])]), (.tup [(.tup [(.int 0), (.int 0)]), (.tup [(.int 0), (.int 0)]), (.tup [(.int 2), (.int 2)])])]), none]
def i1_5 : Fr := [some (.tup [(.tup [(.tup [(.int 0), (.int 0)]), (.tup [(.int 1), (.int 1)]), (.tup [(.int 0), (.int 0)])]), (.tup [(.tup [(.int 0), (.int 0)]), (.tup [(.int 2), (.int 2)]), (.tup [(.int 1), (.int 1)])]), (.tup [(.tup [(.int 0), (.int 0)]), (.tup [(.int 0), (.int 0)]), (.tup [(.int 2), (.int 2)])])]), some (.int 2), some (.tup [(.int 0), (.int 10)]), some (.lst [(.tup [(.int 0), (.int 0)]), (.tup [(.int 0), (.int 0)]), (.tup [(.int 2), (.int 2)])]), some (.int 4), some (.lst [(.tup [(.int 0), (.int 0)]), (.tup [(.int 1), (.int 1)]), (.tup [(.int 0), (.int 0)]), (.tup [(.int 0), (.int 0)]), (.tup [(.int 0), (.int 10)]), (.tup [(.int 1), (.int 1)]), (.tup [(.int 0), (.int 0)]), (.tup [(.int 0), (.int 0)]), (.tup [(.int 2), (.int 2)])]), some (.tup [(.tup [(.tup [(.int 0), (.int 0)]), (.tup [(.int 1), (.int 1)]), (.tup [(.int 0), (.int 0)])]), (.tup [(.tup [(.int 0), (.int 0)]), (.tup [(.int 0), (.int 10)]), (.tup [(.int 1), (.int 1)])]), (.tup [(.tup [(.int 0), (.int 0)]), (.tup [(.int 0), (.int 0)]), (.tup [(.int 2), (.int 2)])])]), none]
def i1_6 : Fr := [some (.tup [(.tup [(.tup [(.int 0), (.int 0)]), (.tup [(.int 1), (.int 1)]), (.tup [(.int 0), (.int 0)])]), (.tup [(.tup [(.int 0), (.int 0)]), (.tup [(.int 2), (.int 2)]), (.tup [(.int 1), (.int 1)])]), (.tup [(.tup [(.int 0), (.int 0)]), (.tup [(.int 0), (.int 0)]), (.tup [(.int 2), (.int 2)])])]), some (.int 2), some (.tup [(.int 0), (.int 10)]), some (.lst [(.tup [(.int 0), (.int 0)]), (.tup [(.int 0), (.int 0)]), (.tup [(.int 2), (.int 2)])]), some (.int 5), some (.lst [(.tup [(.int 0), (.int 0)]), (.tup [(.int 1), (.int 1)]), (.tup [(.int 0), (.int 0)]), (.tup [(.int 0), (.int 0)]), (.tup [(.int 2), (.int 2)]), (.tup [(.int 0), (.int 10)]), (.tup [(.int 0), (.int 0)]), (.tup [(.int 0), (.int 0)]), (.tup [(.int 2), (.int 2)])]), some (.tup [(.tup [(.tup [(.int 0), (.int 0)]), (.tup [(.int 1), (.int 1)]), (.tup [(.int 0), (.int 0)])]), (.tup [(.tup [(.int 0), (.int 0)]), (.tup [(.int 2), (.int 2)]), (.tup [(.int 0), (.int 10)])]), (.tup [(.tup [(.int 0), (.int 0)]), (.tup [(.int 0), (.int 0)]), (.tup [(.int 2), (.int 2)])])]), none]
def i1_7 : Fr := [some (.tup [(.tup [(.tup [(.int 0), (.int 0)]), (.tup [(.int 1), (.int 1)]), (.tup [(.int 0), (.int 0)])]), (.tup [(.tup [(.int 0), (.int 0)]), (.tup [(.int 2), (.int 2)]), (.tup [(.int 1), (.int 1)])]), (.tup [(.tup [(.int 0), (.int 0)]), (.tup [(.int 0), (.int 0)]), (.tup [(.int 2), (.int 2)])])]), some (.int 2), some (.tup [(.int 0), (.int 10)]), some (.lst [(.tup [(.int 0), (.int 0)]), (.tup [(.int 0), (.int 0)]), (.tup [(.int 2), (.int 2)])]), some (.int 6), some (.lst [(.tup [(.int 0), (.int 0)]), (.tup [(.int 1), (.int 1)]), (.tup [(.int 0), (.int 0)]), (.tup [(.int 0), (.int 0)]), (.tup [(.int 2), (.int 2)]), (.tup [(.int 1), (.int 1)]), (.tup [(.int 0), (.int 10)]), (.tup [(.int 0), (.int 0)]), (.tup [(.int 2), (.int 2)])]), some (.tup [(.tup [(.tup [(.int 0), (.int 0)]), (.tup [(.int 1), (.int 1)]), (.tup [(.int 0), (.int 0)])]), (.tup [(.tup [(.int 0), (.int 0)]), (.tup [(.int 2), (.int 2)]), (.tup [(.int 1), (.int 1)])]), (.tup [(.tup [(.int 0), (.int 10)]), (.tup [(.int 0), (.int 0)]), (.tup [(.int 2), (.int 2)])])]), none]
def i1_8 : Fr := [some (.tup [(.tup [(.tup [(.int 0), (.int 0)]), (.tup [(.int 1), (.int 1)]), (.tup [(.int 0), (.int 0)])]), (.tup [(.tup [(.int 0), (.int 0)]), (.tup [(.int 2), (.int 2)]), (.tup [(.int 1), (.int 1)])]), (.tup [(.tup [(.int 0), (.int 0)]), (.tup [(.int 0), (.int 0)]), (.tup [(.int 2), (.int 2)])])]), some (.int 2), some (.tup [(.int 0), (.int 10)]), some (.lst [(.tup [(.int 0), (.int 0)]), (.tup [(.int 0), (.int 0)]), (.tup [(.int 2), (.int 2)])]), some (.int 7), some (.lst [(.tup [(.int 0), (.int 0)]), (.tup [(.int 1), (.int 1)]), (.tup [(.int 0), (.int 0)]), (.tup [(.int 0), (.int 0)]), (.tup [(.int 2), (.int 2)]), (.tup [(.int 1), (.int 1)]), (.tup [(.int 0), (.int 0)]), (.tup [(.int 0), (.int 10)]), (.tup [(.int 2), (.int 2)])]), some (.tup [(.tup [(.tup [(.int 0), (.int 0)]), (.tup [(.int 1), (.int 1)]), (.tup [(.int 0), (.int 0)])]), (.tup [(.tup [(.int 0), (.int 0)]), (.tup [(.int 2), (.int 2)]), (.tup [(.int 1), (.int 1)])]), (.tup [(.tup [(.int 0), (.int 0)]), (.tup [(.int 0), (.int 10)]), (.tup [(.int 2), (.int 2)])])]), none]
def i2_0 : Fr := [some (.tup [(.tup [(.tup [(.int 0), (.int 0)]), (.tup [(.int 1), (.int 1)]), (.tup [(.int 0), (.int 0)])]), (.tup [(.tup [(.int 0), (.int 0)]), (.tup [(.int 2), (.int 2)]), (.tup [(.int 1), (.int 1)])]), (.tup [(.tup [(.int 0), (.int 0)]), (.tup [(.int 0), (.int 0)]), (.tup [(.int 2), (.int 2)])])]), some (.int 2), some (.tup [(.int (-1)), (.int 0)]), some (.lst [(.tup [(.int 0), (.int 0)]), (.tup [(.int 0), (.int 0)]), (.tup [(.int 2), (.int 2)])]), some (.int 8), some (.lst [(.tup [(.int 0), (.int 0)]), (.tup [(.int 1), (.int 1)]), (.tup [(.int 0), (.int 0)]), (.tup [(.int 0), (.int 0)]), (.tup [(.int 2), (.int 2)]), (.tup [(.int 1), (.int 1)]), (.tup [(.int 0), (.int 0)]), (.tup [(.int 0), (.int 0)]), (.tup [(.int 0), (.int 10)])]), some (.tup [(.tup [(.tup [(.int 0), (.int 0)]), (.tup [(.int 1), (.int 1)]), (.tup [(.int 0), (.int 0)])]), (.tup [(.tup [(.int 0), (.int 0)]), (.tup [(.int 2), (.int 2)]), (.tup [(.int 1), (.int 1)])]), (.tup [(.tup [(.int 0), (.int 0)]), (.tup [(.int 0), (.int 0)]), (.tup [(.int 0), (.int 10)])])]), none]
def i2_1 : Fr := [some (.tup [(.tup [(.tup [(.int 0), (.int 0)]), (.tup [(.int 1), (.int 1)]), (.tup [(.int 0), (.int 0)])]), (.tup [(.tup [(.int 0), (.int 0)]), (.tup [(.int 2), (.int 2)]), (.tup [(.int 1), (.int 1)])]), (.tup [(.tup [(.int 0), (.int 0)]), (.tup [(.int 0), (.int 0)]), (.tup [(.int 2), (.int 2)])])]), some (.int 2), some (.tup [(.int (-1)), (.int 0)]), some (.lst [(.tup [(.int 0), (.int 0)]), (.tup [(.int 0), (.int 0)]), (.tup [(.int 2), (.int 2)])]), some (.int 0), some (.lst [(.tup [(.int (-1)), (.int 0)]), (.tup [(.int 1), (.int 1)]), (.tup [(.int 0), (.int 0)]), (.tup [(.int 0), (.int 0)]), (.tup [(.int 2), (.int 2)]), (.tup [(.int 1), (.int 1)]), (.tup [(.int 0), (.int 0)]), (.tup [(.int 0), (.int 0)]), (.tup [(.int 2), (.int 2)])]), some (.tup [(.tup [(.tup [(.int (-1)), (.int 0)]), (.tup [(.int 1), (.int 1)]), (.tup [(.int 0), (.int 0)])]), (.tup [(.tup [(.int 0), (.int 0)]), (.tup [(.int 2), (.int 2)]), (.tup [(.int 1), (.int 1)])]), (.tup [(.tup [(.int 0), (.int 0)]), (.tup [(.int 0), (.int 0)]), (.tup [(.int 2), (.int 2)])])]), none]
def i2_2 : Fr := [some (.tup [(.tup [(.tup [(.int 0), (.int 0)]), (.tup [(.int 1), (.int 1)]), (.tup [(.int 0), (.int 0)])]), (.tup [(.tup [(.int 0), (.int 0)]), (.tup [(.int 2), (.int 2)]), (.tup [(.int 1), (.int 1)])]), (.tup [(.tup [(.int 0), (.int 0)]), (.tup [(.int 0), (.int 0)]), (.tup [(.int 2), (.int 2)])])]), some (.int 2), some (.tup [(.int (-1)), (.int 0)]), some (.lst [(.tup [(.int 0), (.int 0)]), (.tup [(.int 0), (.int 0)]), (.tup [(.int 2), (.int 2)])]), some (.int 1), some (.lst [(.tup [(.int 0), (.int 0)]), (.tup [(.int (-1)), (.int 0)]), (.tup [(.int 0), (.int 0)]), (.tup [(.int 0), (.int 0)]), (.tup [(.int 2), (.int 2)]), (.tup [(.int 1), (.int 1)]), (.tup [(.int 0), (.int 0)]), (.tup [(.int 0), (.int 0)]), (.tup [(.int 2), (.int 2)])]), some (.tup [(.tup [(.tup [(.int 0), (.int 0)]), (.tup [(.int (-1)), (.int 0)]), (.tup [(.int 0), (.int 0)])]), (.tup [(.tup [(.int 0), (.int 0)]), (.tup [(.int 2), (.int 2)]), (.tup [(.int 1), (.int 1)])]), (.tup [(.tup [(.int 0), (.int 0)]), (.tup [(.int 0), (.int 0)]), (.tup [(.int 2), (.int 2)])])]), none]
def i2_3 : Fr := [some (.tup [(.tup [(.tup [(.int 0), (.int 0)]), (.tup [(.int 1), (.int 1)]), (.tup [(.int 0), (.int 0)])]), (.tup [(.tup [(.int 0), (.int 0)]), (.tup [(.int 2), (.int 2)]), (.tup [(.int 1), (.int 1)])]), (.tup [(.tup [(.int 0), (.int 0)]), (.tup [(.int 0), (.int 0)]), (.tup [(.int 2), (.int 2)])])]), some (.int 2), some (.tup [(.int (-1)), (.int 0)]), some (.lst [(.tup [(.int 0), (.int 0)]), (.tup [(.int 0), (.int 0)]), (.tup [(.int 2), (.int 2)])]), some (.int 2), some (.lst [(.tup [(.int 0), (.int 0)]), (.tup [(.int 1), (.int 1)]), (.tup [(.int (-1)), (.int 0)]), (.tup [(.int 0), (.int 0)]), (.tup [(.int 2), (.int 2)]), (.tup [(.int 1), (.int 1)]), (.tup [(.int 0), (.int 0)]), (.tup [(.int 0), (.int 0)]), (.tup [(.int 2), (.int 2)])]), some (.tup [(.tup [(.tup [(.int 0), (.int 0)]), (.tup [(.int 1), (.int 1)]), (.tup [(.int (-1)), (.int 0)])]), (.tup [(.tup [(.int 0), (.int 0)]), (.tup [(.int 2), (.int 2)]), (.tup [(.int 1), (.int 1)])]), (.tup [(.tup [(.int 0), (.int 0)]), (.tup [(.int 0), (.int 0)]), (.tup [(.int 2), (.int 2)])])]), none]
def i2_4 : Fr := [some (.tup [(.tup [(.tup [(.int 0), (.int 0)]), (.tup [(.int 1), (.int 1)]), (.tup [(.int 0), (.int 0)])]), (.tup [(.tup [(.int 0), (.int 0)]), (.tup [(.int 2), (.int 2)]), (.tup [(.int 1), (.int 1)])]), (.tup [(.tup [(.int 0), (.int 0)]), (.tup [(.int 0), (.int 0)]), (.tup [(.int 2), (.int 2)])])]), some (.int 2), some (.tup [(.int (-1)), (.int 0)]), some (.lst [(.tup [(.int 0), (.int 0)]), (.tup [(.int 0), (.int 0)]), (.tup [(.int 2), (.int 2)])]), some (.int 3), some (.lst [(.tup [(.int 0), (.int 0)]), (.tup [(.int 1), (.int 1)]), (.tup [(.int 0), (.int 0)]), (.tup [(.int (-1)), (.int 0)]), (.tup [(.int 2), (.int 2)]), (.tup [(.int 1), (.int 1)]), (.tup [(.int 0), (.int 0)]), (.tup [(.int 0), (.int 0)]), (.tup [(.int 2), (.int 2)])]), some (.tup [(.tup [(.tup [(.int 0), (.int 0)]), (.tup [(.int 1), (.int 1)]), (.tup [(.int 0), (.int 0)])]), (.tup [(.tup [(.int (-1)), (.int 0)]), (.tup [(.int 2), (.int 2)]), (.tup [(.int 1), (.int 1)])]), (.tup [(.tup [(.int 0), (.int 0)]), (.tup [(.int 0), (.int 0)]), (.tup [(.int 2), (.int 2)])])]), none]
def i2_5 : Fr := [some (.tup [(.tup [(.tup [(.int 0), (.int 0)]), (.tup [(.int 1), (.int 1)]), (.tup [(.int 0), (.int 0)])]), (.tup [(.tup [(.int 0), (.int 0)]), (.tup [(.int 2), (.int 2)]), (.tup [(.int 1), (.int 1)])]), (.tup [(.tup [(.int 0), (.int 0)]), (.tup [(.int 0), (.int 0)]), (.tup [(.int 2), (.int 2)])])]), some (.int 2), some (.tup [(.int (-1)), (.int 0)]), some (.lst [(.tup [(.int 0), (.int 0)]), (.tup [(.int 0), (.int 0)]), (.tup [(.int 2), (.int 2)])]), some (.int 4), some (.lst [(.tup [(.int 0), (.int 0)]), (.tup [(.int 1), (.int 1)]), (.tup [(.int 0), (.int 0)]), (.tup [(.int 0), (.int 0)]), (.tup [(.int (-1)), (.int 0)]), (.tup [(.int 1), (.int 1)]), (.tup [(.int 0), (.int 0)]), (.tup [(.int 0), (.int 0)]), (.tup [(.int 2), (.int 2)])]), some (.tup [(.tup [(.tup [(.int 0), (.int 0)]), (.tup [(.int 1), (.int 1)]), (.tup [(.int 0), (.int 0)])]), (.tup [(.tup [(.int 0), (.int 0)]), (.tup [(.int (-1)), (.int 0)]), (.tup [(.int 1), (.int 1)])]), (.tup [(.tup [(.int 0), (.int 0)]), (.tup [(.int 0), (.int 0)]), (.tup [(.int 2), (.int 2)])])]), none]
def i2_6 : Fr := [some (.tup [(.tup [(.tup [(.int 0), (.int 0)]), (.tup [(.int 1), (.int 1)]), (.tup [(.int 0), (.int 0)])]), (.tup [(.tup [(.int 0), (.int 0)]), (.tup [(.int 2), (.int 2)]), (.tup [(.int 1), (.int 1)])]), (.tup [(.tup [(.int 0), (.int 0)]), (.tup [(.int 0), (.int 0)]), (.tup [(.int 2), (.int 2)])])]), some (.int 2), some (.tup [(.int (-1)), (.int 0)]), some (.lst [(.tup [(.int 0), (.int 0)]), (.tup [(.int 0), (.int 0)]), (.tup [(.int 2), (.int 2)])]), some (.int 5), some (.lst [(.tup [(.int 0), (.int 0)]), (.tup [(.int 1), (.int 1)]), (.tup [(.int 0), (.int 0)]), (.tup [(.int 0), (.int 0)]), (.tup [(.int 2), (.int 2)]), (.tup [(.int (-1)), (.int 0)]), (.tup [(.int 0), (.int 0)]), (.tup [(.int 0), (.int 0)]), (.tup [(.int 2), (.int 2)])]), some (.tup [(.tup [(.tup [(.int 0), (.int 0)]), (.tup [(.int 1), (.int 1)]), (.tup [(.int 0), (.int 0)])]), (.tup [(.tup [(.int 0), (.int 0)]), (.tup [(.int 2), (.int 2)]), (.tup [(.int (-1)), (.int 0)])]), (.tup [(.tup [(.int 0), (.int 0)]), (.tup [(.int 0), (.int 0)]), (.tup [(.int 2), (.int 2)])])]), none]
def i2_7 : Fr := [some (.tup [(.tup [(.tup [(.int 0), (.int 0)]), (.tup [(.int 1), (.int 1)]), (.tup [(.int 0), (.int 0)])]), (.tup [(.tup [(.int 0), (.int 0)]), (.tup [(.int 2), (.int 2)]), (.tup [(.int 1), (.int 1)])]), (.tup [(.tup [(.int 0), (.int 0)]), (.tup [(.int 0), (.int 0)]), (.tup [(.int 2), (.int 2)])])]), some (.int 2), some (.tup [(.int (-1)), (.int 0)]), some (.lst [(.tup [(.int 0), (.int 0)]), (.tup [(.int 0), (.int 0)]), (.tup [(.int 2), (.int 2)])]), some (.int 6), some (.lst [(.tup [(.int 0), (.int 0)]), (.tup [(.int 1), (.int 1)]), (.tup [(.int 0), (.int 0)]), (.tup [(.int 0), (.int 0)]), (.tup [(.int 2), (.int 2)]), (.tup [(.int 1), (.int 1)]), (.tup [(.int (-1)), (.int 0)]), (.tup [(.int 0), (.int 0)]), (.tup [(.int 2), (.int 2)])]), some (.tup [(.tup [(.tup [(.int 0), (.int 0)]), (.tup [(.int 1), (.int 1)]), (.tup [(.int 0), (.int 0)])]), (.tup [(.tup [(.int 0), (.int 0)]), (.tup [(.int 2), (.int 2)]), (.tup [(.int 1), (.int 1)])]), (.tup [(.tup [(.int (-1)), (.int 0)]), (.tup [(.int 0), (.int 0)]), (.tup [(.int 2), (.int 2)])])]), none]
def i2_8 : Fr := [some (.tup [(.tup [(.tup [(.int 0), (.int 0)]), (.tup [(.int 1), (.int 1)]), (.tup [(.int 0), (.int 0)])]), (.tup [(.tup [(.int 0), (.int 0)]), (.tup [(.int 2), (.int 2)]), (.tup [(.int 1), (.int 1)])]), (.tup [(.tup [(.int 0), (.int 0)]), (.tup [(.int 0), (.int 0)]), (.tup [(.int 2), (.int 2)])])]), some (.int 2), some (.tup [(.int (-1)), (.int 0)]), some (.lst [(.tup [(.int 0), (.int 0)]), (.tup [(.int 0), (.int 0)]), (.tup [(.int 2), (.int 2)])]), some (.int 7), some (.lst [(.tup [(.int 0), (.int 0)]), (.tup [(.int 1), (.int 1)]), (.tup [(.int 0), (.int 0)]), (.tup [(.int 0), (.int 0)]), (.tup [(.int 2), (.int 2)]), (.tup [(.int 1), (.int 1)]), (.tup [(.int 0), (.int 0)]), (.tup [(.int (-1)), (.int 0)]), (.tup [(.int 2), (.int 2)])]), some (.tup [(.tup [(.tup [(.int 0), (.int 0)]), (.tup [(.int 1), (.int 1)]), (.tup [(.int 0), (.int 0)])]), (.tup [(.tup [(.int 0), (.int 0)]), (.tup [(.int 2), (.int 2)]), (.tup [(.int 1), (.int 1)])]), (.tup [(.tup [(.int 0), (.int 0)]), (.tup [(.int (-1)), (.int 0)]), (.tup [(.int 2), (.int 2)])])]), none]
def i3_0 : Fr := [some (.tup [(.tup [(.tup [(.int 0), (.int 0)]), (.tup [(.int 1), (.int 1)]), (.tup [(.int 0), (.int 0)])]), (.tup [(.tup [(.int 0), (.int 0)]), (.tup [(.int 2), (.int 2)]), (.tup [(.int 1), (.int 1)])]), (.tup [(.tup [(.int 0), (.int 0)]), (.tup [(.int 0), (.int 0)]), (.tup [(.int 2), (.int 2)])])]), some (.int 2), some (.tup [(.int 0), (.int (-1))]), some (.lst [(.tup [(.int 0), (.int 0)]), (.tup [(.int 0), (.int 0)]), (.tup [(.int 2), (.int 2)])]), some (.int 8), some (.lst [(.tup [(.int 0), (.int 0)]), (.tup [(.int 1), (.int 1)]), (.tup [(.int 0), (.int 0)]), (.tup [(.int 0), (.int 0)]), (.tup [(.int 2), (.int 2)]), (.tup [(.int 1), (.int 1)]), (.tup [(.int 0), (.int 0)]), (.tup [(.int 0), (.int 0)]), (.tup [(.int (-1)), (.int 0)])]), some (.tup [(.tup [(.tup [(.int 0), (.int 0)]), (.tup [(.int 1), (.int 1)]), (.tup [(.int 0), (.int 0)])]), (.tup [(.tup [(.int 0), (.int 0)]), (.tup [(.int 2), (.int 2)]), (.tup [(.int 1), (.int 1)])]), (.tup [(.tup [(.int 0), (.int 0)]), (.tup [(.int 0), (.int 0)]), (.tup [(.int (-1)), (.int 0)])])]), none]
def i3_1 : Fr := [some (.tup [(.tup [(.tup [(.int 0), (.int 0)]), (.tup [(.int 1), (.int 1)]), (.tup [(.int 0), (.int 0)])]), (.tup [(.tup [(.int 0), (.int 0)]), (.tup [(.int 2), (.int 2)]), (.tup [(.int 1), (.int 1)])]), (.tup [(.tup [(.int 0), (.int 0)]), (.tup [(.int 0), (.int 0)]), (.tup [(.int 2), (.int 2)])])]), some (.int 2), some (.tup [(.int 0), (.int (-1))]), some (.lst [(.tup [(.int 0), (.int 0)]), (.tup [(.int 0), (.int 0)]), (.tup [(.int 2), (.int 2)])]), some (.int 0), some (.lst [(.tup [(.int 0), (.int (-1))]), (.tup [(.int 1), (.int 1)]), (.tup [(.int 0), (.int 0)]), (.tup [(.int 0), (.int 0)]), (.tup [(.int 2), (.int 2)]), (.tup [(.int 1), (.int 1)]), (.tup [(.int 0), (.int 0)]), (.tup [(.int 0), (.int 0)]), (.tup [(.int 2), (.int 2)])]), some (.tup [(.tup [(.tup [(.int 0), (.int (-1))]), (.tup [(.int 1), (.int 1)]), (.tup [(.int 0), (.int 0)])]), (.tup [(.tup [(.int 0), (.int 0)]), (.tup [(.int 2), (.int 2)]), (.tup [(.int 1), (.int 1)])]), (.tup [(.tup [(.int 0), (.int 0)]), (.tup [(.int 0), (.int 0)]), (.tup [(.int 2), (.int 2)])])]), none]
def i3_2 : Fr := [some (.tup [(.tup [(.tup [(.int 0), (.int 0)]), (.tup [(.int 1), (.int 1)]), (.tup [(.int 0), (.int 0)])]), (.tup [(.tup [(.int 0), (.int 0)]), (.tup [(.int 2), (.int 2)]), (.tup [(.int 1), (.int 1)])]), (.tup [(.tup [(.int 0), (.int 0)]), (.tup [(.int 0), (.int 0)]), (.tup [(.int 2), (.int 2)])])]), some (.int 2), some (.tup [(.int 0), (.int (-1))]), some (.lst [(.tup [(.int 0), (.int 0)]), (.tup [(.int 0), (.int 0)]), (.tup [(.int 2), (.int 2)])]), some (.int 1), some (.lst [(.tup [(.int 0), (.int 0)]), (.tup [(.int 0), (.int (-1))]), (.tup [(.int 0), (.int 0)]), (.tup [(.int 0), (.int 0)]), (.tup [(.int 2), (.int 2)]), (.tup [(.int 1), (.int 1)]), (.tup [(.int 0), (.int 0)]), (.tup [(.int 0), (.int 0)]), (.tup [(.int 2), (.int 2)])]), some (.tup [(.tup [(.tup [(.int 0), (.int 0)]), (.tup [(.int 0), (.int (-1))]), (.tup [(.int 0), (.int 0)])]), (.tup [(.tup [(.int 0), (.int 0)]), (.tup [(.int 2), (.int 2)]), (.tup [(.int 1), (.int 1)])]), (.tup [(.tup [(.int 0), (.int 0)]), (.tup [(.int 0), (.int 0)]), (.tup [(.int 2), (.int 2)])])]), none]
def i3_3 : Fr := [some (.tup [(.tup [(.tup [(.int 0), (.int 0)]), (.tup [(.int 1), (.int 1)]), (.tup [(.int 0), (.int 0)])]), (.tup [(.tup [(.int 0), (.int 0)]), (.tup [(.int 2), (.int 2)]), (.tup [(.int 1), (.int 1)])]), (.tup [(.tup [(.int 0), (.int 0)]), (.tup [(.int 0), (.int 0)]), (.tup [(.int 2), (.int 2)])])]), some (.int 2), some (.tup [(.int 0), (.int (-1))]), some (.lst [(.tup [(.int 0), (.int 0)]), (.tup [(.int 0), (.int 0)]), (.tup [(.int 2), (.int 2)])]), some (.int 2), some (.lst [(.tup [(.int 0), (.int 0)]), (.tup [(.int 1), (.int 1)]), (.tup [(.int 0), (.int (-1))]), (.tup [(.int 0), (.int 0)]), (.tup [(.int 2), (.int 2)]), (.tup [(.int 1), (.int 1)]), (.tup [(.int 0), (.int 0)]), (.tup [(.int 0), (.int 0)]), (.tup [(.int 2), (.int 2)])]), some (.tup [(.tup [(.tup [(.int 0), (.int 0)]), (.tup [(.int 1), (.int 1)]), (.tup [(.int 0), (.int (-1))])]), (.tup [(.tup [(.int 0), (.int 0)]), (.tup [(.int 2), (.int 2)]), (.tup [(.int 1), (.int 1)])]), (.tup [(.tup [(.int 0), (.int 0)]), (.tup [(.int 0), (.int 0)]), (.tup [(.int 2), (.int 2)])])]), none]
def i3_4 : Fr := [some (.tup [(.tup [(.tup [(.int 0), (.int 0)]), (.tup [(.int 1), (.int 1)]), (.tup [(.int 0), (.int 0)])]), (.tup [(.tup [(.int 0), (.int 0)]), (.tup [(.int 2), (.int 2)]), (.tup [(.int 1), (.int 1)])]), (.tup [(.tup [(.int 0), (.int 0)]), (.tup [(.int 0), (.int 0)]), (.tup [(.int 2), (.int 2)])])]), some (.int 2), some (.tup [(.int 0), (.int (-1))]), some (.lst [(.tup [(.int 0), (.int 0)]), (.tup [(.int 0), (.int 0)]), (.tup [(.int 2), (.int 2)])]), some (.int 3), some (.lst [(.tup [(.int 0), (.int 0)]), (.tup [(.int 1), (.int 1)]), (.tup [(.int 0), (.int 0)]), (.tup [(.int 0), (.int (-1))]), (.tup [(.int 2), (.int 2)]), (.tup [(.int 1), (.int 1)]), (.tup [(.int 0), (.int 0)]), (.tup [(.int 0), (.int 0)]), (.tup [(.int 2), (.int 2)])]), some (.tup [(.tup [(.tup [(.int 0), (.int 0)]), (.tup [(.int 1), (.int 1)]), (.tup [(.int 0), (.int 0)])]), (.tup [(.tup [(.int 0), (.int (-1))]), (.tup [(.int 2), (.int 2)]), (.tup [(.int 1), (.int 1)])]), (.tup [(.tup [(.int 0), (.int 0)]), (.tup [(.int 0), (.int 0)]), (.tup [(.int 2), (.int 2)])])]), none]
def i3_5 : Fr := [some (.tup [(.tup [(.tup [(.int 0), (.int 0)]), (.tup [(.int 1), (.int 1)]), (.tup [(.int 0), (.int 0)])]), (.tup [(.tup [(.int 0), (.int 0)]), (.tup [(.int 2), (.int 2)]), (.tup [(.int 1), (.int 1)])]), (.tup [(.tup [(.int 0), (.int 0)]), (.tup [(.int 0), (.int 0)]), (.tup [(.int 2), (.int 2)])])]), some (.int 2), some (.tup [(.int 0), (.int (-1))]), some (.lst [(.tup [(.int 0), (.int 0)]), (.tup [(.int 0), (.int 0)]), (.tup [(.int 2), (.int 2)])]), some (.int 4), some (.lst [(.tup [(.int 0), (.int 0)]), (.tup [(.int 1), (.int 1)]), (.tup [(.int 0), (.int 0)]), (.tup [(.int 0), (.int 0)]), (.tup [(.int 0), (.int (-1))]), (.tup [(.int 1), (.int 1)]), (.tup [(.int 0), (.int 0)]), (.tup [(.int 0), (.int 0)]), (.tup [(.int 2), (.int 2)])]), some (.tup [(.tup [(.tup [(.int 0), (.int 0)]), (.tup [(.int 1), (.int 1)]), (.tup [(.int 0), (.int 0)])]), (.tup [(.tup [(.int 0), (.int 0)]), (.tup [(.int 0), (.int (-1))]), (.tup [(.int 1), (.int 1)])]), (.tup [(.tup [(.int 0), (.int 0)]), (.tup [(.int 0), (.int 0)]), (.tup [(.int 2), (.int 2)])])]), none]
def i3_6 : Fr := [some (.tup [(.tup [(.tup [(.int 0), (.int 0)]), (.tup [(.int 1), (.int 1)]), (.tup [(.int 0), (.int 0)])]), (.tup [(.tup [(.int 0), (.int 0)]), (.tup [(.int 2), (.int 2)]), (.tup [(.int 1), (.int 1)])]), (.tup [(.tup [(.int 0), (.int 0)]), (.tup [(.int 0), (.int 0)]), (.tup [(.int 2), (.int 2)])])]), some (.int 2), some (.tup [(.int 0), (.int (-1))]), some (.lst [(.tup [(.int 0), (.int 0)]), (.tup [(.int 0), (.int 0)]), (.tup [(.int 2), (.int 2)])]), some (.int 5), some (.lst [(.tup [(.int 0), (.int 0)]), (.tup [(.int 1), (.int 1)]), (.tup [(.int 0), (.int 0)]), (.tup [(.int 0), (.int 0)]), (.tup [(.int 2), (.int 2)]), (.tup [(.int 0), (.int (-1))]), (.tup [(.int 0), (.int 0)]), (.tup [(.int 0), (.int 0)]), (.tup [(.int 2), (.int 2)])]), some (.tup [(.tup [(.tup [(.int 0), (.int 0)]), (.tup [(.int 1), (.int 1)]), (.tup [(.int 0), (.int 0)])]), (.tup [(.tup [(.int 0), (.int 0)]), (.tup [(.int 2), (.int 2)]), (.tup [(.int 0), (.int (-1))])]), (.tup [(.tup [(.int 0), (.int 0)]), (.tup [(.int 0), (.int 0)]), (.tup [(.int 2), (.int 2)])])]), none]
def i3_7 : Fr := [some (.tup [(.tup [(.tup [(.int 0), (.int 0)]), (.tup [(.int 1), (.int 1)]), (.tup [(.int 0), (.int 0)])]), (.tup [(.tup [(.int 0), (.int 0)]), (.tup [(.int 2), (.int 2)]), (.tup [(.int 1), (.int 1)])]), (.tup [(.tup [(.int 0), (.int 0)]), (.tup [(.int 0), (.int 0)]), (.tup [(.int 2), (.int 2)])])]), some (.int 2), some (.tup [(.int 0), (.int (-1))]), some (.lst [(.tup [(.int 0), (.int 0)]), (.tup [(.int 0), (.int 0)]), (.tup [(.int 2), (.int 2)])]), some (.int 6), some (.lst [(.tup [(.int 0), (.int 0)]), (.tup [(.int 1), (.int 1)]), (.tup [(.int 0), (.int 0)]), (.tup [(.int 0), (.int 0)]), (.tup [(.int 2), (.int 2)]), (.tup [(.int 1), (.int 1)]), (.tup [(.int 0), (.int (-1))]), (.tup [(.int 0), (.int 0)]), (.tup [(.int 2), (.int 2)])]), some (.tup [(.tup [(.tup [(.int 0), (.int 0)]), (.tup [(.int 1), (.int 1)]), (.tup [(.int 0), (.int 0)])]), (.tup [(.tup [(.int 0), (.int 0)]), (.tup [(.int 2), (.int 2)]), (.tup [(.int 1), (.int 1)])]), (.tup [(.tup [(.int 0), (.int (-1))]), (.tup [(.int 0), (.int 0)]), (.tup [(.int 2), (.int 2)])])]), none]
def i3_8 : Fr := [some (.tup [(.tup [(.tup [(.int 0), (.int 0)]), (.tup [(.int 1), (.int 1)]), (.tup [(.int 0), (.int 0)])]), (.tup [(.tup [(.int 0), (.int 0)]), (.tup [(.int 2), (.int 2)]), (.tup [(.int 1), (.int 1)])]), (.tup [(.tup [(.int 0), (.int 0)]), (.tup [(.int 0), (.int 0)]), (.tup [(.int 2), (.int 2)])])]), some (.int 2), some (.tup [(.int 0), (.int (-1))]), some (.lst [(.tup [(.int 0), (.int 0)]), (.tup [(.int 0), (.int 0)]), (.tup [(.int 2), (.int 2)])]), some (.int 7), some (.lst [(.tup [(.int 0), (.int 0)]), (.tup [(.int 1), (.int 1)]), (.tup [(.int 0), (.int 0)]), (.tup [(.int 0), (.int 0)]), (.tup [(.int 2), (.int 2)]), (.tup [(.int 1), (.int 1)]), (.tup [(.int 0), (.int 0)]), (.tup [(.int 0), (.int (-1))]), (.tup [(.int 2), (.int 2)])]), some (.tup [(.tup [(.tup [(.int 0), (.int 0)]), (.tup [(.int 1), (.int 1)]), (.tup [(.int 0), (.int 0)])]), (.tup [(.tup [(.int 0), (.int 0)]), (.tup [(.int 2), (.int 2)]), (.tup [(.int 1), (.int 1)])]), (.tup [(.tup [(.int 0), (.int 0)]), (.tup [(.int 0), (.int (-1))]), (.tup [(.int 2), (.int 2)])])]), none]
def i4_0 : Fr := [some (.tup [(.tup [(.tup [(.int 0), (.int 0)]), (.tup [(.int 1), (.int 1)]), (.tup [(.int 0), (.int 0)])]), (.tup [(.tup [(.int 0), (.int 0)]), (.tup [(.int 2), (.int 2)]), (.tup [(.int 1), (.int 1)])]), (.tup [(.tup [(.int 0), (.int 0)]), (.tup [(.int 0), (.int 0)]), (.tup [(.int 2), (.int 2)])])]), some (.int 2), some (.tup [(.int 0), (.bl true)]), some (.lst [(.tup [(.int 0), (.int 0)]), (.tup [(.int 0), (.int 0)]), (.tup [(.int 2), (.int 2)])]), some (.int 8), some (.lst [(.tup [(.int 0), (.int 0)]), (.tup [(.int 1), (.int 1)]), (.tup [(.int 0), (.int 0)]), (.tup [(.int 0), (.int 0)]), (.tup [(.int 2), (.int 2)]), (.tup [(.int 1), (.int 1)]), (.tup [(.int 0), (.int 0)]), (.tup [(.int 0), (.int 0)]), (.tup [(.int 0), (.int (-1))])]), some (.tup [(.tup [(.tup [(.int 0), (.int 0)]), (.tup [(.int 1), (.int 1)]), (.tup [(.int 0), (.int 0)])]), (.tup [(.tup [(.int 0), (.int 0)]), (.tup [(.int 2), (.int 2)]), (.tup [(.int 1), (.int 1)])]), (.tup [(.tup [(.int 0), (.int 0)]), (.tup [(.int 0), (.int 0)]), (.tup [(.int 0), (.int (-1))])])]), none]
def i4_1 : Fr := [some (.tup [(.tup [(.tup [(.int 0), (.int 0)]), (.tup [(.int 1), (.int 1)]), (.tup [(.int 0), (.int 0)])]), (.tup [(.tup [(.int 0), (.int 0)]), (.tup [(.int 2), (.int 2)]), (.tup [(.int 1), (.int 1)])]), (.tup [(.tup [(.int 0), (.int 0)]), (.tup [(.int 0), (.int 0)]), (.tup [(.int 2), (.int 2)])])]), some (.int 2), some (.tup [(.int 0), (.bl true)]), some (.lst [(.tup [(.int 0), (.int 0)]), (.tup [(.int 0), (.int 0)]), (.tup [(.int 2), (.int 2)])]), some (.int 0), some (.lst [(.tup [(.int 0), (.bl true)]), (.tup [(.int 1), (.int 1)]), (.tup [(.int 0), (.int 0)]), (.tup [(.int 0), (.int 0)]), (.tup [(.int 2), (.int 2)]), (.tup [(.int 1), (.int 1)]), (.tup [(.int 0), (.int 0)]), (.tup [(.int 0), (.int 0)]), (.tup [(.int 2), (.int 2)])]), some (.tup [(.tup [(.tup [(.int 0), (.bl true)]), (.tup [(.int 1), (.int 1)]), (.tup [(.int 0), (.int 0)])]), (.tup [(.tup [(.int 0), (.int 0)]), (.tup [(.int 2), (.int 2)]), (.tup [(.int 1), (.int 1)])]), (.tup [(.tup [(.int 0), (.int 0)]), (.tup [(.int 0), (.int 0)]), (.tup [(.int 2), (.int 2)])])]), none]
def i4_2 : Fr := [some (.tup [(.tup [(.tup [(.int 0), (.int 0)]), (.tup [(.int 1), (.int 1)]), (.tup [(.int 0), (.int 0)])]), (.tup [(.tup [(.int 0), (.int 0)]), (.tup [(.int 2), (.int 2)]), (.tup [(.int 1), (.int 1)])]), (.tup [(.tup [(.int 0), (.int 0)]), (.tup [(.int 0), (.int 0)]), (.tup [(.int 2), (.int 2)])])]), some (.int 2), some (.tup [(.int 0), (.bl true)]), some (.lst [(.tup [(.int 0), (.int 0)]), (.tup [(.int 0), (.int 0)]), (.tup [(.int 2), (.int 2)])]), some (.int 1), some (.lst [(.tup [(.int 0), (.int 0)]), (.tup [(.int 0), (.bl true)]), (.tup [(.int 0), (.int 0)]), (.tup [(.int 0), (.int 0)]), (.tup [(.int 2), (.int 2)]), (.tup [(.int 1), (.int 1)]), (.tup [(.int 0), (.int 0)]), (.tup [(.int 0), (.int 0)]), (.tup [(.int 2), (.int 2)])]), some (.tup [(.tup [(.tup [(.int 0), (.int 0)]), (.tup [(.int 0), (.bl true)]), (.tup [(.int 0), (.int 0)])]), (.tup [(.tup [(.int 0), (.int 0)]), (.tup [(.int 2), (.int 2)]), (.tup [(.int 1), (.int 1)])]), (.tup [(.tup [(.int 0), (.int 0)]), (.tup [(.int 0), (.int 0)]), (.tup [(.int 2), (.int 2)])])]), none]
def i4_3 : Fr := [some (.tup [(.tup [(.tup [(.int 0), (.int 0)]), (.tup [(.int 1), (.int 1)]), (.tup [(.int 0), (.int 0)])]), (.tup [(.tup [(.int 0), (.int 0)]), (.tup [(.int 2), (.int 2)]), (.tup [(.int 1), (.int 1)])]), (.tup [(.tup [(.int 0), (.int 0)]), (.tup [(.int 0), (.int 0)]), (.tup [(.int 2), (.int 2)])])]), some (.int 2), some (.tup [(.int 0), (.bl true)]), some (.lst [(.tup [(.int 0), (.int 0)]), (.tup [(.int 0), (.int 0)]), (.tup [(.int 2), (.int 2)])]), some (.int 2), some (.lst [(.tup [(.int 0), (.int 0)]), (.tup [(.int 1), (.int 1)]), (.tup [(.int 0), (.bl true)]), (.tup [(.int 0), (.int 0)]), (.tup [(.int 2), (.int 2)]), (.tup [(.int 1), (.int 1)]), (.tup [(.int 0), (.int 0)]), (.tup [(.int 0), (.int 0)]), (.tup [(.int 2), (.int 2)])]), some (.tup [(.tup [(.tup [(.int 0), (.int 0)]), (.tup [(.int 1), (.int 1)]), (.tup [(.int 0), (.bl true)])]), (.tup [(.tup [(.int 0), (.int 0)]), (.tup [(.int 2), (.int 2)]), (.tup [(.int 1), (.int 1)])]), (.tup [(.tup [(.int 0), (.int 0)]), (.tup [(.int 0), (.int 0)]), (.tup [(.int 2), (.int 2)])])]), none]
def i4_4 : Fr := [some (.tup [(.tup [(.tup [(.int 0), (.int 0)]), (.tup [(.int 1), (.int 1)]), (.tup [(.int 0), (.int 0)])]), (.tup [(.tup [(.int 0), (.int 0)]), (.tup [(.int 2), (.int 2)]), (.tup [(.int 1), (.int 1)])]), (.tup [(.tup [(.int 0), (.int 0)]), (.tup [(.int 0), (.int 0)]), (.tup [(.int 2), (.int 2)])])]), some (.int 2), some (.tup [(.int 0), (.bl true)]), some (.lst [(.tup [(.int 0), (.int 0)]), (.tup [(.int 0), (.int 0)]), (.tup [(.int 2), (.int 2)])]), some (.int 3), some (.lst [(.tup [(.int 0), (.int 0)]), (.tup [(.int 1), (.int 1)]), (.tup [(.int 0), (.int 0)]), (.tup [(.int 0), (.bl true)]), (.tup [(.int 2), (.int 2)]), (.tup [(.int 1), (.int 1)]), (.tup [(.int 0), (.int 0)]), (.tup [(.int 0), (.int 0)]), (.tup [(.int 2), (.int 2)])]), some (.tup [(.tup [(.tup [(.int 0), (.int 0)]), (.tup [(.int 1), (.int 1)]), (.tup [(.int 0), (.int 0)])]), (.tup [(.tup [(.int 0), (.bl true)]), (.tup [(.int 2), (.int 2)]), (.tup [(.int 1), (.int 1)])]), (.tup [(.tup [(.int 0), (.int 0)]), (.tup [(.int 0), (.int 0)]), (.tup [(.int 2), (.int 2)])])]), none]
def i4_5 : Fr := [some (.tup [(.tup [(.tup [(.int 0), (.int 0)]), (.tup [(.int 1), (.int 1)]), (.tup [(.int 0), (.int 0)])]), (.tup [(.tup [(.int 0), (.int 0)]), (.tup [(.int 2), (.int 2)]), (.tup [(.int 1), (.int 1)])]), (.tup [(.tup [(.int 0), (.int 0)]), (.tup [(.int 0), (.int 0)]), (.tup [(.int 2), (.int 2)])])]), some (.int 2), some (.tup [(.int 0), (.bl true)]), some (.lst [(.tup [(.int 0), (.int 0)]), (.tup [(.int 0), (.int 0)]), (.tup [(.int 2), (.int 2)])]), some (.int 4), some (.lst [(.tup [(.int 0), (.int 0)]), (.tup [(.int 1), (.int 1)]), (.tup [(.int 0), (.int 0)]), (.tup [(.int 0), (.int 0)]), (.tup [(.int 0), (.bl true)]), (.tup [(.int 1), (.int 1)]), (.tup [(.int 0), (.int 0)]), (.tup [(.int 0), (.int 0)]), (.tup [(.int 2), (.int 2)])]), some (.tup [(.tup [(.tup [(.int 0), (.int 0)]), (.tup [(.int 1), (.int 1)]), (.tup [(.int 0), (.int 0)])]), (.tup [(.tup [(.int 0), (.int 0)]), (.tup [(.int 0), (.bl true)]), (.tup [(.int 1), (.int 1)])]), (.tup [(.tup [(.int 0), (.int 0)]), (.tup [(.int 0), (.int 0)]), (.tup [(.int 2), (.int 2)])])]), none]
def i4_6 : Fr := [some (.tup [(.tup [(.tup [(.int 0), (.int 0)]), (.tup [(.int 1), (.int 1)]), (.tup [(.int 0), (.int 0)])]), (.tup [(.tup [(.int 0), (.int 0)]), (.tup [(.int 2), (.int 2)]), (.tup [(.int 1), (.int 1)])]), (.tup [(.tup [(.int 0), (.int 0)]), (.tup [(.int 0), (.int 0)]), (.tup [(.int 2), (.int 2)])])]), some (.int 2), some (.tup [(.int 0), (.bl true)]), some (.lst [(.tup [(.int 0), (.int 0)]), (.tup [(.int 0), (.int 0)]), (.tup [(.int 2), (.int 2)])]), some (.int 5), some (.lst [(.tup [(.int 0), (.int 0)]), (.tup [(.int 1), (.int 1)]), (.tup [(.int 0), (.int 0)]), (.tup [(.int 0), (.int 0)]), (.tup [(.int 2), (.int 2)]), (.tup [(.int 0), (.bl true)]), (.tup [(.int 0), (.int 0)]), (.tup [(.int 0), (.int 0)]), (.tup [(.int 2), (.int 2)])]), some (.tup [(.tup [(.tup [(.int 0), (.int 0)]), (.tup [(.int 1), (.int 1)]), (.tup [(.int 0), (.int 0)])]), (.tup [(.tup [(.int 0), (.int 0)]), (.tup [(.int 2), (.int 2)]), (.tup [(.int 0), (.bl true)])]), (.tup [(.tup [(.int 0), (.int 0)]), (.tup [(.int 0), (.int 0)]), (.tup [(.int 2), (.int 2)])])]), none]
def i4_7 : Fr := [some (.tup [(.tup [(.tup [(.int 0), (.int 0)]), (.tup [(.int 1), (.int 1)]), (.tup [(.int 0), (.int 0)])]), (.tup [(.tup [(.int 0), (.int 0)]), (.tup [(.int 2), (.int 2)]), (.tup [(.int 1), (.int 1)])]), (.tup [(.tup [(.int 0), (.int 0)]), (.tup [(.int 0), (.int 0)]), (.tup [(.int 2), (.int 2)])])]), some (.int 2), some (.tup [(.int 0), (.bl true)]), some (.lst [(.tup [(.int 0), (.int 0)]), (.tup [(.int 0), (.int 0)]), (.tup [(.int 2), (.int 2)])]), some (.int 6), some (.lst [(.tup [(.int 0), (.int 0)]), (.tup [(.int 1), (.int 1)]), (.tup [(.int 0), (.int 0)]), (.tup [(.int 0), (.int 0)]), (.tup [(.int 2), (.int 2)]), (.tup [(.int 1), (.int 1)]), (.tup [(.int 0), (.bl true)]), (.tup [(.int 0), (.int 0)]), (.tup [(.int 2), (.int 2)])]), some (.tup [(.tup [(.tup [(.int 0), (.int 0)]), (.tup [(.int 1), (.int 1)]), (.tup [(.int 0), (.int 0)])]), (.tup [(.tup [(.int 0), (.int 0)]), (.tup [(.int 2), (.int 2)]), (.tup [(.int 1), (.int 1)])]), (.tup [(.tup [(.int 0), (.bl true)]), (.tup [(.int 0), (.int 0)]), (.tup [(.int 2), (.int 2)])])]), none]
def i4_8 : Fr := [some (.tup [(.tup [(.tup [(.int 0), (.int 0)]), (.tup [(.int 1), (.int 1)]), (.tup [(.int 0), (.int 0)])]), (.tup [(.tup [(.int 0), (.int 0)]), (.tup [(.int 2), (.int 2)]), (.tup [(.int 1), (.int 1)])]), (.tup [(.tup [(.int 0), (.int 0)]), (.tup [(.int 0), (.int 0)]), (.tup [(.int 2), (.int 2)])])]), some (.int 2), some (.tup [(.int 0), (.bl true)]), some (.lst [(.tup [(.int 0), (.int 0)]), (.tup [(.int 0), (.int 0)]), (.tup [(.int 2), (.int 2)])]), some (.int 7), some (.lst [(.tup [(.int 0), (.int 0)]), (.tup [(.int 1), (.int 1)]), (.tup [(.int 0), (.int 0)]), (.tup [(.int 0), (.int 0)]), (.tup [(.int 2), (.int 2)]), (.tup [(.int 1), (.int 1)]), (.tup [(.int 0), (.int 0)]), (.tup [(.int 0), (.bl true)]), (.tup [(.int 2), (.int 2)])]), some (.tup [(.tup [(.tup [(.int 0), (.int 0)]), (.tup [(.int 1), (.int 1)]), (.tup [(.int 0), (.int 0)])]), (.tup [(.tup [(.int 0), (.int 0)]), (.tup [(.int 2), (.int 2)]), (.tup [(.int 1), (.int 1)])]), (.tup [(.tup [(.int 0), (.int 0)]), (.tup [(.int 0), (.bl true)]), (.tup [(.int 2), (.int 2)])])]), none]
def i5_0 : Fr := [some (.tup [(.tup [(.tup [(.int 0), (.int 0)]), (.tup [(.int 1), (.int 1)]), (.tup [(.int 0), (.int 0)])]), (.tup [(.tup [(.int 0), (.int 0)]), (.tup [(.int 2), (.int 2)]), (.tup [(.int 1), (.int 1)])]), (.tup [(.tup [(.int 0), (.int 0)]), (.tup [(.int 0), (.int 0)]), (.tup [(.int 2), (.int 2)])])]), some (.int 2), some (.tup [(.bl true), (.int 0)]), some (.lst [(.tup [(.int 0), (.int 0)]), (.tup [(.int 0), (.int 0)]), (.tup [(.int 2), (.int 2)])]), some (.int 8), some (.lst [(.tup [(.int 0), (.int 0)]), (.tup [(.int 1), (.int 1)]), (.tup [(.int 0), (.int 0)]), (.tup [(.int 0), (.int 0)]), (.tup [(.int 2), (.int 2)]), (.tup [(.int 1), (.int 1)]), (.tup [(.int 0), (.int 0)]), (.tup [(.int 0), (.int 0)]), (.tup [(.int 0), (.bl true)])]), some (.tup [(.tup [(.tup [(.int 0), (.int 0)]), (.tup [(.int 1), (.int 1)]), (.tup [(.int 0), (.int 0)])]), (.tup [(.tup [(.int 0), (.int 0)]), (.tup [(.int 2), (.int 2)]), (.tup [(.int 1), (.int 1)])]), (.tup [(.tup [(.int 0), (.int 0)]), (.tup [(.int 0), (.int 0)]), (.tup [(.int 0), (.bl true)])])]), none]
def i5_1 : Fr := [some (.tup [(.tup [(.tup [(.int 0), (.int 0)]), (.tup [(.int 1), (.int 1)]), (.tup [(.int 0), (.int 0)])]), (.tup [(.tup [(.int 0), (.int 0)]), (.tup [(.int 2), (.int 2)]), (.tup [(.int 1), (.int 1)])]), (.tup [(.tup [(.int 0), (.int 0)]), (.tup [(.int 0), (.int 0)]), (.tup [(.int 2), (.int 2)])])]), some (.int 2), some (.tup [(.bl true), (.int 0)]), some (.lst [(.tup [(.int 0), (.int 0)]), (.tup [(.int 0), (.int 0)]), (.tup [(.int 2), (.int 2)])]), some (.int 0), some (.lst [(.tup [(.bl true), (.int 0)]), (.tup [(.int 1), (.int 1)]), (.tup [(.int 0), (.int 0)]), (.tup [(.int 0), (.int 0)]), (.tup [(.int 2), (.int 2)]), (.tup [(.int 1), (.int 1)]), (.tup [(.int 0), (.int 0)]), (.tup [(.int 0), (.int 0)]), (.tup [(.int 2), (.int 2)])]), some (.tup [(.tup [(.tup [(.bl true), (.int 0)]), (.tup [(.int 1), (.int 1)]), (.tup [(.int 0), (.int 0)])]), (.tup [(.tup [(.int 0), (.int 0)]), (.tup [(.int 2), (.int 2)]), (.tup [(.int 1), (.int 1)])]), (.tup [(.tup [(.int 0), (.int 0)]), (.tup [(.int 0), (.int 0)]), (.tup [(.int 2), (.int 2)])])]), none]
def i5_2 : Fr := [some (.tup [(.tup [(.tup [(.int 0), (.int 0)]), (.tup [(.int 1), (.int 1)]), (.tup [(.int 0), (.int 0)])]), (.tup [(.tup [(.int 0), (.int 0)]), (.tup [(.int 2), (.int 2)]), (.tup [(.int 1), (.int 1)])]), (.tup [(.tup [(.int 0), (.int 0)]), (.tup [(.int 0), (.int 0)]), (.tup [(.int 2), (.int 2)])])]), some (.int 2), some (.tup [(.bl true), (.int 0)]), some (.lst [(.tup [(.int 0), (.int 0)]), (.tup [(.int 0), (.int 0)]), (.tup [(.int 2), (.int 2)])]), some (.int 1), some (.lst [(.tup [(.int 0), (.int 0)]), (.tup [(.bl true), (.int 0)]), (.tup [(.int 0), (.int 0)]), (.tup [(.int 0), (.int 0)]), (.tup [(.int 2), (.int 2)]), (.tup [(.int 1), (.int 1)]), (.tup [(.int 0), (.int 0)]), (.tup [(.int 0), (.int 0)]), (.tup [(.int 2), (.int 2)])]), some (.tup [(.tup [(.tup [(.int 0), (.int 0)]), (.tup [(.bl true), (.int 0)]), (.tup [(.int 0), (.int 0)])]), (.tup [(.tup [(.int 0), (.int 0)]), (.tup [(.int 2), (.int 2)]), (.tup [(.int 1), (.int 1)])]), (.tup [(.tup [(.int 0), (.int 0)]), (.tup [(.int 0), (.int 0)]), (.tup [(.int 2), (.int 2)])])]), none]
def i5_3 : Fr := [some (.tup [(.tup [(.tup [(.int 0), (.int 0)]), (.tup [(.int 1), (.int 1)]), (.tup [(.int 0), (.int 0)])]), (.tup [(.tup [(.int 0), (.int 0)]), (.tup [(.int 2), (.int 2)]), (.tup [(.int 1), (.int 1)])]), (.tup [(.tup [(.int 0), (.int 0)]), (.tup [(.int 0), (.int 0)]), (.tup [(.int 2), (.int 2)])])]), some (.int 2), some (.tup [(.bl true), (.int 0)]), some (.lst [(.tup [(.int 0), (.int 0)]), (.tup [(.int 0), (.int 0)]), (.tup [(.int 2), (.int 2)])]), some (.int 2), some (.lst [(.tup [(.int 0), (.int 0)]), (.tup [(.int 1), (.int 1)]), (.tup [(.bl true), (.int 0)]), (.tup [(.int 0), (.int 0)]), (.tup [(.int 2), (.int 2)]), (.tup [(.int 1), (.int 1)]), (.tup [(.int 0), (.int 0)]), (.tup [(.int 0), (.int 0)]), (.tup [(.int 2), (.int 2)])]), some (.tup [(.tup [(.tup [(.int 0), (.int 0)]), (.tup [(.int 1), (.int 1)]), (.tup [(.bl true), (.int 0)])]), (.tup [(.tup [(.int 0), (.int 0)]), (.tup [(.int 2), (.int 2)]), (.tup [(.int 1), (.int 1)])]), (.tup [(.tup [(.int 0), (.int 0)]), (.tup [(.int 0), (.int 0)]), (.tup [(.int 2), (.int 2)])])]), none]
def i5_4 : Fr := [some (.tup [(.tup [(.tup [(.int 0), (.int 0)]), (.tup [(.int 1), (.int 1)]), (.tup [(.int 0), (.int 0)])]), (.tup [(.tup [(.int 0), (.int 0)]), (.tup [(.int 2), (.int 2)]), (.tup [(.int 1), (.int 1)])]), (.tup [(.tup [(.int 0), (.int 0)]), (.tup [(.int 0), (.int 0)]), (.tup [(.int 2), (.int 2)])])]), some (.int 2), some (.tup [(.bl true), (.int 0)]), some (.lst [(.tup [(.int 0), (.int 0)]), (.tup [(.int 0), (.int 0)]), (.tup [(.int 2), (.int 2)])]), some (.int 3), some (.lst [(.tup [(.int 0), (.int 0)]), (.tup [(.int 1), (.int 1)]), (.tup [(.int 0), (.int 0)]), (.tup [(.bl true), (.int 0)]), (.tup [(.int 2), (.int 2)]), (.tup [(.int 1), (.int 1)]), (.tup [(.int 0), (.int 0)]), (.tup [(.int 0), (.int 0)]), (.tup [(.int 2), (.int 2)])]), some (.tup [(.tup [(.tup [(.int 0), (.int 0)]), (.tup [(.int 1), (.int 1)]), (.tup [(.int 0), (.int 0)])]), (.tup [(.tup [(.bl true), (.int 0)]), (.tup [(.int 2), (.int 2)]), (.tup [(.int 1), (.int 1)])]), (.tup [(.tup [(.int 0), (.int 0)]), (.tup [(.int 0), (.int 0)]), (.tup [(.int 2), (.int 2)])])]), none]
def i5_5 : Fr := [some (.tup [(.tup [(.tup [(.int 0), (.int 0)]), (.tup [(.int 1), (.int 1)]), (.tup [(.int 0), (.int 0)])]), (.tup [(.tup [(.int 0), (.int 0)]), (.tup [(.int 2), (.int 2)]), (.tup [(.int 1), (.int 1)])]), (.tup [(.tup [(.int 0), (.int 0)]), (.tup [(.int 0), (.int 0)]), (.tup [(.int 2), (.int 2)])])]), some (.int 2), some (.tup [(.bl true), (.int 0)]), some (.lst [(.tup [(.int 0), (.int 0)]), (.tup [(.int 0), (.int 0)]), (.tup [(.int 2), (.int 2)])]), some (.int 4), some (.lst [(.tup [(.int 0), (.int 0)]), (.tup [(.int 1), (.int 1)]), (.tup [(.int 0), (.int 0)]), (.tup [(.int 0), (.int 0)]), (.tup [(.bl true), (.int 0)]), (.tup [(.int 1), (.int 1)]), (.tup [(.int 0), (.int 0)]), (.tup [(.int 0), (.int 0)]), (.tup [(.int 2), (.int 2)])]), some (.tup [(.tup [(.tup [(.int 0), (.int 0)]), (.tup [(.int 1), (.int 1)]), (.tup [(.int 0), (.int 0)])]), (.tup [(.tup [(.int 0), (.int 0)]), (.tup [(.bl true), (.int 0)]), (.tup [(.int 1), (.int 1)])]), (.tup [(.tup [(.int 0), (.int 0)]), (.tup [(.int 0), (.int 0)]), (.tup [(.int 2), (.int 2)])])]), none]
def i5_6 : Fr := [some (.tup [(.tup [(.tup [(.int 0), (.int 0)]), (.tup [(.int 1), (.int 1)]), (.tup [(.int 0), (.int 0)])]), (.tup [(.tup [(.int 0), (.int 0)]), (.tup [(.int 2), (.int 2)]), (.tup [(.int 1), (.int 1)])]), (.tup [(.tup [(.int 0), (.int 0)]), (.tup [(.int 0), (.int 0)]), (.tup [(.int 2), (.int 2)])])]), some (.int 2), some (.tup [(.bl true), (.int 0)]), some (.lst [(.tup [(.int 0), (.int 0)]), (.tup [(.int 0), (.int 0)]), (.tup [(.int 2), (.int 2)])]), some (.int 5), some (.lst [(.tup [(.int 0), (.int 0)]), (.tup [(.int 1), (.int 1)]), (.tup [(.int 0), (.int 0)]), (.tup [(.int 0), (.int 0)]), (.tup [(.int 2), (.int 2)]), (.tup [(.bl true), (.int 0)]), (.tup [(.int 0), (.int 0)]), (.tup [(.int 0), (.int 0)]), (.tup [(.int 2), (.int 2)])]), some (.tup [(.tup [(.tup [(.int 0), (.int 0)]), (.tup [(.int 1), (.int 1)]), (.tup [(.int 0), (.int 0)])]), (.tup [(.tup [(.int 0), (.int 0)]), (.tup [(.int 2), (.int 2)]), (.tup [(.bl true), (.int 0)])]), (.tup [(.tup [(.int 0), (.int 0)]), (.tup [(.int 0), (.int 0)]), (.tup [(.int 2), (.int 2)])])]), none]
def i5_7 : Fr := [some (.tup [(.tup [(.tup [(.int 0), (.int 0)]), (.tup [(.int 1), (.int 1)]), (.tup [(.int 0), (.int 0)])]), (.tup [(.tup [(.int 0), (.int 0)]), (.tup [(.int 2), (.int 2)]), (.tup [(.int 1), (.int 1)])]), (.tup [(.tup [(.int 0), (.int 0)]), (.tup [(.int 0), (.int 0)]), (.tup [(.int 2), (.int 2)])])]), some (.int 2), some (.tup [(.bl true), (.int 0)]), some (.lst [(.tup [(.int 0), (.int 0)]), (.tup [(.int 0), (.int 0)]), (.tup [(.int 2), (.int 2)])]), some (.int 6), some (.lst [(.tup [(.int 0), (.int 0)]), (.tup [(.int 1), (.int 1)]), (.tup [(.int 0), (.int 0)]), (.tup [(.int 0), (.int 0)]), (.tup [(.int 2), (.int 2)]), (.tup [(.int 1), (.int 1)]), (.tup [(.bl true), (.int 0)]), (.tup [(.int 0), (.int 0)]), (.tup [(.int 2), (.int 2)])]), some (.tup [(.tup [(.tup [(.int 0), (.int 0)]), (.tup [(.int 1), (.int 1)]), (.tup [(.int 0), (.int 0)])]), (.tup [(.tup [(.int 0), (.int 0)]), (.tup [(.int 2), (.int 2)]), (.tup [(.int 1), (.int 1)])]), (.tup [(.tup [(.bl true), (.int 0)]), (.tup [(.int 0), (.int 0)]), (.tup [(.int 2), (.int 2)])])]), none]
def i5_8 : Fr := [some (.tup [(.tup [(.tup [(.int 0), (.int 0)]), (.tup [(.int 1), (.int 1)]), (.tup [(.int 0), (.int 0)])]), (.tup [(.tup [(.int 0), (.int 0)]), (.tup [(.int 2), (.int 2)]), (.tup [(.int 1), (.int 1)])]), (.tup [(.tup [(.int 0), (.int 0)]), (.tup [(.int 0), (.int 0)]), (.tup [(.int 2), (.int 2)])])]), some (.int 2), some (.tup [(.bl true), (.int 0)]), some (.lst [(.tup [(.int 0), (.int 0)]), (.tup [(.int 0), (.int 0)]), (.tup [(.int 2), (.int 2)])]), some (.int 7), some (.lst [(.tup [(.int 0), (.int 0)]), (.tup [(.int 1), (.int 1)]), (.tup [(.int 0), (.int 0)]), (.tup [(.int 0), (.int 0)]), (.tup [(.int 2), (.int 2)]), (.tup [(.int 1), (.int 1)]), (.tup [(.int 0), (.int 0)]), (.tup [(.bl true), (.int 0)]), (.tup [(.int 2), (.int 2)])]), some (.tup [(.tup [(.tup [(.int 0), (.int 0)]), (.tup [(.int 1), (.int 1)]), (.tup [(.int 0), (.int 0)])]), (.tup [(.tup [(.int 0), (.int 0)]), (.tup [(.int 2), (.int 2)]), (.tup [(.int 1), (.int 1)])]), (.tup [(.tup [(.int 0), (.int 0)]), (.tup [(.bl true), (.int 0)]), (.tup [(.int 2), (.int 2)])])]), none]
def i6_0 : Fr := [some (.tup [(.tup [(.tup [(.int 0), (.int 0)]), (.tup [(.int 1), (.int 1)]), (.tup [(.int 0), (.int 0)])]), (.tup [(.tup [(.int 0), (.int 0)]), (.tup [(.int 2), (.int 2)]), (.tup [(.int 1), (.int 1)])]), (.tup [(.tup [(.int 0), (.int 0)]), (.tup [(.int 0), (.int 0)]), (.tup [(.int 2), (.int 2)])])]), some (.int 2), some (.tup [(.int 0)]), some (.lst [(.tup [(.int 0), (.int 0)]), (.tup [(.int 0), (.int 0)]), (.tup [(.int 2), (.int 2)])]), some (.int 8), some (.lst [(.tup [(.int 0), (.int 0)]), (.tup [(.int 1), (.int 1)]), (.tup [(.int 0), (.int 0)]), (.tup [(.int 0), (.int 0)]), (.tup [(.int 2), (.int 2)]), (.tup [(.int 1), (.int 1)]), (.tup [(.int 0), (.int 0)]), (.tup [(.int 0), (.int 0)]), (.tup [(.bl true), (.int 0)])]), some (.tup [(.tup [(.tup [(.int 0), (.int 0)]), (.tup [(.int 1), (.int 1)]), (.tup [(.int 0), (.int 0)])]), (.tup [(.tup [(.int 0), (.int 0)]), (.tup [(.int 2), (.int 2)]), (.tup [(.int 1), (.int 1)])]), (.tup [(.tup [(.int 0), (.int 0)]), (.tup [(.int 0), (.int 0)]), (.tup [(.bl true), (.int 0)])])]), none]
def i6_1 : Fr := [some (.tup [(.tup [(.tup [(.int 0), (.int 0)]), (.tup [(.int 1), (.int 1)]), (.tup [(.int 0), (.int 0)])]), (.tup [(.tup [(.int 0), (.int 0)]), (.tup [(.int 2), (.int 2)]), (.tup [(.int 1), (.int 1)])]), (.tup [(.tup [(.int 0), (.int 0)]), (.tup [(.int 0), (.int 0)]), (.tup [(.int 2), (.int 2)])])]), some (.int 2), some (.tup [(.int 0)]), some (.lst [(.tup [(.int 0), (.int 0)]), (.tup [(.int 0), (.int 0)]), (.tup [(.int 2), (.int 2)])]), some (.int 0), some (.lst [(.tup [(.int 0)]), (.tup [(.int 1), (.int 1)]), (.tup [(.int 0), (.int 0)]), (.tup [(.int 0), (.int 0)]), (.tup [(.int 2), (.int 2)]), (.tup [(.int 1), (.int 1)]), (.tup [(.int 0), (.int 0)]), (.tup [(.int 0), (.int 0)]), (.tup [(.int 2), (.int 2)])]), some (.tup [(.tup [(.tup [(.int 0)]), (.tup [(.int 1), (.int 1)]), (.tup [(.int 0), (.int 0)])]), (.tup [(.tup [(.int 0), (.int 0)]), (.tup [(.int 2), (.int 2)]), (.tup [(.int 1), (.int 1)])]), (.tup [(.tup [(.int 0), (.int 0)]), (.tup [(.int 0), (.int 0)]), (.tup [(.int 2), (.int 2)])])]), none]
def i6_2 : Fr := [some (.tup [(.tup [(.tup [(.int 0), (.int 0)]), (.tup [(.int 1), (.int 1)]), (.tup [(.int 0), (.int 0)])]), (.tup [(.tup [(.int 0), (.int 0)]), (.tup [(.int 2), (.int 2)]), (.tup [(.int 1), (.int 1)])]), (.tup [(.tup [(.int 0), (.int 0)]), (.tup [(.int 0), (.int 0)]), (.tup [(.int 2), (.int 2)])])]), some (.int 2), some (.tup [(.int 0)]), some (.lst [(.tup [(.int 0), (.int 0)]), (.tup [(.int 0), (.int 0)]), (.tup [(.int 2), (.int 2)])]), some (.int 1), some (.lst [(.tup [(.int 0), (.int 0)]), (.tup [(.int 0)]), (.tup [(.int 0), (.int 0)]), (.tup [(.int 0), (.int 0)]), (.tup [(.int 2), (.int 2)]), (.tup [(.int 1), (.int 1)]), (.tup [(.int 0), (.int 0)]), (.tup [(.int 0), (.int 0)]), (.tup [(.int 2), (.int 2)])]), some (.tup [(.tup [(.tup [(.int 0), (.int 0)]), (.tup [(.int 0)]), (.tup [(.int 0), (.int 0)])]), (.tup [(.tup [(.int 0), (.int 0)]), (.tup [(.int 2), (.int 2)]), (.tup [(.int 1), (.int 1)])]), (.tup [(.tup [(.int 0), (.int 0)]), (.tup [(.int 0), (.int 0)]), (.tup [(.int 2), (.int 2)])])]), none]
def i6_3 : Fr := [some (.tup [(.tup [(.tup [(.int 0), (.int 0)]), (.tup [(.int 1), (.int 1)]), (.tup [(.int 0), (.int 0)])]), (.tup [(.tup [(.int 0), (.int 0)]), (.tup [(.int 2), (.int 2)]), (.tup [(.int 1), (.int 1)])]), (.tup [(.tup [(.int 0), (.int 0)]), (.tup [(.int 0), (.int 0)]), (.tup [(.int 2), (.int 2)])])]), some (.int 2), some (.tup [(.int 0)]), some (.lst [(.tup [(.int 0), (.int 0)]), (.tup [(.int 0), (.int 0)]), (.tup [(.int 2), (.int 2)])]), some (.int 2), some (.lst [(.tup [(.int 0), (.int 0)]), (.tup [(.int 1), (.int 1)]), (.tup [(.int 0)]), (.tup [(.int 0), (.int 0)]), (.tup [(.int 2), (.int 2)]), (.tup [(.int 1), (.int 1)]), (.tup [(.int 0), (.int 0)]), (.tup [(.int 0), (.int 0)]), (.tup [(.int 2), (.int 2)])]), some (.tup [(.tup [(.tup [(.int 0), (.int 0)]), (.tup [(.int 1), (.int 1)]), (.tup [(.int 0)])]), (.tup [(.tup [(.int 0), (.int 0)]), (.tup [(.int 2), (.int 2)]), (.tup [(.int 1), (.int 1)])]), (.tup [(.tup [(.int 0), (.int 0)]), (.tup [(.int 0), (.int 0)]), (.tup [(.int 2), (.int 2)])])]), none]
def i6_4 : Fr := [some (.tup [(.tup [(.tup [(.int 0), (.int 0)]), (.tup [(.int 1), (.int 1)]), (.tup [(.int 0), (.int 0)])]), (.tup [(.tup [(.int 0), (.int 0)]), (.tup [(.int 2), (.int 2)]), (.tup [(.int 1), (.int 1)])]), (.tup [(.tup [(.int 0), (.int 0)]), (.tup [(.int 0), (.int 0)]), (.tup [(.int 2), (.int 2)])])]), some (.int 2), some (.tup [(.int 0)]), some (.lst [(.tup [(.int 0), (.int 0)]), (.tup [(.int 0), (.int 0)]), (.tup [(.int 2), (.int 2)])]), some (.int 3), some (.lst [(.tup [(.int 0), (.int 0)]), (.tup [(.int 1), (.int 1)]), (.tup [(.int 0), (.int 0)]), (.tup [(.int 0)]), (.tup [(.int 2), (.int 2)]), (.tup [(.int 1), (.int 1)]), (.tup [(.int 0), (.int 0)]), (.tup [(.int 0), (.int 0)]), (.tup [(.int 2), (.int 2)])]), some (.tup [(.tup [(.tup [(.int 0), (.int 0)]), (.tup [(.int 1), (.int 1)]), (.tup [(.int 0), (.int 0)])]), (.tup [(.tup [(.int 0)]), (.tup [(.int 2), (.int 2)]), (.tup [(.int 1), (.int 1)])]), (.tup [(.tup [(.int 0), (.int 0)]), (.tup [(.int 0), (.int 0)]), (.tup [(.int 2), (.int 2)])])]), none]
def i6_5 : Fr := [some (.tup [(.tup [(.tup [(.int 0), (.int 0)]), (.tup [(.int 1), (.int 1)]), (.tup [(.int 0), (.int 0)])]), (.tup [(.tup [(.int 0), (.int 0)]), (.tup [(.int 2), (.int 2)]), (.tup [(.int 1), (.int 1)])]), (.tup [(.tup [(.int 0), (.int 0)]), (.tup [(.int 0), (.int 0)]), (.tup [(.int 2), (.int 2)])])]), some (.int 2), some (.tup [(.int 0)]), some (.lst [(.tup [(.int 0), (.int 0)]), (.tup [(.int 0), (.int 0)]), (.tup [(.int 2), (.int 2)])]), some (.int 4), some (.lst [(.tup [(.int 0), (.int 0)]), (.tup [(.int 1), (.int 1)]), (.tup [(.int 0), (.int 0)]), (.tup [(.int 0), (.int 0)]), (.tup [(.int 0)]), (.tup [(.int 1), (.int 1)]), (.tup [(.int 0), (.int 0)]), (.tup [(.int 0), (.int 0)]), (.tup [(.int 2), (.int 2)])]), some (.tup [(.tup [(.tup [(.int 0), (.int 0)]), (.tup [(.int 1), (.int 1)]), (.tup [(.int 0), (.int 0)])]), (.tup [(.tup [(.int 0), (.int 0)]), (.tup [(.int 0)]), (.tup [(.int 1), (.int 1)])]), (.tup [(.tup [(.int 0), (.int 0)]), (.tup [(.int 0), (.int 0)]), (.tup [(.int 2), (.int 2)])])]), none]
def i6_6 : Fr := [some (.tup [(.tup [(.tup [(.int 0), (.int 0)]), (.tup [(.int 1), (.int 1)]), (.tup [(.int 0), (.int 0)])]), (.tup [(.tup [(.int 0), (.int 0)]), (.tup [(.int 2), (.int 2)]), (.tup [(.int 1), (.int 1)])]), (.tup [(.tup [(.int 0), (.int 0)]), (.tup [(.int 0), (.int 0)]), (.tup [(.int 2), (.int 2)])])]), some (.int 2), some (.tup [(.int 0)]), some (.lst [(.tup [(.int 0), (.int 0)]), (.tup [(.int 0), (.int 0)]), (.tup [(.int 2), (.int 2)])]), some (.int 5), some (.lst [(.tup [(.int 0), (.int 0)]), (.tup [(.int 1), (.int 1)]), (.tup [(.int 0), (.int 0)]), (.tup [(.int 0), (.int 0)]), (.tup [(.int 2), (.int 2)]), (.tup [(.int 0)]), (.tup [(.int 0), (.int 0)]), (.tup [(.int 0), (.int 0)]), (.tup [(.int 2), (.int 2)])]), some (.tup [(.tup [(.tup [(.int 0), (.int 0)]), (.tup [(.int 1), (.int 1)]), (.tup [(.int 0), (.int 0)])]), (.tup [(.tup [(.int 0), (.int 0)]), (.tup [(.int 2), (.int 2)]), (.tup [(.int 0)])]), (.tup [(.tup [(.int 0), (.int 0)]), (.tup [(.int 0), (.int 0)]), (.tup [(.int 2), (.int 2)])])]), none]
def i6_7 : Fr := [some (.tup [(.tup [(.tup [(.int 0), (.int 0)]), (.tup [(.int 1), (.int 1)]), (.tup [(.int 0), (.int 0)])]), (.tup [(.tup [(.int 0), (.int 0)]), (.tup [(.int 2), (.int 2)]), (.tup [(.int 1), (.int 1)])]), (.tup [(.tup [(.int 0), (.int 0)]), (.tup [(.int 0), (.int 0)]), (.tup [(.int 2), (.int 2)])])]), some (.int 2), some (.tup [(.int 0)]), some (.lst [(.tup [(.int 0), (.int 0)]), (.tup [(.int 0), (.int 0)]), (.tup [(.int 2), (.int 2)])]), some (.int 6), some (.lst [(.tup [(.int 0), (.int 0)]), (.tup [(.int 1), (.int 1)]), (.tup [(.int 0), (.int 0)]), (.tup [(.int 0), (.int 0)]), (.tup [(.int 2), (.int 2)]), (.tup [(.int 1), (.int 1)]), (.tup [(.int 0)]), (.tup [(.int 0), (.int 0)]), (.tup [(.int 2), (.int 2)])]), some (.tup [(.tup [(.tup [(.int 0), (.int 0)]), (.tup [(.int 1), (.int 1)]), (.tup [(.int 0), (.int 0)])]), (.tup [(.tup [(.int 0), (.int 0)]), (.tup [(.int 2), (.int 2)]), (.tup [(.int 1), (.int 1)])]), (.tup [(.tup [(.int 0)]), (.tup [(.int 0), (.int 0)]), (.tup [(.int 2), (.int 2)])])]), none]
def i6_8 : Fr := [some (.tup [(.tup [(.tup [(.int 0), (.int 0)]), (.tup [(.int 1), (.int 1)]), (.tup [(.int 0), (.int 0)])]), (.tup [(.tup [(.int 0), (.int 0)]), (.tup [(.int 2), (.int 2)]), (.tup [(.int 1), (.int 1)])]), (.tup [(.tup [(.int 0), (.int 0)]), (.tup [(.int 0), (.int 0)]), (.tup [(.int 2), (.int 2)])])]), some (.int 2), some (.tup [(.int 0)]), some (.lst [(.tup [(.int 0), (.int 0)]), (.tup [(.int 0), (.int 0)]), (.tup [(.int 2), (.int 2)])]), some (.int 7), some (.lst [(.tup [(.int 0), (.int 0)]), (.tup [(.int 1), (.int 1)]), (.tup [(.int 0), (.int 0)]), (.tup [(.int 0), (.int 0)]), (.tup [(.int 2), (.int 2)]), (.tup [(.int 1), (.int 1)]), (.tup [(.int 0), (.int 0)]), (.tup [(.int 0)]), (.tup [(.int 2), (.int 2)])]), some (.tup [(.tup [(.tup [(.int 0), (.int 0)]), (.tup [(.int 1), (.int 1)]), (.tup [(.int 0), (.int 0)])]), (.tup [(.tup [(.int 0), (.int 0)]), (.tup [(.int 2), (.int 2)]), (.tup [(.int 1), (.int 1)])]), (.tup [(.tup [(.int 0), (.int 0)]), (.tup [(.int 0)]), (.tup [(.int 2), (.int 2)])])]), none]
def i7_0 : Fr := [some (.tup [(.tup [(.tup [(.int 0), (.int 0)]), (.tup [(.int 1), (.int 1)]), (.tup [(.int 0), (.int 0)])]), (.tup [(.tup [(.int 0), (.int 0)]), (.tup [(.int 2), (.int 2)]), (.tup [(.int 1), (.int 1)])]), (.tup [(.tup [(.int 0), (.int 0)]), (.tup [(.int 0), (.int 0)]), (.tup [(.int 2), (.int 2)])])]), some (.int 2), some (.lst [(.int 0), (.int 0)]), some (.lst [(.tup [(.int 0), (.int 0)]), (.tup [(.int 0), (.int 0)]), (.tup [(.int 2), (.int 2)])]), some (.int 8), some (.lst [(.tup [(.int 0), (.int 0)]), (.tup [(.int 1), (.int 1)]), (.tup [(.int 0), (.int 0)]), (.tup [(.int 0), (.int 0)]), (.tup [(.int 2), (.int 2)]), (.tup [(.int 1), (.int 1)]), (.tup [(.int 0), (.int 0)]), (.tup [(.int 0), (.int 0)]), (.tup [(.int 0)])]), some (.tup [(.tup [(.tup [(.int 0), (.int 0)]), (.tup [(.int 1), (.int 1)]), (.tup [(.int 0), (.int 0)])]), (.tup [(.tup [(.int 0), (.int 0)]), (.tup [(.int 2), (.int 2)]), (.tup [(.int 1), (.int 1)])]), (.tup [(.tup [(.int 0), (.int 0)]), (.tup [(.int 0), (.int 0)]), (.tup [(.int 0)])])]), none]
def i7_1 : Fr := [some (.tup [(.tup [(.tup [(.int 0), (.int 0)]), (.tup [(.int 1), (.int 1)]), (.tup [(.int 0), (.int 0)])]), (.tup [(.tup [(.int 0), (.int 0)]), (.tup [(.int 2), (.int 2)]), (.tup [(.int 1), (.int 1)])]), (.tup [(.tup [(.int 0), (.int 0)]), (.tup [(.int 0), (.int 0)]), (.tup [(.int 2), (.int 2)])])]), some (.int 2), some (.lst [(.int 0), (.int 0)]), some (.lst [(.tup [(.int 0), (.int 0)]), (.tup [(.int 0), (.int 0)]), (.tup [(.int 2), (.int 2)])]), some (.int 0), some (.lst [(.lst [(.int 0), (.int 0)]), (.tup [(.int 1), (.int 1)]), (.tup [(.int 0), (.int 0)]), (.tup [(.int 0), (.int 0)]), (.tup [(.int 2), (.int 2)]), (.tup [(.int 1), (.int 1)]), (.tup [(.int 0), (.int 0)]), (.tup [(.int 0), (.int 0)]), (.tup [(.int 2), (.int 2)])]), some (.tup [(.tup [(.lst [(.int 0), (.int 0)]), (.tup [(.int 1), (.int 1)]), (.tup [(.int 0), (.int 0)])]), (.tup [(.tup [(.int 0), (.int 0)]), (.tup [(.int 2), (.int 2)]), (.tup [(.int 1), (.int 1)])]), (.tup [(.tup [(.int 0), (.int 0)]), (.tup [(.int 0), (.int 0)]), (.tup [(.int 2), (.int 2)])])]), none]
def i7_2 : Fr := [some (.tup [(.tup [(.tup [(.int 0), (.int 0)]), (.tup [(.int 1), (.int 1)]), (.tup [(.int 0), (.int 0)])]), (.tup [(.tup [(.int 0), (.int 0)]), (.tup [(.int 2), (.int 2)]), (.tup [(.int 1), (.int 1)])]), (.tup [(.tup [(.int 0), (.int 0)]), (.tup [(.int 0), (.int 0)]), (.tup [(.int 2), (.int 2)])])]), some (.int 2), some (.lst [(.int 0), (.int 0)]), some (.lst [(.tup [(.int 0), (.int 0)]), (.tup [(.int 0), (.int 0)]), (.tup [(.int 2), (.int 2)])]), some (.int 1), some (.lst [(.tup [(.int 0), (.int 0)]), (.lst [(.int 0), (.int 0)]), (.tup [(.int 0), (.int 0)]), (.tup [(.int 0), (.int 0)]), (.tup [(.int 2), (.int 2)]), (.tup [(.int 1), (.int 1)]), (.tup [(.int 0), (.int 0)]), (.tup [(.int 0), (.int 0)]), (.tup [(.int 2), (.int 2)])]), some (.tup [(.tup [(.tup [(.int 0), (.int 0)]), (.lst [(.int 0), (.int 0)]), (.tup [(.int 0), (.int 0)])]), (.tup [(.tup [(.int 0), (.int 0)]), (.tup [(.int 2), (.int 2)]), (.tup [(.int 1), (.int 1)])]), (.tup [(.tup [(.int 0), (.int 0)]), (.tup [(.int 0), (.int 0)]), (.tup [(.int 2), (.int 2)])])]), none]
def i7_3 : Fr := [some (.tup [(.tup [(.tup [(.int 0), (.int 0)]), (.tup [(.int 1), (.int 1)]), (.tup [(.int 0), (.int 0)])]), (.tup [(.tup [(.int 0), (.int 0)]), (.tup [(.int 2), (.int 2)]), (.tup [(.int 1), (.int 1)])]), (.tup [(.tup [(.int 0), (.int 0)]), (.tup [(.int 0), (.int 0)]), (.tup [(.int 2), (.int 2)])])]), some (.int 2), some (.lst [(.int 0), (.int 0)]), some (.lst [(.tup [(.int 0), (.int 0)]), (.tup [(.int 0), (.int 0)]), (.tup [(.int 2), (.int 2)])]), some (.int 2), some (.lst [(.tup [(.int 0), (.int 0)]), (.tup [(.int 1), (.int 1)]), (.lst [(.int 0), (.int 0)]), (.tup [(.int 0), (.int 0)]), (.tup [(.int 2), (.int 2)]), (.tup [(.int 1), (.int 1)]), (.tup [(.int 0), (.int 0)]), (.tup [(.int 0), (.int 0)]), (.tup [(.int 2), (.int 2)])]), some (.tup [(.tup [(.tup [(.int 0), (.int 0)]), (.tup [(.int 1), (.int 1)]), (.lst [(.int 0), (.int 0)])]), (.tup [(.tup [(.int 0), (.int 0)]), (.tup [(.int 2), (.int 2)]), (.tup [(.int 1), (.int 1)])]), (.tup [(.tup [(.int 0), (.int 0)]), (.tup [(.int 0), (.int 0)]), (.tup [(.int 2), (.int 2)])])]), none]
def i7_4 : Fr := [some (.tup [(.tup [(.tup [(.int 0), (.int 0)]), (.tup [(.int 1), (.int 1)]), (.tup [(.int 0), (.int 0)])]), (.tup [(.tup [(.int 0), (.int 0)]), (.tup [(.int 2), (.int 2)]), (.tup [(.int 1), (.int 1)])]), (.tup [(.tup [(.int 0), (.int 0)]), (.tup [(.int 0), (.int 0)]), (.tup [(.int 2), (.int 2)])])]), some (.int 2), some (.lst [(.int 0), (.int 0)]), some (.lst [(.tup [(.int 0), (.int 0)]), (.tup [(.int 0), (.int 0)]), (.tup [(.int 2), (.int 2)])]), some (.int 3), some (.lst [(.tup [(.int 0), (.int 0)]), (.tup [(.int 1), (.int 1)]), (.tup [(.int 0), (.int 0)]), (.lst [(.int 0), (.int 0)]), (.tup [(.int 2), (.int 2)]), (.tup [(.int 1), (.int 1)]), (.tup [(.int 0), (.int 0)]), (.tup [(.int 0), (.int 0)]), (.tup [(.int 2), (.int 2)])]), some (.tup [(.tup [(.tup [(.int 0), (.int 0)]), (.tup [(.int 1), (.int 1)]), (.tup [(.int 0), (.int 0)])]), (.tup [(.lst [(.int 0), (.int 0)]), (.tup [(.int 2), (.int 2)]), (.tup [(.int 1), (.int 1)])]), (.tup [(.tup [(.int 0), (.int 0)]), (.tup [(.int 0), (.int 0)]), (.tup [(.int 2), (.int 2)])])]), none]
def i7_5 : Fr := [some (.tup [(.tup [(.tup [(.int 0), (.int 0)]), (.tup [(.int 1), (.int 1)]), (.tup [(.int 0), (.int 0)])]), (.tup [(.tup [(.int 0), (.int 0)]), (.tup [(.int 2), (.int 2)]), (.tup [(.int 1), (.int 1)])]), (.tup [(.tup [(.int 0), (.int 0)]), (.tup [(.int 0), (.int 0)]), (.tup [(.int 2), (.int 2)])])]), some (.int 2), some (.lst [(.int 0), (.int 0)]), some (.lst [(.tup [(.int 0), (.int 0)]), (.tup [(.int 0), (.int 0)]), (.tup [(.int 2), (.int 2)])]), some (.int 4), some (.lst [(.tup [(.int 0), (.int 0)]), (.tup [(.int 1), (.int 1)]), (.tup [(.int 0), (.int 0)]), (.tup [(.int 0), (.int 0)]), (.lst [(.int 0), (.int 0)]), (.tup [(.int 1), (.int 1)]), (.tup [(.int 0), (.int 0)]), (.tup [(.int 0), (.int 0)]), (.tup [(.int 2), (.int 2)])]), some (.tup [(.tup [(.tup [(.int 0), (.int 0)]), (.tup [(.int 1), (.int 1)]), (.tup [(.int 0), (.int 0)])]), (.tup [(.tup [(.int 0), (.int 0)]), (.lst [(.int 0), (.int 0)]), (.tup [(.int 1), (.int 1)])]), (.tup [(.tup [(.int 0), (.int 0)]), (.tup [(.int 0), (.int 0)]), (.tup [(.int 2), (.int 2)])])]), none]
def i7_6 : Fr := [some (.tup [(.tup [(.tup [(.int 0), (.int 0)]), (.tup [(.int 1), (.int 1)]), (.tup [(.int 0), (.int 0)])]), (.tup [(.tup [(.int 0), (.int 0)]), (.tup [(.int 2), (.int 2)]), (.tup [(.int 1), (.int 1)])]), (.tup [(.tup [(.int 0), (.int 0)]), (.tup [(.int 0), (.int 0)]), (.tup [(.int 2), (.int 2)])])]), some (.int 2), some (.lst [(.int 0), (.int 0)]), some (.lst [(.tup [(.int 0), (.int 0)]), (.tup [(.int 0), (.int 0)]), (.tup [(.int 2), (.int 2)])]), some (.int 5), some (.lst [(.tup [(.int 0), (.int 0)]), (.tup [(.int 1), (.int 1)]), (.tup [(.int 0), (.int 0)]), (.tup [(.int 0), (.int 0)]), (.tup [(.int 2), (.int 2)]), (.lst [(.int 0), (.int 0)]), (.tup [(.int 0), (.int 0)]), (.tup [(.int 0), (.int 0)]), (.tup [(.int 2), (.int 2)])]), some (.tup [(.tup [(.tup [(.int 0), (.int 0)]), (.tup [(.int 1), (.int 1)]), (.tup [(.int 0), (.int 0)])]), (.tup [(.tup [(.int 0), (.int 0)]), (.tup [(.int 2), (.int 2)]), (.lst [(.int 0), (.int 0)])]), (.tup [(.tup [(.int 0), (.int 0)]), (.tup [(.int 0), (.int 0)]), (.tup [(.int 2), (.int 2)])])]), none]
def i7_7 : Fr := [some (.tup [(.tup [(.tup [(.int 0), (.int 0)]), (.tup [(.int 1), (.int 1)]), (.tup [(.int 0), (.int 0)])]), (.tup [(.tup [(.int 0), (.int 0)]), (.tup [(.int 2), (.int 2)]), (.tup [(.int 1), (.int 1)])]), (.tup [(.tup [(.int 0), (.int 0)]), (.tup [(.int 0), (.int 0)]), (.tup [(.int 2), (.int 2)])])]), some (.int 2), some (.lst [(.int 0), (.int 0)]), some (.lst [(.tup [(.int 0), (.int 0)]), (.tup [(.int 0), (.int 0)]), (.tup [(.int 2), (.int 2)])]), some (.int 6), some (.lst [(.tup [(.int 0), (.int 0)]), (.tup [(.int 1), (.int 1)]), (.tup [(.int 0), (.int 0)]), (.tup [(.int 0), (.int 0)]), (.tup [(.int 2), (.int 2)]), (.tup [(.int 1), (.int 1)]), (.lst [(.int 0), (.int 0)]), (.tup [(.int 0), (.int 0)]), (.tup [(.int 2), (.int 2)])]), some (.tup [(.tup [(.tup [(.int 0), (.int 0)]), (.tup [(.int 1), (.int 1)]), (.tup [(.int 0), (.int 0)])]), (.tup [(.tup [(.int 0), (.int 0)]), (.tup [(.int 2), (.int 2)]), (.tup [(.int 1), (.int 1)])]), (.tup [(.lst [(.int 0), (.int 0)]), (.tup [(.int 0), (.int 0)]), (.tup [(.int 2), (.int 2)])])]), none]
def i7_8 : Fr := [some (.tup [(.tup [(.tup [(.int 0), (.int 0)]), (.tup [(.int 1), (.int 1)]), (.tup [(.int 0), (.int 0)])]), (.tup [(.tup [(.int 0), (.int 0)]), (.tup [(.int 2), (.int 2)]), (.tup [(.int 1), (.int 1)])]), (.tup [(.tup [(.int 0), (.int 0)]), (.tup [(.int 0), (.int 0)]), (.tup [(.int 2), (.int 2)])])]), some (.int 2), some (.lst [(.int 0), (.int 0)]), some (.lst [(.tup [(.int 0), (.int 0)]), (.tup [(.int 0), (.int 0)]), (.tup [(.int 2), (.int 2)])]), some (.int 7), some (.lst [(.tup [(.int 0), (.int 0)]), (.tup [(.int 1), (.int 1)]), (.tup [(.int 0), (.int 0)]), (.tup [(.int 0), (.int 0)]), (.tup [(.int 2), (.int 2)]), (.tup [(.int 1), (.int 1)]), (.tup [(.int 0), (.int 0)]), (.lst [(.int 0), (.int 0)]), (.tup [(.int 2), (.int 2)])]), some (.tup [(.tup [(.tup [(.int 0), (.int 0)]), (.tup [(.int 1), (.int 1)]), (.tup [(.int 0), (.int 0)])]), (.tup [(.tup [(.int 0), (.int 0)]), (.tup [(.int 2), (.int 2)]), (.tup [(.int 1), (.int 1)])]), (.tup [(.tup [(.int 0), (.int 0)]), (.lst [(.int 0), (.int 0)]), (.tup [(.int 2), (.int 2)])])]), none]
def i8_0 : Fr := [some (.tup [(.tup [(.tup [(.int 0), (.int 0)]), (.tup [(.int 1), (.int 1)]), (.tup [(.int 0), (.int 0)])]), (.tup [(.tup [(.int 0), (.int 0)]), (.tup [(.int 2), (.int 2)]), (.tup [(.int 1), (.int 1)])]), (.tup [(.tup [(.int 0), (.int 0)]), (.tup [(.int 0), (.int 0)]), (.tup [(.int 2), (.int 2)])])]), some (.int 2), some .non, some (.lst [(.tup [(.int 0), (.int 0)]), (.tup [(.int 0), (.int 0)]), (.tup [(.int 2), (.int 2)])]), some (.int 8), some (.lst [(.tup [(.int 0), (.int 0)]), (.tup [(.int 1), (.int 1)]), (.tup [(.int 0), (.int 0)]), (.tup [(.int 0), (.int 0)]), (.tup [(.int 2), (.int 2)]), (.tup [(.int 1), (.int 1)]), (.tup [(.int 0), (.int 0)]), (.tup [(.int 0), (.int 0)]), (.lst [(.int 0), (.int 0)])]), some (.tup [(.tup [(.tup [(.int 0), (.int 0)]), (.tup [(.int 1), (.int 1)]), (.tup [(.int 0), (.int 0)])]), (.tup [(.tup [(.int 0), (.int 0)]), (.tup [(.int 2), (.int 2)]), (.tup [(.int 1), (.int 1)])]), (.tup [(.tup [(.int 0), (.int 0)]), (.tup [(.int 0), (.int 0)]), (.lst [(.int 0), (.int 0)])])]), none]
def i8_1 : Fr := [some (.tup [(.tup [(.tup [(.int 0), (.int 0)]), (.tup [(.int 1), (.int 1)]), (.tup [(.int 0), (.int 0)])]), (.tup [(.tup [(.int 0), (.int 0)]), (.tup [(.int 2), (.int 2)]), (.tup [(.int 1), (.int 1)])]), (.tup [(.tup [(.int 0), (.int 0)]), (.tup [(.int 0), (.int 0)]), (.tup [(.int 2), (.int 2)])])]), some (.int 2), some .non, some (.lst [(.tup [(.int 0), (.int 0)]), (.tup [(.int 0), (.int 0)]), (.tup [(.int 2), (.int 2)])]), some (.int 0), some (.lst [.non, (.tup [(.int 1), (.int 1)]), (.tup [(.int 0), (.int 0)]), (.tup [(.int 0), (.int 0)]), (.tup [(.int 2), (.int 2)]), (.tup [(.int 1), (.int 1)]), (.tup [(.int 0), (.int 0)]), (.tup [(.int 0), (.int 0)]), (.tup [(.int 2), (.int 2)])]), some (.tup [(.tup [.non, (.tup [(.int 1), (.int 1)]), (.tup [(.int 0), (.int 0)])]), (.tup [(.tup [(.int 0), (.int 0)]), (.tup [(.int 2), (.int 2)]), (.tup [(.int 1), (.int 1)])]), (.tup [(.tup [(.int 0), (.int 0)]), (.tup [(.int 0), (.int 0)]), (.tup [(.int 2), (.int 2)])])]), none]
def i8_2 : Fr := [some (.tup [(.tup [(.tup [(.int 0), (.int 0)]), (.tup [(.int 1), (.int 1)]), (.tup [(.int 0), (.int 0)])]), (.tup [(.tup [(.int 0), (.int 0)]), (.tup [(.int 2), (.int 2)]), (.tup [(.int 1), (.int 1)])]), (.tup [(.tup [(.int 0), (.int 0)]), (.tup [(.int 0), (.int 0)]), (.tup [(.int 2), (.int 2)])])]), some (.int 2), some .non, some (.lst [(.tup [(.int 0), (.int 0)]), (.tup [(.int 0), (.int 0)]), (.tup [(.int 2), (.int 2)])]), some (.int 1), some (.lst [(.tup [(.int 0), (.int 0)]), .non, (.tup [(.int 0), (.int 0)]), (.tup [(.int 0), (.int 0)]), (.tup [(.int 2), (.int 2)]), (.tup [(.int 1), (.int 1)]), (.tup [(.int 0), (.int 0)]), (.tup [(.int 0), (.int 0)]), (.tup [(.int 2), (.int 2)])]), some (.tup [(.tup [(.tup [(.int 0), (.int 0)]), .non, (.tup [(.int 0), (.int 0)])]), (.tup [(.tup [(.int 0), (.int 0)]), (.tup [(.int 2), (.int 2)]), (.tup [(.int 1), (.int 1)])]), (.tup [(.tup [(.int 0), (.int 0)]), (.tup [(.int 0), (.int 0)]), (.tup [(.int 2), (.int 2)])])]), none]
def i8_3 : Fr := [some (.tup [(.tup [(.tup [(.int 0), (.int 0)]), (.tup [(.int 1), (.int 1)]), (.tup [(.int 0), (.int 0)])]), (.tup [(.tup [(.int 0), (.int 0)]), (.tup [(.int 2), (.int 2)]), (.tup [(.int 1), (.int 1)])]), (.tup [(.tup [(.int 0), (.int 0)]), (.tup [(.int 0), (.int 0)]), (.tup [(.int 2), (.int 2)])])]), some (.int 2), some .non, some (.lst [(.tup [(.int 0), (.int 0)]), (.tup [(.int 0), (.int 0)]), (.tup [(.int 2), (.int 2)])]), some (.int 2), some (.lst [(.tup [(.int 0), (.int 0)]), (.tup [(.int 1), (.int 1)]), .non, (.tup [(.int 0), (.int 0)]), (.tup [(.int 2), (.int 2)]), (.tup [(.int 1), (.int 1)]), (.tup [(.int 0), (.int 0)]), (.tup [(.int 0), (.int 0)]), (.tup [(.int 2), (.int 2)])]), some (.tup [(.tup [(.tup [(.int 0), (.int 0)]), (.tup [(.int 1), (.int 1)]), .non]), (.tup [(.tup [(.int 0), (.int 0)]), (.tup [(.int 2), (.int 2)]), (.tup [(.int 1), (.int 1)])]), (.tup [(.tup [(.int 0), (.int 0)]), (.tup [(.int 0), (.int 0)]), (.tup [(.int 2), (.int 2)])])]), none]
def i8_4 : Fr := [some (.tup [(.tup [(.tup [(.int 0), (.int 0)]), (.tup [(.int 1), (.int 1)]), (.tup [(.int 0), (.int 0)])]), (.tup [(.tup [(.int 0), (.int 0)]), (.tup [(.int 2), (.int 2)]), (.tup [(.int 1), (.int 1)])]), (.tup [(.tup [(.int 0), (.int 0)]), (.tup [(.int 0), (.int 0)]), (.tup [(.int 2), (.int 2)])])]), some (.int 2), some .non, some (.lst [(.tup [(.int 0), (.int 0)]), (.tup [(.int 0), (.int 0)]), (.tup [(.int 2), (.int 2)])]), some (.int 3), some (.lst [(.tup [(.int 0), (.int 0)]), (.tup [(.int 1), (.int 1)]), (.tup [(.int 0), (.int 0)]), .non, (.tup [(.int 2), (.int 2)]), (.tup [(.int 1), (.int 1)]), (.tup [(.int 0), (.int 0)]), (.tup [(.int 0), (.int 0)]), (.tup [(.int 2), (.int 2)])]), some (.tup [(.tup [(.tup [(.int 0), (.int 0)]), (.tup [(.int 1), (.int 1)]), (.tup [(.int 0), (.int 0)])]), (.tup [.non, (.tup [(.int 2), (.int 2)]), (.tup [(.int 1), (.int 1)])]), (.tup [(.tup [(.int 0), (.int 0)]), (.tup [(.int 0), (.int 0)]), (.tup [(.int 2), (.int 2)])])]), none]
def i8_5 : Fr := [some (.tup [(.tup [(.tup [(.int 0), (.int 0)]), (.tup [(.int 1), (.int 1)]), (.tup [(.int 0), (.int 0)])]), (.tup [(.tup [(.int 0), (.int 0)]), (.tup [(.int 2), (.int 2)]), (.tup [(.int 1), (.int 1)])]), (.tup [(.tup [(.int 0), (.int 0)]), (.tup [(.int 0), (.int 0)]), (.tup [(.int 2), (.int 2)])])]), some (.int 2), some .non, some (.lst [(.tup [(.int 0), (.int 0)]), (.tup [(.int 0), (.int 0)]), (.tup [(.int 2), (.int 2)])]), some (.int 4), some (.lst [(.tup [(.int 0), (.int 0)]), (.tup [(.int 1), (.int 1)]), (.tup [(.int 0), (.int 0)]), (.tup [(.int 0), (.int 0)]), .non, (.tup [(.int 1), (.int 1)]), (.tup [(.int 0), (.int 0)]), (.tup [(.int 0), (.int 0)]), (.tup [(.int 2), (.int 2)])]), some (.tup [(.tup [(.tup [(.int 0), (.int 0)]), (.tup [(.int 1), (.int 1)]), (.tup [(.int 0), (.int 0)])]), (.tup [(.tup [(.int 0), (.int 0)]), .non, (.tup [(.int 1), (.int 1)])]), (.tup [(.tup [(.int 0), (.int 0)]), (.tup [(.int 0), (.int 0)]), (.tup [(.int 2), (.int 2)])])]), none]
def i8_6 : Fr := [some (.tup [(.tup [(.tup [(.int 0), (.int 0)]), (.tup [(.int 1), (.int 1)]), (.tup [(.int 0), (.int 0)])]), (.tup [(.tup [(.int 0), (.int 0)]), (.tup [(.int 2), (.int 2)]), (.tup [(.int 1), (.int 1)])]), (.tup [(.tup [(.int 0), (.int 0)]), (.tup [(.int 0), (.int 0)]), (.tup [(.int 2), (.int 2)])])]), some (.int 2), some .non, some (.lst [(.tup [(.int 0), (.int 0)]), (.tup [(.int 0), (.int 0)]), (.tup [(.int 2), (.int 2)])]), some (.int 5), some (.lst [(.tup [(.int 0), (.int 0)]), (.tup [(.int 1), (.int 1)]), (.tup [(.int 0), (.int 0)]), (.tup [(.int 0), (.int 0)]), (.tup [(.int 2), (.int 2)]), .non, (.tup [(.int 0), (.int 0)]), (.tup [(.int 0), (.int 0)]), (.tup [(.int 2), (.int 2)])]), some (.tup [(.tup [(.tup [(.int 0), (.int 0)]), (.tup [(.int 1), (.int 1)]), (.tup [(.int 0), (.int 0)])]), (.tup [(.tup [(.int 0), (.int 0)]), (.tup [(.int 2), (.int 2)]), .non]), (.tup [(.tup [(.int 0), (.int 0)]), (.tup [(.int 0), (.int 0)]), (.tup [(.int 2), (.int 2)])])]), none]
def i8_7 : Fr := [some (.tup [(.tup [(.tup [(.int 0), (.int 0)]), (.tup [(.int 1), (.int 1)]), (.tup [(.int 0), (.int 0)])]), (.tup [(.tup [(.int 0), (.int 0)]), (.tup [(.int 2), (.int 2)]), (.tup [(.int 1), (.int 1)])]), (.tup [(.tup [(.int 0), (.int 0)]), (.tup [(.int 0), (.int 0)]), (.tup [(.int 2), (.int 2)])])]), some (.int 2), some .non, some (.lst [(.tup [(.int 0), (.int 0)]), (.tup [(.int 0), (.int 0)]), (.tup [(.int 2), (.int 2)])]), some (.int 6), some (.lst [(.tup [(.int 0), (.int 0)]), (.tup [(.int 1), (.int 1)]), (.tup [(.int 0), (.int 0)]), (.tup [(.int 0), (.int 0)]), (.tup [(.int 2), (.int 2)]), (.tup [(.int 1), (.int 1)]), .non, (.tup [(.int 0), (.int 0)]), (.tup [(.int 2), (.int 2)])]), some (.tup [(.tup [(.tup [(.int 0), (.int 0)]), (.tup [(.int 1), (.int 1)]), (.tup [(.int 0), (.int 0)])]), (.tup [(.tup [(.int 0), (.int 0)]), (.tup [(.int 2), (.int 2)]), (.tup [(.int 1), (.int 1)])]), (.tup [.non, (.tup [(.int 0), (.int 0)]), (.tup [(.int 2), (.int 2)])])]), none]
def i8_8 : Fr := [some (.tup [(.tup [(.tup [(.int 0), (.int 0)]), (.tup [(.int 1), (.int 1)]), (.tup [(.int 0), (.int 0)])]), (.tup [(.tup [(.int 0), (.int 0)]), (.tup [(.int 2), (.int 2)]), (.tup [(.int 1), (.int 1)])]), (.tup [(.tup [(.int 0), (.int 0)]), (.tup [(.int 0), (.int 0)]), (.tup [(.int 2), (.int 2)])])]), some (.int 2), some .non, some (.lst [(.tup [(.int 0), (.int 0)]), (.tup [(.int 0), (.int 0)]), (.tup [(.int 2), (.int 2)])]), some (.int 7), some (.lst [(.tup [(.int 0), (.int 0)]), (.tup [(.int 1), (.int 1)]), (.tup [(.int 0), (.int 0)]), (.tup [(.int 0), (.int 0)]), (.tup [(.int 2), (.int 2)]), (.tup [(.int 1), (.int 1)]), (.tup [(.int 0), (.int 0)]), .non, (.tup [(.int 2), (.int 2)])]), some (.tup [(.tup [(.tup [(.int 0), (.int 0)]), (.tup [(.int 1), (.int 1)]), (.tup [(.int 0), (.int 0)])]), (.tup [(.tup [(.int 0), (.int 0)]), (.tup [(.int 2), (.int 2)]), (.tup [(.int 1), (.int 1)])]), (.tup [(.tup [(.int 0), (.int 0)]), .non, (.tup [(.int 2), (.int 2)])])]), none]
theorem b0_0 : exs gb 386 38 (List.set i0_0 4 (some (.int 0))) [] inB = .ok .nx i0_1 [] := exs_its (by kernel_rfl)
theorem b0_1 : exs gb 385 38 (List.set i0_1 4 (some (.int 1))) [] inB = .ok .nx i0_2 [] := exs_its (by kernel_rfl)
theorem b0_2 : exs gb 384 38 (List.set i0_2 4 (some (.int 2))) [] inB = .ok .nx i0_3 [] := exs_its (by kernel_rfl)
theorem b0_3 : exs gb 383 38 (List.set i0_3 4 (some (.int 3))) [] inB = .ok .nx i0_4 [] := exs_its (by kernel_rfl)
theorem b0_4 : exs gb 382 38 (List.set i0_4 4 (some (.int 4))) [] inB = .ok .nx i0_5 [] := exs_its (by kernel_rfl)
theorem b0_5 : exs gb 381 38 (List.set i0_5 4 (some (.int 5))) [] inB = .ok .nx i0_6 [] := exs_its (by kernel_rfl)
theorem b0_6 : exs gb 380 38 (List.set i0_6 4 (some (.int 6))) [] inB = .ok .nx i0_7 [] := exs_its (by kernel_rfl)
theorem b0_7 : exs gb 379 38 (List.set i0_7 4 (some (.int 7))) [] inB = .ok .nx i0_8 [] := exs_its (by kernel_rfl)
theorem b0_8 : exs gb 378 38 (List.set i0_8 4 (some (.int 8))) [] inB = .ok .nx o1 [] := exs_its (by kernel_rfl)
theorem c0 : exFor gb 387 38 i0_0 [] (.nm 4) [.int 0, .int 1, .int 2, .int 3, .int 4, .int 5, .int 6, .int 7, .int 8] inB = .ok .nx o1 [] := (for_step (by kernel_rfl) b0_0 (for_step (by kernel_rfl) b0_1 (for_step (by kernel_rfl) b0_2 (for_step (by kernel_rfl) b0_3 (for_step (by kernel_rfl) b0_4 (for_step (by kernel_rfl) b0_5 (for_step (by kernel_rfl) b0_6 (for_step (by kernel_rfl) b0_7 (for_step (by kernel_rfl) b0_8 for_end)))))))))
theorem e0 : exs gb 389 38 i0_0 [] lpB = .ok .nx o1 [] := exs_step (s := .for (.nm 4) inI inB) (ss := []) (for_of (by kernel_rfl) c0) exs_nil
theorem a0 : asgT gb 389 38 o0 [] (.nm 2) w0 = .ok i0_0 [] := by kernel_rfl
theorem b1_0 : exs gb 385 38 (List.set i1_0 4 (some (.int 0))) [] inB = .ok .nx i1_1 [] := exs_its (by kernel_rfl)
theorem b1_1 : exs gb 384 38 (List.set i1_1 4 (some (.int 1))) [] inB = .ok .nx i1_2 [] := exs_its (by kernel_rfl)
theorem b1_2 : exs gb 383 38 (List.set i1_2 4 (some (.int 2))) [] inB = .ok .nx i1_3 [] := exs_its (by kernel_rfl)
theorem b1_3 : exs gb 382 38 (List.set i1_3 4 (some (.int 3))) [] inB = .ok .nx i1_4 [] := exs_its (by kernel_rfl)
theorem b1_4 : exs gb 381 38 (List.set i1_4 4 (some (.int 4))) [] inB = .ok .nx i1_5 [] := exs_its (by kernel_rfl)
theorem b1_5 : exs gb 380 38 (List.set i1_5 4 (some (.int 5))) [] inB = .ok .nx i1_6 [] := exs_its (by kernel_rfl)
theorem b1_6 : exs gb 379 38 (List.set i1_6 4 (some (.int 6))) [] inB = .ok .nx i1_7 [] := exs_its (by kernel_rfl)
theorem b1_7 : exs gb 378 38 (List.set i1_7 4 (some (.int 7))) [] inB = .ok .nx i1_8 [] := exs_its (by kernel_rfl)
theorem b1_8 : exs gb 377 38 (List.set i1_8 4 (some (.int 8))) [] inB = .ok .nx o2 [] := exs_its (by kernel_rfl)
theorem c1 : exFor gb 386 38 i1_0 [] (.nm 4) [.int 0, .int 1, .int 2, .int 3, .int 4, .int 5, .int 6, .int 7, .int 8] inB = .ok .nx o2 [] := (for_step (by kernel_rfl) b1_0 (for_step (by kernel_rfl) b1_1 (for_step (by kernel_rfl) b1_2 (for_step (by kernel_rfl) b1_3 (for_step (by kernel_rfl) b1_4 (for_step (by kernel_rfl) b1_5 (for_step (by kernel_rfl) b1_6 (for_step (by kernel_rfl) b1_7 (for_step (by kernel_rfl) b1_8 for_end)))))))))
theorem e1 : exs gb 388 38 i1_0 [] lpB = .ok .nx o2 [] := exs_step (s := .for (.nm 4) inI inB) (ss := []) (for_of (by kernel_rfl) c1) exs_nil
theorem a1 : asgT gb 388 38 o1 [] (.nm 2) w1 = .ok i1_0 [] := by kernel_rfl
theorem b2_0 : exs gb 384 38 (List.set i2_0 4 (some (.int 0))) [] inB = .ok .nx i2_1 [] := exs_its (by kernel_rfl)
theorem b2_1 : exs gb 383 38 (List.set i2_1 4 (some (.int 1))) [] inB = .ok .nx i2_2 [] := exs_its (by kernel_rfl)
theorem b2_2 : exs gb 382 38 (List.set i2_2 4 (some (.int 2))) [] inB = .ok .nx i2_3 [] := exs_its (by kernel_rfl)
theorem b2_3 : exs gb 381 38 (List.set i2_3 4 (some (.int 3))) [] inB = .ok .nx i2_4 [] := exs_its (by kernel_rfl)
theorem b2_4 : exs gb 380 38 (List.set i2_4 4 (some (.int 4))) [] inB = .ok .nx i2_5 [] := exs_its (by kernel_rfl)
theorem b2_5 : exs gb 379 38 (List.set i2_5 4 (some (.int 5))) [] inB = .ok .nx i2_6 [] := exs_its (by kernel_rfl)
theorem b2_6 : exs gb 378 38 (List.set i2_6 4 (some (.int 6))) [] inB = .ok .nx i2_7 [] := exs_its (by kernel_rfl)
theorem b2_7 : exs gb 377 38 (List.set i2_7 4 (some (.int 7))) [] inB = .ok .nx i2_8 [] := exs_its (by kernel_rfl)
theorem b2_8 : exs gb 376 38 (List.set i2_8 4 (some (.int 8))) [] inB = .ok .nx o3 [] := exs_its (by kernel_rfl)
theorem c2 : exFor gb 385 38 i2_0 [] (.nm 4) [.int 0, .int 1, .int 2, .int 3, .int 4, .int 5, .int 6, .int 7, .int 8] inB = .ok .nx o3 [] := (for_step (by kernel_rfl) b2_0 (for_step (by kernel_rfl) b2_1 (for_step (by kernel_rfl) b2_2 (for_step (by kernel_rfl) b2_3 (for_step (by kernel_rfl) b2_4 (for_step (by kernel_rfl) b2_5 (for_step (by kernel_rfl) b2_6 (for_step (by kernel_rfl) b2_7 (for_step (by kernel_rfl) b2_8 for_end)))))))))
theorem e2 : exs gb 387 38 i2_0 [] lpB = .ok .nx o3 [] := exs_step (s := .for (.nm 4) inI inB) (ss := []) (for_of (by kernel_rfl) c2) exs_nil
theorem a2 : asgT gb 387 38 o2 [] (.nm 2) w2 = .ok i2_0 [] := by kernel_rfl
theorem b3_0 : exs gb 383 38 (List.set i3_0 4 (some (.int 0))) [] inB = .ok .nx i3_1 [] := exs_its (by kernel_rfl)
theorem b3_1 : exs gb 382 38 (List.set i3_1 4 (some (.int 1))) [] inB = .ok .nx i3_2 [] := exs_its (by kernel_rfl)
theorem b3_2 : exs gb 381 38 (List.set i3_2 4 (some (.int 2))) [] inB = .ok .nx i3_3 [] := exs_its (by kernel_rfl)
theorem b3_3 : exs gb 380 38 (List.set i3_3 4 (some (.int 3))) [] inB = .ok .nx i3_4 [] := exs_its (by kernel_rfl)
theorem b3_4 : exs gb 379 38 (List.set i3_4 4 (some (.int 4))) [] inB = .ok .nx i3_5 [] := exs_its (by kernel_rfl)
theorem b3_5 : exs gb 378 38 (List.set i3_5 4 (some (.int 5))) [] inB = .ok .nx i3_6 [] := exs_its (by kernel_rfl)
theorem b3_6 : exs gb 377 38 (List.set i3_6 4 (some (.int 6))) [] inB = .ok .nx i3_7 [] := exs_its (by kernel_rfl)
theorem b3_7 : exs gb 376 38 (List.set i3_7 4 (some (.int 7))) [] inB = .ok .nx i3_8 [] := exs_its (by kernel_rfl)
theorem b3_8 : exs gb 375 38 (List.set i3_8 4 (some (.int 8))) [] inB = .ok .nx o4 [] := exs_its (by kernel_rfl)
theorem c3 : exFor gb 384 38 i3_0 [] (.nm 4) [.int 0, .int 1, .int 2, .int 3, .int 4, .int 5, .int 6, .int 7, .int 8] inB = .ok .nx o4 [] := (for_step (by kernel_rfl) b3_0 (for_step (by kernel_rfl) b3_1 (for_step (by kernel_rfl) b3_2 (for_step (by kernel_rfl) b3_3 (for_step (by kernel_rfl) b3_4 (for_step (by kernel_rfl) b3_5 (for_step (by kernel_rfl) b3_6 (for_step (by kernel_rfl) b3_7 (for_step (by kernel_rfl) b3_8 for_end)))))))))
theorem e3 : exs gb 386 38 i3_0 [] lpB = .ok .nx o4 [] := exs_step (s := .for (.nm 4) inI inB) (ss := []) (for_of (by kernel_rfl) c3) exs_nil
theorem a3 : asgT gb 386 38 o3 [] (.nm 2) w3 = .ok i3_0 [] := by kernel_rfl
theorem b4_0 : exs gb 382 38 (List.set i4_0 4 (some (.int 0))) [] inB = .ok .nx i4_1 [] := exs_its (by kernel_rfl)
theorem b4_1 : exs gb 381 38 (List.set i4_1 4 (some (.int 1))) [] inB = .ok .nx i4_2 [] := exs_its (by kernel_rfl)
theorem b4_2 : exs gb 380 38 (List.set i4_2 4 (some (.int 2))) [] inB = .ok .nx i4_3 [] := exs_its (by kernel_rfl)
theorem b4_3 : exs gb 379 38 (List.set i4_3 4 (some (.int 3))) [] inB = .ok .nx i4_4 [] := exs_its (by kernel_rfl)
theorem b4_4 : exs gb 378 38 (List.set i4_4 4 (some (.int 4))) [] inB = .ok .nx i4_5 [] := exs_its (by kernel_rfl)
theorem b4_5 : exs gb 377 38 (List.set i4_5 4 (some (.int 5))) [] inB = .ok .nx i4_6 [] := exs_its (by kernel_rfl)
theorem b4_6 : exs gb 376 38 (List.set i4_6 4 (some (.int 6))) [] inB = .ok .nx i4_7 [] := exs_its (by kernel_rfl)
theorem b4_7 : exs gb 375 38 (List.set i4_7 4 (some (.int 7))) [] inB = .ok .nx i4_8 [] := exs_its (by kernel_rfl)
theorem b4_8 : exs gb 374 38 (List.set i4_8 4 (some (.int 8))) [] inB = .ok .nx o5 [] := exs_its (by kernel_rfl)
theorem c4 : exFor gb 383 38 i4_0 [] (.nm 4) [.int 0, .int 1, .int 2, .int 3, .int 4, .int 5, .int 6, .int 7, .int 8] inB = .ok .nx o5 [] := (for_step (by kernel_rfl) b4_0 (for_step (by kernel_rfl) b4_1 (for_step (by kernel_rfl) b4_2 (for_step (by kernel_rfl) b4_3 (for_step (by kernel_rfl) b4_4 (for_step (by kernel_rfl) b4_5 (for_step (by kernel_rfl) b4_6 (for_step (by kernel_rfl) b4_7 (for_step (by kernel_rfl) b4_8 for_end)))))))))
theorem e4 : exs gb 385 38 i4_0 [] lpB = .ok .nx o5 [] := exs_step (s := .for (.nm 4) inI inB) (ss := []) (for_of (by kernel_rfl) c4) exs_nil
theorem a4 : asgT gb 385 38 o4 [] (.nm 2) w4 = .ok i4_0 [] := by kernel_rfl
theorem b5_0 : exs gb 381 38 (List.set i5_0 4 (some (.int 0))) [] inB = .ok .nx i5_1 [] := exs_its (by kernel_rfl)
theorem b5_1 : exs gb 380 38 (List.set i5_1 4 (some (.int 1))) [] inB = .ok .nx i5_2 [] := exs_its (by kernel_rfl)
theorem b5_2 : exs gb 379 38 (List.set i5_2 4 (some (.int 2))) [] inB = .ok .nx i5_3 [] := exs_its (by kernel_rfl)
theorem b5_3 : exs gb 378 38 (List.set i5_3 4 (some (.int 3))) [] inB = .ok .nx i5_4 [] := exs_its (by kernel_rfl)
theorem b5_4 : exs gb 377 38 (List.set i5_4 4 (some (.int 4))) [] inB = .ok .nx i5_5 [] := exs_its (by kernel_rfl)
theorem b5_5 : exs gb 376 38 (List.set i5_5 4 (some (.int 5))) [] inB = .ok .nx i5_6 [] := exs_its (by kernel_rfl)
theorem b5_6 : exs gb 375 38 (List.set i5_6 4 (some (.int 6))) [] inB = .ok .nx i5_7 [] := exs_its (by kernel_rfl)
theorem b5_7 : exs gb 374 38 (List.set i5_7 4 (some (.int 7))) [] inB = .ok .nx i5_8 [] := exs_its (by kernel_rfl)
theorem b5_8 : exs gb 373 38 (List.set i5_8 4 (some (.int 8))) [] inB = .ok .nx o6 [] := exs_its (by kernel_rfl)
theorem c5 : exFor gb 382 38 i5_0 [] (.nm 4) [.int 0, .int 1, .int 2, .int 3, .int 4, .int 5, .int 6, .int 7, .int 8] inB = .ok .nx o6 [] := (for_step (by kernel_rfl) b5_0 (for_step (by kernel_rfl) b5_1 (for_step (by kernel_rfl) b5_2 (for_step (by kernel_rfl) b5_3 (for_step (by kernel_rfl) b5_4 (for_step (by kernel_rfl) b5_5 (for_step (by kernel_rfl) b5_6 (for_step (by kernel_rfl) b5_7 (for_step (by kernel_rfl) b5_8 for_end)))))))))
theorem e5 : exs gb 384 38 i5_0 [] lpB = .ok .nx o6 [] := exs_step (s := .for (.nm 4) inI inB) (ss := []) (for_of (by kernel_rfl) c5) exs_nil
theorem a5 : asgT gb 384 38 o5 [] (.nm 2) w5 = .ok i5_0 [] := by kernel_rfl
theorem b6_0 : exs gb 380 38 (List.set i6_0 4 (some (.int 0))) [] inB = .ok .nx i6_1 [] := exs_its (by kernel_rfl)
theorem b6_1 : exs gb 379 38 (List.set i6_1 4 (some (.int 1))) [] inB = .ok .nx i6_2 [] := exs_its (by kernel_rfl)
theorem b6_2 : exs gb 378 38 (List.set i6_2 4 (some (.int 2))) [] inB = .ok .nx i6_3 [] := exs_its (by kernel_rfl)
theorem b6_3 : exs gb 377 38 (List.set i6_3 4 (some (.int 3))) [] inB = .ok .nx i6_4 [] := exs_its (by kernel_rfl)
theorem b6_4 : exs gb 376 38 (List.set i6_4 4 (some (.int 4))) [] inB = .ok .nx i6_5 [] := exs_its (by kernel_rfl)
theorem b6_5 : exs gb 375 38 (List.set i6_5 4 (some (.int 5))) [] inB = .ok .nx i6_6 [] := exs_its (by kernel_rfl)
theorem b6_6 : exs gb 374 38 (List.set i6_6 4 (some (.int 6))) [] inB = .ok .nx i6_7 [] := exs_its (by kernel_rfl)
theorem b6_7 : exs gb 373 38 (List.set i6_7 4 (some (.int 7))) [] inB = .ok .nx i6_8 [] := exs_its (by kernel_rfl)
theorem b6_8 : exs gb 372 38 (List.set i6_8 4 (some (.int 8))) [] inB = .ok .nx o7 [] := exs_its (by kernel_rfl)
theorem c6 : exFor gb 381 38 i6_0 [] (.nm 4) [.int 0, .int 1, .int 2, .int 3, .int 4, .int 5, .int 6, .int 7, .int 8] inB = .ok .nx o7 [] := (for_step (by kernel_rfl) b6_0 (for_step (by kernel_rfl) b6_1 (for_step (by kernel_rfl) b6_2 (for_step (by kernel_rfl) b6_3 (for_step (by kernel_rfl) b6_4 (for_step (by kernel_rfl) b6_5 (for_step (by kernel_rfl) b6_6 (for_step (by kernel_rfl) b6_7 (for_step (by kernel_rfl) b6_8 for_end)))))))))
theorem e6 : exs gb 383 38 i6_0 [] lpB = .ok .nx o7 [] := exs_step (s := .for (.nm 4) inI inB) (ss := []) (for_of (by kernel_rfl) c6) exs_nil
theorem a6 : asgT gb 383 38 o6 [] (.nm 2) w6 = .ok i6_0 [] := by kernel_rfl
theorem b7_0 : exs gb 379 38 (List.set i7_0 4 (some (.int 0))) [] inB = .ok .nx i7_1 [] := exs_its (by kernel_rfl)
theorem b7_1 : exs gb 378 38 (List.set i7_1 4 (some (.int 1))) [] inB = .ok .nx i7_2 [] := exs_its (by kernel_rfl)
theorem b7_2 : exs gb 377 38 (List.set i7_2 4 (some (.int 2))) [] inB = .ok .nx i7_3 [] := exs_its (by kernel_rfl)
theorem b7_3 : exs gb 376 38 (List.set i7_3 4 (some (.int 3))) [] inB = .ok .nx i7_4 [] := exs_its (by kernel_rfl)
theorem b7_4 : exs gb 375 38 (List.set i7_4 4 (some (.int 4))) [] inB = .ok .nx i7_5 [] := exs_its (by kernel_rfl)
theorem b7_5 : exs gb 374 38 (List.set i7_5 4 (some (.int 5))) [] inB = .ok .nx i7_6 [] := exs_its (by kernel_rfl)
theorem b7_6 : exs gb 373 38 (List.set i7_6 4 (some (.int 6))) [] inB = .ok .nx i7_7 [] := exs_its (by kernel_rfl)
theorem b7_7 : exs gb 372 38 (List.set i7_7 4 (some (.int 7))) [] inB = .ok .nx i7_8 [] := exs_its (by kernel_rfl)
theorem b7_8 : exs gb 371 38 (List.set i7_8 4 (some (.int 8))) [] inB = .ok .nx o8 [] := exs_its (by kernel_rfl)
theorem c7 : exFor gb 380 38 i7_0 [] (.nm 4) [.int 0, .int 1, .int 2, .int 3, .int 4, .int 5, .int 6, .int 7, .int 8] inB = .ok .nx o8 [] := (for_step (by kernel_rfl) b7_0 (for_step (by kernel_rfl) b7_1 (for_step (by kernel_rfl) b7_2 (for_step (by kernel_rfl) b7_3 (for_step (by kernel_rfl) b7_4 (for_step (by kernel_rfl) b7_5 (for_step (by kernel_rfl) b7_6 (for_step (by kernel_rfl) b7_7 (for_step (by kernel_rfl) b7_8 for_end)))))))))
theorem e7 : exs gb 382 38 i7_0 [] lpB = .ok .nx o8 [] := exs_step (s := .for (.nm 4) inI inB) (ss := []) (for_of (by kernel_rfl) c7) exs_nil
theorem a7 : asgT gb 382 38 o7 [] (.nm 2) w7 = .ok i7_0 [] := by kernel_rfl
theorem b8_0 : exs gb 378 38 (List.set i8_0 4 (some (.int 0))) [] inB = .ok .nx i8_1 [] := exs_its (by kernel_rfl)
theorem b8_1 : exs gb 377 38 (List.set i8_1 4 (some (.int 1))) [] inB = .ok .nx i8_2 [] := exs_its (by kernel_rfl)
theorem b8_2 : exs gb 376 38 (List.set i8_2 4 (some (.int 2))) [] inB = .ok .nx i8_3 [] := exs_its (by kernel_rfl)
theorem b8_3 : exs gb 375 38 (List.set i8_3 4 (some (.int 3))) [] inB = .ok .nx i8_4 [] := exs_its (by kernel_rfl)
theorem b8_4 : exs gb 374 38 (List.set i8_4 4 (some (.int 4))) [] inB = .ok .nx i8_5 [] := exs_its (by kernel_rfl)
theorem b8_5 : exs gb 373 38 (List.set i8_5 4 (some (.int 5))) [] inB = .ok .nx i8_6 [] := exs_its (by kernel_rfl)
theorem b8_6 : exs gb 372 38 (List.set i8_6 4 (some (.int 6))) [] inB = .ok .nx i8_7 [] := exs_its (by kernel_rfl)
theorem b8_7 : exs gb 371 38 (List.set i8_7 4 (some (.int 7))) [] inB = .ok .nx i8_8 [] := exs_its (by kernel_rfl)
theorem b8_8 : exs gb 370 38 (List.set i8_8 4 (some (.int 8))) [] inB = .ok .nx o9 [] := exs_its (by kernel_rfl)
theorem c8 : exFor gb 379 38 i8_0 [] (.nm 4) [.int 0, .int 1, .int 2, .int 3, .int 4, .int 5, .int 6, .int 7, .int 8] inB = .ok .nx o9 [] := (for_step (by kernel_rfl) b8_0 (for_step (by kernel_rfl) b8_1 (for_step (by kernel_rfl) b8_2 (for_step (by kernel_rfl) b8_3 (for_step (by kernel_rfl) b8_4 (for_step (by kernel_rfl) b8_5 (for_step (by kernel_rfl) b8_6 (for_step (by kernel_rfl) b8_7 (for_step (by kernel_rfl) b8_8 for_end)))))))))
theorem e8 : exs gb 381 38 i8_0 [] lpB = .ok .nx o9 [] := exs_step (s := .for (.nm 4) inI inB) (ss := []) (for_of (by kernel_rfl) c8) exs_nil
theorem a8 : asgT gb 381 38 o8 [] (.nm 2) w8 = .ok i8_0 [] := by kernel_rfl
theorem lp : exFor gb 390 38 o0 [] (.nm 2) [w0, w1, w2, w3, w4, w5, w6, w7, w8] lpB = .ok .nx o9 [] := (for_step a0 e0 (for_step a1 e1 (for_step a2 e2 (for_step a3 e3 (for_step a4 e4 (for_step a5 e5 (for_step a6 e6 (for_step a7 e7 (for_step a8 e8 for_end)))))))))
theorem x2 : ex1 gb 391 38 o0 [] s2 = .ok .nx o9 [] := for_of (t := .nm 2) (it := lpI) (b := lpB) (ws := [w0, w1, w2, w3, w4, w5, w6, w7, w8]) (by kernel_rfl) lp
def z0 : Fr := List.replicate 8 none
def z1 : Fr := match ex1 gb 393 38 z0 [] s0 with | .ok _ σ _ => σ | _ => []
theorem x0 : exs gb 394 38 z0 [] [s0, s1, s2, s3] = .ok (.rt (.bl true)) o9 [] := exs_step (σ1 := z1) (st1 := []) (by kernel_rfl) (exs_step (σ1 := o0) (st1 := []) (by kernel_rfl) (exs_step x2 (exs_ret (by kernel_rfl))))
theorem sr_ev : evF gb 395 39 srF [] [] = .ok (.bl true) [] := evF_rt (fd := d__law_services_right) (by kernel_rfl) rfl x0
end Pv.k08
end

section
set_option Elab.async false
set_option linter.all false
set_option maxRecDepth 100000
set_option maxHeartbeats 0
namespace Pv.k08
open PySem PySem.Spec PyProof.Rows L2
theorem ckd : prg.G.fn.all (ckDef prg 200) = true := by decide +kernel
theorem ckl : prg.G.lam.all (ckLam prg 200) = true := by decide +kernel
theorem er_ok : okTrue (evF gb 395 39 erF [] []) = true := by decide +kernel
theorem okTrue_ok {r : Pv.R Pv.W} (h : okTrue r = true) : ∃ st, r = .ok (.bl true) st := by
  unfold okTrue at h
  split at h
  · exact ⟨_, rfl⟩
  · cases h
theorem okInt_ok {r : Pv.R Pv.W} (h : okInt r = true) : ∃ i, r = .ok (.int i) [] := by
  unfold okInt at h
  split at h
  · exact ⟨_, rfl⟩
  · cases h
theorem ev (ns : List Int) (hl : ns.length ≤ 63) (_ : ∀ z, z ∈ ns → Builtin.Int.intBits z ≤ 1048576) : ∃ st, evF gb 400 40 lawF [.lst (ns.map Pv.W.int)] [] = .ok (.bl true) st := by
  obtain ⟨i, h1⟩ := okInt_ok (num_ok ns hl)
  obtain ⟨s2, h3⟩ := okTrue_ok er_ok
  exact law_gen gb _ i [] s2 rfl h1 sr_ev h3
end Pv.k08
open PySem PySem.W PySem.Calls PyProof.Rows
theorem PySem.Challenge.cw_retrykeys_k08_promises_by_hand_holds : PySem.Challenge.rw_retrykeys_k08_promises_by_hand.Holds := by
  w_on; o_law
  refine HandSHeadRun.head_any (r := Pv.k08.R) (q := view Pv.k08.R.prog [Pv.k08.lawI]) (H := Pv.k08.hk) (ob := Pv.k08.ob) (M := 4000) (loose := Pv.k08.loose) (d := HandSHeadRun.topDef Pv.k08.R.prog Pv.k08.lawI) (kwd := []) Pv.seeX_eq
    (by kernel_rfl) (fun s => by kernel_rfl) Pv.k08.run (by kernel_rfl) (by kernel_rfl) (by kernel_rfl) (by rfl) (by first | assumption | decide +kernel) (by decide +kernel) ⟨rfl, rfl, rfl, rfl, rfl, by decide +kernel⟩ ?hw ?hc
  case hw => w_witness2
  case hc =>
    refine LamX.walk_ofTsE (l := PySem.Challenge.rw_retrykeys_k08_promises_by_hand) (n := 63) (k := 40) (x := "script") (CX := fun w => L2.CX (PySem.Challenge.rw_retrykeys_k08_promises_by_hand).prog w) rfl (by decide) (by kernel_rfl) ⟨rfl, by decide, by decide⟩ ?F (fun w H s e s' z => by
      obtain ⟨_, _, _, _, _, _, _, _, _, _, _, _, z⟩ := z
      exact z)
    intro w mg fa h Y G hmg0
    obtain ⟨K, KX, c⟩ := Y
    have hmg : mg (Pv.k08.prg.nmF Pv.k08.lawF) = some (.ref fa) := by
      have e : (HandSHeadRun.topDef Pv.k08.R.prog Pv.k08.lawI).name = Pv.k08.prg.nmF Pv.k08.lawF := by kernel_rfl
      rw [← e]
      exact hmg0
    exact ⟨K, KX, Pv.lawAt (P := Pv.k08.prg) (fuel := 200) (fuelE := 400) (lawF := Pv.k08.lawF) (fdl := Pv.k08.d_law) (Nl := ["script"]) KX G c Pv.k08.ckd Pv.k08.ckl rfl rfl (by decide +kernel) hmg rfl rfl rfl (by decide) rfl rfl Pv.k08.ev⟩
end
