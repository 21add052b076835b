"""Which steps of a workflow need protection against repetition."""
