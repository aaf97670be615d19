"""Halverules: functions told by halves, for all n."""
