"""Retryslots: fixed retry schedules after an outage."""
