"""Betweenlooks: what somebody who looks only now and then can know."""
