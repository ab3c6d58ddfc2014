"""Earlyscribe: machines that write as they read, brought to one plainest form."""
