"""Dutyweeks: people dealt to shifts and duties, with papers."""
