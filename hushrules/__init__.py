"""Hushrules: rules that hush and wake rules, told for ever."""
