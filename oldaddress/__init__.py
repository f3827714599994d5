"""Oldaddress: addresses handed out for ever, things that move on."""
