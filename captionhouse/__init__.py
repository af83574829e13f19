"""Captionhouse: captions, from spoken words to what a late viewer sees."""
