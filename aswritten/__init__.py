"""Models whose answers have papers about the model as it is written."""
