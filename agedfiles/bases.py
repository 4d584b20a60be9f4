"""What files are known by where the module of files cannot be imported."""


class AnyFile:
    """The base of File alone: rules are asked about files, and files keep a rule."""
