/-
  What is laid here: as LayT.
-/
import Derived.Test.YtjpgpbfnmokmiabGreatDoorMLayT
import Derived.Test.YtjpgpbfnmokmiabGreatDoorMLay8

