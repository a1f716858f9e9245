/-
  What is laid here: as LayT.
-/
import Derived.Test.YtjpgpbfnmokmiaaGreatDoorMLayT
import Derived.Test.YtjpgpbfnmokmiaaGreatDoorMLay8

