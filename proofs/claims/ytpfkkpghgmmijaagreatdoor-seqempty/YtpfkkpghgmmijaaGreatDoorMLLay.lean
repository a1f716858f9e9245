/-
  What is laid here: as LayT.
-/
import Derived.Test.YtpfkkpghgmmijaaGreatDoorMLayT
import Derived.Test.YtpfkkpghgmmijaaGreatDoorMLay8

