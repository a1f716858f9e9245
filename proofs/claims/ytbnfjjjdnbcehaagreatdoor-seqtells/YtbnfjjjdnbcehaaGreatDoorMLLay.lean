/-
  What is laid here: as LayT.
-/
import Derived.Test.YtbnfjjjdnbcehaaGreatDoorMLayT
import Derived.Test.YtbnfjjjdnbcehaaGreatDoorMLay8

