/-
  What is proved here: the contracts that the statement stands on: PLay, LLay. Conditions: as each theorem names them.
-/
import Derived.Test.YtbiilnhefoplkaaGreatDoorMLayT

