/- What is proved here: contracts that SeqTells stands on. Conditions: as each theorem names them. -/
import Derived.Test.YtbnfjjjdnbcehaaGreatDoorMLayT
import Derived.Test.YtbnfjjjdnbcehaaGreatDoorMLay8
