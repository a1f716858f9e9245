/- What is proved here: contracts for RecordMakes. Conditions: as named. -/
import Derived.Test.YtbnfjjjdnbcehaaGreatDoorXFBack
import Derived.Deep.RegionHeld3
set_option maxHeartbeats 16000000
namespace Go.Proofs.YtbnfjjjdnbcehaaGreatDoor.Diff
open Go.RowKit
set_option maxRecDepth 100000
def OnlyN (G : Act → World → Prop) : Exit → Act → World → Prop
 | .normal, a, w => G a w
 | _, _, _ => False
theorem onlyN {G : Act → World → Prop} {a : Act} {w : World} (h : G a w) : OnlyN G .normal a w := h
def noDefer (ops : Array Oper) : Bool := ops.all fun o => match o.op with | .defer _ => false | .call _ => true | _ => true
theorem noDefer_spec {ops : Array Oper} (h : noDefer ops = true) {i : Nat} {o : Oper} (ho : ops[i]? = some o) : ∀ c, o.op ≠ .defer c := fun c e => by
 have hm : o ∈ ops := Array.mem_of_getElem? ho
 have := (Array.all_eq_true_iff_forall_mem.1 h) o hm
 rw [e] at this
 cases this
theorem rows_round {P : Program} {l n : Nat} {row : String} {args : Array Value} {w : World} {R : Value → World → Prop} (h : Rows P row args w R) : RowsIn (Fence.wide.inRound l) n P row args w R :=
 fun c cs _ => let ⟨v, w', r, s⟩ := h c cs; ⟨v, w', r, stepsIn_wide.2 s⟩
theorem op_round {P : Program} {l n : Nat} {o : Oper} {a : Act} {w : World} {K K' : Act → World → Prop} {G : Act → World → Prop} (hd : ∀ c, o.op ≠ .defer c) (hK : ∀ a w, K a w → K' a w)
  (h : o.wp P a w K (OnlyN G)) : o.wpIn (Fence.wide.inRound l) n P a w K' (OnlyN G) := by
 refine ⟨fun _ _ => trivial, ?_⟩
 rw [Oper.semAt_eq _ _ _ hd]
 unfold Oper.wp at h
 revert h
 generalize (execOp a.eval o).run P w = r
 intro h
 cases r with
 | ok x w' =>
  cases x with
  | value v => exact hK _ _ h
  | skip => exact hK _ _ h
  | defer d => exact hK _ _ h
  | enter f args =>
   refine ⟨(fun e => by cases e), callsIn_wide.2 (Calls.mono h ?_)⟩
   intro e w'' he
   cases e with
   | returned v => exact hK _ _ he
   | panicked c => exact he
   | outgrown => exact he
  | row r args => exact ⟨(fun e => by cases e), rows_round (Rows.mono h fun v w'' he => hK _ _ he)⟩
  | _ => exact h.elim
 | halt x w' => cases x <;> exact h
theorem any_round {P : Program} {l n : Nat} {md : Region.Mode} {ops : Array Oper} {G : Act → World → Prop} (hd : noDefer ops = true) :
  ∀ (fuel : Nat) (listed : Array Bool) (a : Act) (w : World), wpAny P md ops (OnlyN G) fuel listed a w → wpAnyIn (Fence.wide.inRound l) n P md ops (OnlyN G) fuel listed a w
 | 0, _, _, _, h => h
 | fuel + 1, listed, a, w, h => ⟨h.1, fun i hi => by
   have h1 := h.2 i hi
   unfold wpOp at h1
   unfold wpOpIn
   cases ho : ops[i]? with
   | none => rw [ho] at h1; exact any_round hd fuel _ _ _ h1
   | some o =>
    rw [ho] at h1
    simp only at h1 ⊢
    split
    ·rename_i hw
     rw [if_pos hw] at h1
     rcases h1 with h1 | ⟨_, _, _, h1⟩
     ·exact op_round (noDefer_spec hd ho) (fun a w h => any_round hd fuel _ a w h) h1
     ·exact h1.elim
    ·rename_i hw
     rw [if_neg hw] at h1
     exact ⟨fun _ _ => trivial, any_round hd fuel _ _ _ h1⟩⟩
theorem region_round {P : Program} {l n id : Nat} {ops : Array Oper} {Q : Exit → Act → World → Prop} {S : World → Prop} {a : Act} {w : World} (hm : P.follows .mixedOrders = true) (hd : noDefer ops = true) (hS : S w.drew)
  (h : S w.drew → wpAnyH P .any ops (OnlyN (Q .normal)) S ops.size (Array.replicate ops.size false) a w.drew) : (Code.region id ops true).wpIn (Fence.wide.inRound l) n P Q a w := by
 refine wpIn_mono (Q := OnlyN (Q .normal)) (wpIn_region_any hm (any_round hd _ _ _ _ (wpAny_of_held _ _ _ _ (h hS)))) ?_
 intro e a' w' he
 cases e <;> first | exact he | exact he.elim
theorem region_wide {P : Program} {n id : Nat} {ops : Array Oper} {Q : Exit → Act → World → Prop} {S : World → Prop} {a : Act} {w : World} (hm : P.follows .mixedOrders = true) (hS : S w.drew)
  (h : S w.drew → wpAnyH P .any ops (OnlyN (Q .normal)) S ops.size (Array.replicate ops.size false) a w.drew) : (Code.region id ops true).wpIn Fence.wide n P Q a w := by
 refine wpIn_wide.2 (wp_mono (Q := OnlyN (Q .normal)) (wp_region_held hm (h hS)) ?_)
 intro e a' w' he
 cases e <;> first | exact he | exact he.elim
theorem step_app {P : Program} {ops : Array Oper} {o : Oper} {a : Act} {w w' : World} {K : Act → World → Prop} {Q : Exit → Act → World → Prop} {E : Prop} {v : Value} {t : TypeId} (hgd : o.guard = none) (s x : Operand)
  (ho : o.op = .call { callee := .builtin .append, args := #[s, x], argTypes := #[t, t] }) {vs vx : Value} (hs : a.eval s = vs) (hx : a.eval x = vx) (hr : (Builtin.append_ #[t, t] o.type #[vs, vx]).run P w = .ok v w') (h : K (a.put o.dst v) w') :
  if Region.wanted o (yielded ops a.tmps) = true then Oper.wp P o a w K Q else E := by
 have hw : Region.wanted o (yielded ops a.tmps) = true := by simp [Region.wanted, hgd]
 rw [if_pos hw]
 unfold Oper.wp execOp
 simp only [ho, resolve, invoke, builtin, Sem.run_bind, Sem.run_pure, Result.andThen_ok, List.map_toArray, List.map_cons, List.map_nil, hs, hx, hr]
 exact h
end Go.Proofs.YtbnfjjjdnbcehaaGreatDoor.Diff
