/- The document's memory: a capability is stored: contract. -/
import Derived.Test.YteaididdamihlaaTmW
namespace Go.Proofs.Yteaididdamihlaa
set_option linter.unusedVariables false
set_option linter.unusedSimpArgs false
open Go.Joins Go.ChangeShapes Go.WideShapes Go.ChangeAt Go.RowKit Go.Deep

theorem ins_map (g : Nat) (l : List Nat) : ins (32 * g) (l.map (32 * ·)) = (ins g l).map (32 * ·) := by
  induction l with
  | nil => rfl
  | cons x r ih =>
    rw [List.map_cons]
    unfold ins
    by_cases h : g < x
    · rw [if_pos h, if_pos (by omega)]; rfl
    · rw [if_neg h, if_neg (by omega), ih]; rfl
/-- a tag is put -/
theorem rtag_step {W U : World} {R : Nat} {F : Nat → Prop} {m : Mm} {na ca ka : Option Addr} {nc cc kc : Nat} {cs : List (Nat × Nat)} (h : RmO W R F m na ca ka nc cc kc cs) {g : Nat} (hg : g ∉ m.mks) (hp : g / 8 ∈ m.pgs) (hb : Below W.heap.size W U) {ra : Option Addr} {rc : Nat}
    (ho : U.ownsRow W.heap.size 29 1 (.slice ra (m.mks.length + 1) rc) (m.mks.length + 1) (u64s ((ins g m.mks).map (32 * ·)))) :
    RmAt (U.setCell ⟨R, 2, none⟩ (.slice ra (m.mks.length + 1) rc)) R (FN F W (U.setCell ⟨R, 2, none⟩ (.slice ra (m.mks.length + 1) rc))) (tagP m g) ∧ KP W.heap.size F W (U.setCell ⟨R, 2, none⟩ (.slice ra (m.mks.length + 1) rc)) := by
  have hR : R < W.heap.size := h.lt _ h.fr
  have hk : KP W.heap.size (· = R) W (U.setCell ⟨R, 2, none⟩ (.slice ra (m.mks.length + 1) rc)) := (KP.of_below (· = R) hb).set ⟨R, 2, none⟩ (Or.inr rfl) _
  have hbx : BoxN (U.setCell ⟨R, 2, none⟩ (.slice ra (m.mks.length + 1) rc)) R #[.slice na m.pgs.length nc, .slice ca cs.length cc, .slice ra (m.mks.length + 1) rc, .int .i64 (m.bud : Int)] := (boxN_below h.box hb).set 2 (.slice ra (m.mks.length + 1) rc)
  have ho2 := own_kp2 ho (KP.set1 U R 2 (.slice ra (m.mks.length + 1) rc)) (by intro q hq e; have h1 : q = R := e; omega)
  have hl : (tagP m g).mks.length = m.mks.length + 1 := length_ins g m.mks
  refine ⟨⟨na, ca, ra, nc, cc, rc, cs, okm_tagP h.ok hg hp, by rw [hl]; exact hbx, ?_, ?_, ?_, ⟨h.co.look, h.co.in_, h.co.nd⟩, Or.inl h.fr, fun q hq => ?_⟩, hk.mono (Nat.le_refl _) (fun q _ e => by rw [show q = R from e]; exact h.fr)⟩
  · exact (h.rn.blocks (fun q hf hne => hk.block q (h.lt q hf) hne) hk.size).mono (fun q hf => Or.inl hf)
  · exact (h.rc.blocks (fun q hf hne => hk.block q (h.lt q hf) hne) hk.size).mono (fun q hf => Or.inl hf)
  · have := rdF_own (F := F) (R := R) ho2 (Nat.le_refl _) hR
    rw [Nat.mul_one] at this
    rw [hl]
    exact this
  · rcases hq with hq | hq
    · exact Nat.lt_of_lt_of_le (h.lt q hq) hk.size
    · exact hq.2
theorem spotE_fits {m : Mm} {a : Nat} (he : spotE m a = 0) : a % 32 = 0 ∧ a / 256 ∈ m.pgs := by
  rcases spot_place (fun _ => 0) m a with ⟨-, h1, h2, -⟩ | ⟨h, -⟩
  · exact ⟨h1, h2⟩
  · exact absurd he h
theorem putC_steps (m : Mm) (a : Nat) (c : Cp) : wrL m a (capB c) = wrL (wrL (wrL (wrL m a (littleN c.b.toNat 8)) (a + 8) (littleN c.t.toNat 8)) (a + 16) (littleN c.a.toNat 8)) (a + 24) [(c.p % 256).toNat, typeB c.y, 0, 0, 0, 0, 0, 0] := by
  unfold capB
  rw [wrL_append, wrL_append, wrL_append, littleN_length, littleN_length, littleN_length]
end Go.Proofs.Yteaididdamihlaa
