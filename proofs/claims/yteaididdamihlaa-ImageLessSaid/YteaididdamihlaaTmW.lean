/- The document's memory: pages are mapped: contract. -/
import Derived.Test.YteaididdamihlaaTmV
namespace Go.Proofs.Yteaididdamihlaa
set_option linter.unusedVariables false
set_option linter.unusedSimpArgs false
open Go.Joins Go.ChangeShapes Go.WideShapes Go.ChangeAt Go.RowKit Go.Deep

theorem rmap_step {W U : World} {R : Nat} {F : Nat → Prop} {m : Mm} {na ca ka : Option Addr} {nc cc kc : Nat} {cs : List (Nat × Nat)} (h : RmO W R F m na ca ka nc cc kc cs) {p : Nat} (hp : p ∉ m.pgs) (hp1 : p < 65536) (hl : m.pgs.length < m.bud) (hb : Below W.heap.size W U) {ra : Option Addr} {rc : Nat}
    (ho : U.ownsRow W.heap.size 29 1 (.slice ra (ins p m.pgs).length rc) (ins p m.pgs).length (u64s (ins p m.pgs))) :
    RmAt (U.setCell ⟨R, 0, none⟩ (.slice ra (ins p m.pgs).length rc)) R (FN F W (U.setCell ⟨R, 0, none⟩ (.slice ra (ins p m.pgs).length rc))) (addP m p) ∧ KP W.heap.size F W (U.setCell ⟨R, 0, none⟩ (.slice ra (ins p m.pgs).length rc)) := by
  have hR : R < W.heap.size := h.lt _ h.fr
  have hk : KP W.heap.size (· = R) W (U.setCell ⟨R, 0, none⟩ (.slice ra (ins p m.pgs).length rc)) := (KP.of_below (· = R) hb).set ⟨R, 0, none⟩ (Or.inr rfl) _
  have hbx : BoxN (U.setCell ⟨R, 0, none⟩ (.slice ra (ins p m.pgs).length rc)) R #[.slice ra (ins p m.pgs).length rc, .slice ca cs.length cc, .slice ka m.mks.length kc, .int .i64 (m.bud : Int)] := (boxN_below h.box hb).set 0 (.slice ra (ins p m.pgs).length rc)
  have ho2 := own_kp2 ho (KP.set1 U R 0 (.slice ra (ins p m.pgs).length rc)) (by intro q hq e; have h1 : q = R := e; omega)
  refine ⟨⟨ra, ca, ka, rc, cc, kc, cs, okm_addP h.ok hp hp1 hl, hbx, ?_, ?_, ?_, ⟨h.co.look, fun x hx => ⟨(mem_ins p _ _).2 (Or.inr (h.co.in_ x hx).1), (h.co.in_ x hx).2⟩, h.co.nd⟩, Or.inl h.fr, fun q hq => ?_⟩, hk.mono (Nat.le_refl _) (fun q _ e => by rw [show q = R from e]; exact h.fr)⟩
  · have := rdF_own (F := F) (R := R) ho2 (Nat.le_refl _) hR
    rw [Nat.mul_one] at this
    exact this
  · exact (h.rc.blocks (fun q hf hne => hk.block q (h.lt q hf) hne) hk.size).mono (fun q hf => Or.inl hf)
  · exact (h.rk.blocks (fun q hf hne => hk.block q (h.lt q hf) hne) hk.size).mono (fun q hf => Or.inl hf)
  · rcases hq with hq | hq
    · exact Nat.lt_of_lt_of_le (h.lt q hq) hk.size
    · exact hq.2
theorem fn_step {F : Nat → Prop} {W wr W3 : World} (hW : W.heap.size ≤ wr.heap.size) (h3 : wr.heap.size ≤ W3.heap.size) : ∀ q, FN (FN F W wr) wr W3 q → FN F W W3 q := fun q hq => by
  rcases hq with (hq | hq) | hq
  · exact Or.inl hq
  · exact Or.inr ⟨hq.1, by omega⟩
  · exact Or.inr ⟨by omega, hq.2⟩
end Go.Proofs.Yteaididdamihlaa
