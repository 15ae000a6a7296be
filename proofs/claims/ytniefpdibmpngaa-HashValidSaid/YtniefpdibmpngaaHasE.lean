/- Slices of symbols, and of numbers: contracts of the document's Next, of Numbers and of slices.Equal. -/
import Derived.Test.YtniefpdibmpngaaHasC
import Derived.LoopTactic
import Derived.Outline
import Derived.Deep.QuietTactic
import Derived.BigQuiet
namespace Go.Proofs.Ytniefpdibmpngaa
set_option linter.unusedVariables false
set_option linter.unusedSimpArgs false
open Go.Joins Go.ChangeShapes Go.WideShapes Go.ChangeAt Go.RowKit

/-- the slice of address a reads as these symbols -/
def RdS (w : World) (a : Option Addr) (l : List Sym) : Prop :=
  0 < l.length → ∃ b off, a = some ⟨b, off, none⟩ ∧ b < w.heap.size ∧ ∀ k (h : k < l.length) j, w.cell? ⟨b, off + k * 8 + j, none⟩ = (symC l[k])[j]? ∨ 8 ≤ j
theorem RdS.below {w w' : World} {a : Option Addr} {l : List Sym} (h : RdS w a l) (hb : Below w.heap.size w w') : RdS w' a l := fun hn => by
  obtain ⟨b, off, e, hl, hc⟩ := h hn
  exact ⟨b, off, e, Nat.lt_of_lt_of_le hl hb.size, fun k hk j => (hc k hk j).imp (fun q => (hb.cell (p := ⟨b, off + k * 8 + j, none⟩) hl).trans q) id⟩
/-- the eight cells of one symbol -/
def Cells8 (w : World) (b o : Nat) (s : Sym) : Prop :=
  w.cell? ⟨b, o, none⟩ = some (.string ⟨s.name.toArray⟩) ∧ w.cell? ⟨b, o + 1, none⟩ = some (.string ⟨s.ver.toArray⟩) ∧ w.cell? ⟨b, o + 2, none⟩ = some (.int .u64 s.place) ∧ w.cell? ⟨b, o + 3, none⟩ = some (.int .u64 s.size) ∧
    w.cell? ⟨b, o + 4, none⟩ = some (.int .i64 s.kind) ∧ w.cell? ⟨b, o + 5, none⟩ = some (.int .i64 s.bind) ∧ w.cell? ⟨b, o + 6, none⟩ = some (.int .i64 s.seen) ∧ w.cell? ⟨b, o + 7, none⟩ = some (.bool s.defd)
theorem RdS.at_ {w : World} {a : Option Addr} {l : List Sym} (h : RdS w a l) {k : Nat} (hk : k < l.length) :
    ∃ b off, a = some ⟨b, off, none⟩ ∧ b < w.heap.size ∧ Cells8 w b (off + k * 8) l[k] := by
  obtain ⟨b, off, e, hl, hc⟩ := h (by omega)
  have g : ∀ j, j < 8 → w.cell? ⟨b, off + k * 8 + j, none⟩ = (symC l[k])[j]? := fun j hj => (hc k hk j).resolve_right (by omega)
  exact ⟨b, off, e, hl, g 0 (by decide), g 1 (by decide), g 2 (by decide), g 3 (by decide), g 4 (by decide), g 5 (by decide), g 6 (by decide), g 7 (by decide)⟩
theorem Cells8.below {w w' : World} {b o : Nat} {s : Sym} (h : Cells8 w b o s) (hb : Below w.heap.size w w') : Cells8 w' b o s := by
  have hl := heap_lt_of_cell h.1
  obtain ⟨h0, h1, h2, h3, h4, h5, h6, h7⟩ := h
  have g : ∀ j v, w.cell? ⟨b, j, none⟩ = some v → w'.cell? ⟨b, j, none⟩ = some v := fun j v q => (hb.cell (p := ⟨b, j, none⟩) hl).trans q
  exact ⟨g _ _ h0, g _ _ h1, g _ _ h2, g _ _ h3, g _ _ h4, g _ _ h5, g _ _ h6, g _ _ h7⟩

theorem wrap_mod (q n b : Nat) (hn : 0 < n) (hn2 : n < 4294967296) : (wrap64 ((q : Int) % (n : Int)) == (b : Int)) = (q % n == b) := by
  have h1 : ((q : Int) % (n : Int)) = ((q % n : Nat) : Int) := by simp
  have h2 := Nat.mod_lt q hn
  rw [h1]
  unfold wrap64
  rw [Bool.eq_iff_iff, beq_iff_eq, beq_iff_eq]
  omega
theorem rshown_sym (s : Sym) (w : World) : Calls Try.prog 13 #[.agg #[.string ⟨s.name.toArray⟩, .string ⟨s.ver.toArray⟩, .int .u64 s.place, .int .u64 s.size, .int .i64 s.kind, .int .i64 s.bind, .int .i64 s.seen, .bool s.defd]] w fun e w' => e = .returned (.bool (shownB s)) ∧ Below w.heap.size w w' := rshown_any _ _ _ _ _ _ _ _ w

set_option maxHeartbeats 1000000 in
theorem next_any (a : Option Addr) (l : List Sym) (c n b f : Nat) (w : World) (hl : RdS w a l) (hm : l.length ≤ 1000000) (hnm : ∀ s ∈ l, s.name.length < 9223372036854775808) (hn : 0 < n) (hn2 : n < 4294967296) (hf : f ≤ l.length) :
    Calls Try.prog 23 #[.slice a l.length c, .int .i64 (n : Int), .int .i64 (b : Int), .int .i64 (f : Int)] w fun e w' => e = .returned (.int .i64 ((nextN l n b f : Nat) : Int)) ∧ Below w.heap.size w w' := by
  obtain ⟨r, hr⟩ : ∃ r, nextN l n b f = r := ⟨_, rfl⟩
  rw [hr]
  obtain ⟨m, hlm⟩ : ∃ m, l.length = m := ⟨_, rfl⟩
  rw [hlm] at hm hf ⊢
  have HL := Lib.hid hl
  have HLM := Lib.hid hlm
  have HR := Lib.hid hr
  have HN := Lib.hid hnm
  clear hl hr hnm hlm
  go_enter Try.func23, Try.ntmps23
  go_wp2_with fail
  go_loopw [9] (fun i wr => ∃ k : Nat, k ≤ m ∧ i = .int .i64 k ∧ Hid (nextN l n b k = r) ∧ Hid (Below w.heap.size w wr)) (fun i _ => m - (intOf i).toNat)
  case atStart => exact ⟨f, hf, rfl, HR, Lib.hid (Below.refl _ _)⟩
  case round =>
    obtain ⟨k, hk, rfl, HK, HB⟩ := hrel
    by_cases h : k < m
    · have hkl : k < l.length := by rw [HLM.out]; exact h
      obtain ⟨B, o, rfl, hBl, hc⟩ := (HL.out.below HB.out).at_ hkl
      have hlen := HN.out _ (List.getElem_mem hkl)
      obtain ⟨s, hs⟩ : ∃ s, l[k] = s := ⟨_, rfl⟩
      rw [hs] at hc hlen
      have HS := Lib.hid hs
      have HC := Lib.hid hc
      obtain ⟨h0, h1, h2, h3, h4, h5, h6, h7⟩ := hc
      clear hs
      by_cases hsh : shownB s = true
      · go_wp2_with fail
        refine (rshown_sym s _).mono ?_; rintro e w1 ⟨rfl, hb1⟩
        rw [hsh]
        have c1 := HC.out.below hb1
        have HB1 := Lib.hid (bTrans HB.out hb1)
        obtain ⟨g0, g1, g2, g3, g4, g5, g6, g7⟩ := c1
        clear h0 h1 h2 h3 h4 h5 h6 h7 hb1 HB
        have hn4 : ¬ (n : Int) % 4294967296 = 0 := by omega
        go_wp2_with fail
        refine (rof_any s.name _ hlen).mono ?_; rintro e w' ⟨rfl, rfl⟩
        have hlt := ofH_lt s.name
        have hm1 : ((n : Int) % 4294967296) = (n : Int) := by omega
        generalize hh : ofH s.name = q at *
        have HH := Lib.hid hh
        clear hh
        go_wp2_with fail
        · have ht : (wrap64 ((q : Int) % (n : Int)) == (b : Int)) = true := by assumption
          rw [wrap_mod q n b hn hn2] at ht
          have hr := HK.out
          rw [nextN_hit l n b k hkl (by unfold inB; rw [HS.out, hsh, HH.out, ht]; rfl)] at hr
          go_ret
          exact ⟨ret_int (by omega), HB1.out⟩
        · have ht : (wrap64 ((q : Int) % (n : Int)) == (b : Int)) = false := by assumption
          rw [wrap_mod q n b hn hn2] at ht
          have hr := HK.out
          rw [nextN_miss l n b k hkl (by unfold inB; rw [HS.out, hsh, HH.out, ht]; rfl)] at hr
          go_roundw
          case rel => exact ⟨k + 1, by omega, by go_num, Lib.hid hr, HB1⟩
          case measure => simp [intOf]; omega
      · rw [Bool.not_eq_true] at hsh
        go_wp2_with fail
        refine (rshown_sym s _).mono ?_; rintro e w1 ⟨rfl, hb1⟩
        rw [hsh]
        have HB1 := Lib.hid (bTrans HB.out hb1)
        clear h0 h1 h2 h3 h4 h5 h6 h7 hb1 HB
        have hr := HK.out
        rw [nextN_miss l n b k hkl (by unfold inB; rw [HS.out, hsh]; rfl)] at hr
        have HR2 := Lib.hid hr
        clear hr
        go_wp2_with fail
        go_roundw
        case rel => exact ⟨k + 1, by omega, by go_num, HR2, HB1⟩
        case measure => simp [intOf]; omega
    · have e : nextN l n b k = 0 := nextN_end l n b k (by rw [HLM.out]; omega)
      have hr := HK.out
      rw [e] at hr
      have HR2 := Lib.hid hr
      clear e hr
      go_wp2_with fail
      go_ret
      exact ⟨ret_int (by have := HR2.out; omega), HB.out⟩
end Go.Proofs.Ytniefpdibmpngaa
