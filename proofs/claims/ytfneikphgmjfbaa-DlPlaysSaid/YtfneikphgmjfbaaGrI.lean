/- Begin: contract. -/
import Derived.Test.YtfneikphgmjfbaaGrH
import Derived.Laws.EntriesVeiled
import Derived.Deep.Onto
namespace Go.Proofs.Ytfneikphgmjfbaa
set_option linter.unusedVariables false
set_option linter.unusedSimpArgs false
open Go.Joins Go.ChangeShapes Go.WideShapes Go.ChangeAt Go.RowKit

/-- where Begin stands while it marks those of the order -/
def BegPre (w0 W : World) (H mb : Nat) (a : Option Addr) (c : Nat) (l : List Obj) (ord : List Nat) : Prop :=
  (W.heap.size = H + 3 ∧ w0.heap.size < H ∧ w0.heap.size < mb ∧ mb < H) ∧
  (W.cell? ⟨w0.heap.size, 0, none⟩ = some (.slice a l.length c) ∧ W.cell? ⟨H + 2, 0, none⟩ = some (.slice (some ⟨H + 1, 0, none⟩) l.length l.length) ∧ W.cell? ⟨H, 0, none⟩ = some (.map (some mb))) ∧
  PlacesAt W mb l ∧ ((∀ j, W.frozen? ⟨H + 1, j, none⟩ = false) ∧ ∀ k, k < l.length → W.cell? ⟨H + 1, k, none⟩ = some (.bool (ord.contains k))) ∧ Below w0.heap.size w0 W
theorem BegPre.mark {w0 W : World} {H mb : Nat} {a : Option Addr} {c : Nat} {l : List Obj} {ord : List Nat} (h : BegPre w0 W H mb a c l ord) {k : Nat} (hk : k < l.length) : BegPre w0 (W.setCell ⟨H + 1, k, none⟩ (.bool true)) H mb a c l (ord ++ [k]) := by
  obtain ⟨⟨h1, h2, h3, h4⟩, ⟨c1, c2, c3⟩, hp, ⟨m1, m2⟩, hb⟩ := h
  have far : ∀ b j, b ≠ H + 1 → (W.setCell ⟨H + 1, k, none⟩ (.bool true)).cell? ⟨b, j, none⟩ = W.cell? ⟨b, j, none⟩ := fun b j hne => World.cell?_setCell_other _ _ _ _ (fun e => hne (by injection e with e1; exact e1.symm))
  refine ⟨⟨by simpa using h1, h2, h3, h4⟩, ⟨(far _ _ (by omega)).trans c1, (far _ _ (by omega)).trans c2, (far _ _ (by omega)).trans c3⟩, hp.block (Below.heap_setCell _ _ _ _ (show mb ≠ H + 1 by omega)), ⟨fun j => by rw [World.frozen?_setCell]; exact m1 j, fun j hj => ?_⟩, hb.setCell (p := ⟨H + 1, k, none⟩) (by show w0.heap.size ≤ H + 1; omega) _⟩
  by_cases e : k = j
  · subst e
    rw [World.cell?_setCell_same _ _ _ (m2 k hj)]
    simp
  · rw [World.cell?_setCell_other _ _ _ _ (by simp [e]), m2 j hj]
    have e' : ¬ j = k := fun q => e q.symm
    simp [e']
theorem BegPre.start (w w1 : World) (mb : Nat) (a : Option Addr) (c : Nat) (l : List Obj) (t0 t1 t2 t3 : TypeId) (hb1 : Below (w.alloc (.cells #[.slice a l.length c] t0)).heap.size (w.alloc (.cells #[.slice a l.length c] t0)) w1) (hp : PlacesAt w1 mb l) (hmb : (w.alloc (.cells #[.slice a l.length c] t0)).heap.size ≤ mb) :
    BegPre w (((w1.alloc (.cells #[.map (some mb)] t1)).alloc (.cells (madeCells #[.bool false] l.length) t2)).alloc (.cells #[.slice (some ⟨w1.heap.size + 1, 0, none⟩) l.length l.length] t3)) w1.heap.size mb a c l [] := by
  have hz := hb1.size
  rw [size_alloc] at hz hmb
  have hpl := hp.lt
  have s1 := size_alloc w1 (.cells #[.map (some mb)] t1)
  have s2 := size_alloc (w1.alloc (.cells #[.map (some mb)] t1)) (.cells (madeCells #[.bool false] l.length) t2)
  have s3 := size_alloc ((w1.alloc (.cells #[.map (some mb)] t1)).alloc (.cells (madeCells #[.bool false] l.length) t2)) (.cells #[.slice (some ⟨w1.heap.size + 1, 0, none⟩) l.length l.length] t3)
  rw [s1] at s2
  rw [s2] at s3
  have bel := bAlloc (bAlloc (bAlloc (Below.refl w1.heap.size w1) (.cells #[.map (some mb)] t1)) (.cells (madeCells #[.bool false] l.length) t2)) (.cells #[.slice (some ⟨w1.heap.size + 1, 0, none⟩) l.length l.length] t3)
  have bel0 := bTrans (bAlloc (Below.refl w.heap.size w) _) hb1
  have hbo : w1.cell? ⟨w.heap.size, 0, none⟩ = some (.slice a l.length c) := (boxed hb1 0).trans rfl
  refine ⟨⟨s3, by omega, by omega, hpl⟩, ⟨?_, ?_, ?_⟩, hp.below bel, ⟨fun j => ?_, fun k hk => ?_⟩, bTrans bel0 bel⟩
  · exact (bel.cell (p := ⟨w.heap.size, 0, none⟩) (by simp; omega)).trans hbo
  · have k2 := boxed (w := (w1.alloc (.cells #[.map (some mb)] t1)).alloc (.cells (madeCells #[.bool false] l.length) t2)) (cs := #[.slice (some ⟨w1.heap.size + 1, 0, none⟩) l.length l.length]) (t := t3) (Below.refl _ _) 0
    rw [s2] at k2
    exact k2
  · exact (boxed (w := w1) (bAlloc (bAlloc (Below.refl _ _) _) _) 0).trans rfl
  · exact ((bAlloc (Below.refl _ _) _).frozen (p := ⟨w1.heap.size + 1, j, none⟩) (by rw [s2]; simp)).trans (frozen_new _ _ _ _ _ s1.symm)
  · exact ((bAlloc (Below.refl _ _) _).cell (p := ⟨w1.heap.size + 1, k, none⟩) (by rw [s2]; simp)).trans (cell_made _ _ _ _ _ _ s1.symm hk)
theorem BegPre.done {w0 W : World} {H mb : Nat} {a : Option Addr} {c : Nat} {l : List Obj} {ord : List Nat} (h : BegPre w0 W H mb a c l ord) (t1 t2 : TypeId) :
    BegAt w0 ((W.alloc (.cells #[.slice none 0 0] t1)).alloc (.cells #[.func (.func 46) #[] #[.pointer (some ⟨w0.heap.size, 0, none⟩), .pointer (some ⟨H + 2, 0, none⟩), .pointer (some ⟨H, 0, none⟩), .pointer (some ⟨H + 4, 0, none⟩), .pointer (some ⟨H + 3, 0, none⟩)]] t2)) (H + 5) w0.heap.size (H + 2) H (H + 4) (H + 3) mb (H + 1) a c l ord [] [] := by
  obtain ⟨⟨h1, h2, h3, h4⟩, ⟨c1, c2, c3⟩, hp, ⟨m1, m2⟩, hb⟩ := h
  have s1 := size_alloc W (.cells #[.slice none 0 0] t1)
  rw [h1] at s1
  have s2 := size_alloc (W.alloc (.cells #[.slice none 0 0] t1)) (.cells #[.func (.func 46) #[] #[.pointer (some ⟨w0.heap.size, 0, none⟩), .pointer (some ⟨H + 2, 0, none⟩), .pointer (some ⟨H, 0, none⟩), .pointer (some ⟨H + 4, 0, none⟩), .pointer (some ⟨H + 3, 0, none⟩)]] t2)
  rw [s1] at s2
  have bel := bAlloc (bAlloc (Below.refl W.heap.size W) (.cells #[.slice none 0 0] t1)) (.cells #[.func (.func 46) #[] #[.pointer (some ⟨w0.heap.size, 0, none⟩), .pointer (some ⟨H + 2, 0, none⟩), .pointer (some ⟨H, 0, none⟩), .pointer (some ⟨H + 4, 0, none⟩), .pointer (some ⟨H + 3, 0, none⟩)]] t2)
  have far : ∀ b j, b < H + 3 → _ := fun b j hlt => bel.cell (p := ⟨b, j, none⟩) (by rw [h1]; exact hlt)
  refine ⟨⟨by omega, by omega, by omega, by omega, by omega, by omega, by omega, by omega, by omega, by omega, by omega⟩, ⟨⟨by omega, by omega, by omega, by omega, by omega, by omega⟩, by omega, by omega, by omega, by omega, by omega⟩, ⟨(far _ _ (by omega)).trans c1, (far _ _ (by omega)).trans c2, (far _ _ (by omega)).trans c3, ?_, ?_⟩, hp.below bel, ⟨fun j => ?_, fun k hk => ?_⟩, ⟨.slice none 0 0, ?_, World.ownsRow_nil _ _ _ _⟩, bTrans hb bel, ⟨by simp, by simp, by simp, by simp⟩⟩
  · have k := boxed (w := W.alloc (.cells #[.slice none 0 0] t1)) (cs := #[.func (.func 46) #[] #[.pointer (some ⟨w0.heap.size, 0, none⟩), .pointer (some ⟨H + 2, 0, none⟩), .pointer (some ⟨H, 0, none⟩), .pointer (some ⟨H + 4, 0, none⟩), .pointer (some ⟨H + 3, 0, none⟩)]]) (t := t2) (Below.refl _ _) 0
    rw [s1] at k
    exact k
  · refine ((bAlloc (Below.refl _ _) _).frozen (p := ⟨H + 3, 0, none⟩) (by rw [s1]; simp)).trans (frozen_new _ _ _ _ _ h1.symm)
  · exact (bel.frozen (p := ⟨H + 1, j, none⟩) (by rw [h1]; simp)).trans (m1 j)
  · rw [far _ _ (by omega), m2 k hk]
    unfold waitB
    simp [hk]
  · refine ((bAlloc (Below.refl _ _) _).cell (p := ⟨H + 3, 0, none⟩) (by rw [s1]; simp)).trans ?_
    have k := boxed (w := W) (cs := #[.slice none 0 0]) (t := t1) (Below.refl _ _) 0
    rw [h1] at k
    exact k
/-- what Begin leaves -/
def BeginPost (w : World) (l : List Obj) (ord : List Nat) (e : Ending) (w' : World) : Prop :=
  ∃ a c m1 o1, e = .returned (.slice a o1.length c) ∧ Vis l ord [] [] (ord.map some) m1 o1 ∧ w'.ownsRow w.heap.size 3 1 (.slice a o1.length c) o1.length (i64s (ordZ o1)) ∧ GoodO l m1 o1 ∧ Below w.heap.size w w'
set_option maxRecDepth 100000 in
set_option maxHeartbeats 4000000 in
theorem begin_any (a : Option Addr) (l : List Obj) (c : Nat) (b : Option Addr) (ord : List Nat) (d : Nat) (w : World) (hl : RdO w a l) (hm : l.length ≤ 1000000) (hnm : Named l) (ho : Rd w b ord.length (i64s (ordZ ord))) (hord : ∀ k ∈ ord, k < l.length) (hol : ord.length ≤ 1000000) :
    Calls Try.prog 30 #[.slice a l.length c, .slice b ord.length d] w (BeginPost w l ord) := by
  have HL := Lib.hid hl
  have HN := Lib.hid hnm
  have HORD := Lib.hid hord
  have HPL := Lib.hid (fun W (hW : RdO W a l) => places_any a l c W hW hm (fun o ho => (hnm o ho).1))
  have HB1 := Lib.hid (fun B2 bl bw bm bf bb mb mw met out k W h hk => begin1_any w B2 bl bw bm bf bb mb mw a c l ord hl hm hnm (waits l ord met) met out k W h (Nat.le_refl _) hk)
  have hmk := run_make_row' (P := Try.prog) 73 4 (.bool false) 1 Try.underlying73 (by kernel_rfl) rfl .i64 .i64 l.length (by omega) (by omega)
  have HRO := Lib.hid ho
  clear hl hnm hord ho
  obtain ⟨m, hlm⟩ : ∃ m, l.length = m := ⟨_, rfl⟩
  obtain ⟨q, hq⟩ : ∃ q, ord.length = q := ⟨_, rfl⟩
  rw [hlm] at hm HPL hmk ⊢
  rw [hq] at hol ⊢
  have HLM := Lib.hid hlm
  have HQ := Lib.hid hq
  clear hlm hq
  have hbx : (w.alloc (.cells #[.slice a m c] 22)).cell? ⟨w.heap.size, 0, none⟩ = some (.slice a m c) := (boxed (Below.refl _ _) 0).trans rfl
  go_enter Try.func30, Try.ntmps30
  go_wp2_with fail
  refine (HPL.out _ (HL.out.below (bAlloc (Below.refl _ _) _))).mono ?_; rintro e w1 ⟨mb, rfl, hp, hmb, hb1⟩
  have hbx1 := (hb1.cell (p := ⟨w.heap.size, 0, none⟩) (by simp)).trans hbx
  have hz1 : w.heap.size < w1.heap.size := by have := hb1.size; simp at this; omega
  have hst := BegPre.start w w1 mb a c l 22 74 4 73 (by rw [HLM.out]; exact hb1) hp (by rw [HLM.out]; exact hmb)
  rw [HLM.out] at hst
  have HST := Lib.hid hst
  clear hst hp hmb hb1 hbx
  go_wp2_with fail
  clear hmk hbx1
  obtain ⟨H, hH⟩ : ∃ H, w1.heap.size = H := ⟨_, rfl⟩
  rw [hH] at HST ⊢
  clear hH hz1
  go_loopw [20] (fun i wr => ∃ j : Nat, i = .int .i64 j ∧ j ≤ q ∧ Hid (BegPre w wr H mb a c l (ord.take j))) (fun i _ => q - (intOf i).toNat)
  case atStart => exact ⟨0, rfl, by omega, by simpa using HST⟩
  case round =>
    obtain ⟨j, rfl, hj, HP⟩ := hrel
    obtain ⟨⟨p1, p2, p3, p4⟩, ⟨c1, c2, c3⟩, -, ⟨m1, m2⟩, hbel⟩ := HP.out
    rw [HLM.out] at c1 c2
    by_cases hjq : j < q
    · have hjo : j < ord.length := by rw [HQ.out]; exact hjq
      have hro := HRO.out.below hbel
      rw [HQ.out] at hro
      obtain ⟨B, off, rfl, -, hc⟩ := hro.at_ hjq
      rw [ordZ_get ord j hjo] at hc
      have hk := HORD.out _ (List.getElem_mem hjo)
      have htk : ord.take (j + 1) = ord.take j ++ [ord[j]] := List.take_succ_eq_append_getElem hjo
      generalize ord[j] = k at hc hk htk
      have hmk := m2 k hk
      have hmf := m1 k
      have HMK := Lib.hid (HP.out.mark hk)
      rw [← htk] at HMK
      rw [HLM.out] at hk
      have k0 : (0 : Int) ≤ (k : Int) := by omega
      have k1 : (k : Int) < (m : Int) := by omega
      clear m1 m2 hbel htk p1 p2 p3 p4 c3 hro
      go_wp2_with fail
      go_roundw
      case rel => exact ⟨j + 1, by go_num, by omega, HMK⟩
      case measure => simp [intOf]; omega
    · have hall : ord.take j = ord := List.take_of_length_le (by rw [HQ.out]; omega)
      have hp := HP.out
      rw [hall] at hp
      have hd := hp.done 26 78
      have HD := Lib.hid hd
      clear m1 m2 hbel hall hp hd c3
      go_wp2_with fail
      clear c1 c2 p1 p2 p3 p4
      go_loopw [39] (fun i wr => ∃ (j : Nat) (met out : List Nat), i = .int .i64 j ∧ j ≤ q ∧ Hid (Vis l ord [] [] ((ord.take j).map some) met out) ∧ Hid (BegAt w wr (H + 5) w.heap.size (H + 2) H (H + 4) (H + 3) mb (H + 1) a c l ord met out)) (fun i _ => q - (intOf i).toNat)
      case atStart => exact ⟨0, [], [], rfl, by omega, Lib.hid (by rw [List.take_zero]; exact Vis.nil _ _), HD⟩
      case round =>
        obtain ⟨j, met, out, rfl, hj, HV, HB⟩ := hrel
        have hbel := HB.out.2.2.2.2.2.2.1
        by_cases hjq : j < q
        · have hjo : j < ord.length := by rw [HQ.out]; exact hjq
          have hro := HRO.out.below hbel
          rw [HQ.out] at hro
          obtain ⟨B, off, rfl, -, hc⟩ := hro.at_ hjq
          rw [ordZ_get ord j hjo] at hc
          have hk := HORD.out _ (List.getElem_mem hjo)
          have htk : ord.take (j + 1) = ord.take j ++ [ord[j]] := List.take_succ_eq_append_getElem hjo
          generalize ord[j] = k at hc hk htk
          have HTK := Lib.hid htk
          have HC := Lib.hid (HB1.out (H + 5) w.heap.size (H + 2) H (H + 4) (H + 3) mb (H + 1) met out k wr HB.out hk)
          have c4 : wr.cell? ⟨H + 3 + 1, 0, none⟩ = some (.func (.func 46) #[] #[.pointer (some ⟨w.heap.size, 0, none⟩), .pointer (some ⟨H + 2, 0, none⟩), .pointer (some ⟨H, 0, none⟩), .pointer (some ⟨H + 4, 0, none⟩), .pointer (some ⟨H + 3, 0, none⟩)]) := HB.out.2.2.1.2.2.2.1
          clear hbel htk hk hro
          go_wp2_with fail
          refine HC.out.mono ?_; rintro e w2 ⟨rfl, m2, o2, hv, hbg⟩
          have HV2 := Lib.hid (show Vis l ord [] [] ((ord.take (j + 1)).map some) m2 o2 by rw [HTK.out, List.map_append]; exact HV.out.snoc hv)
          have HB2 := Lib.hid hbg
          clear hv hbg c4 hc
          go_wp2_with fail
          go_roundw
          case rel => exact ⟨j + 1, m2, o2, by go_num, by omega, HV2, HB2⟩
          case measure => simp [intOf]; omega
        · have hall : ord.take j = ord := List.take_of_length_le (by rw [HQ.out]; omega)
          have hv0 := HV.out
          rw [hall] at hv0
          have HV2 := Lib.hid hv0
          obtain ⟨-, -, -, -, -, ⟨v, hv, hown⟩, -, hg⟩ := HB.out
          obtain ⟨a', c', rfl, -⟩ := own_slice hown
          have HO := Lib.hid (hown.mono (base' := w.heap.size) (by have := HB.out.1; omega))
          have HG := Lib.hid hg
          have HBEL := Lib.hid hbel
          clear hall hv0 hbel hown hg
          go_wp2_with fail
          go_ret
          exact ⟨a', c', met, out, rfl, HV2.out, HO.out, HG.out, HBEL.out⟩
end Go.Proofs.Ytfneikphgmjfbaa
