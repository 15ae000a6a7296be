/- The number of the instruction that a line says: the program's assemble. -/
import Derived.Test.YtdpmihlmfephiaaGreatDoorAsO
namespace Go.Proofs.YtdpmihlmfephiaaGreatDoor
set_option linter.unusedVariables false
set_option linter.unusedSimpArgs false
open Go.Joins Go.ChangeShapes Go.WideShapes Go.ChangeAt Go.RowKit Go.Deep Go.Shelf
attribute [local go_sem] Oper.semAt_some

theorem split_no (s : List UInt8) (w : World) (hn : NA w) (hl : s.length < 1000000) (h : aimF s = none) :
    Calls Tryz.prog 82 #[.string ⟨s.toArray⟩] w fun e w' => ∃ a b : List UInt8, e = .returned (.tuple #[.string ⟨a.toArray⟩, .string ⟨b.toArray⟩, .bool false]) ∧ Below w.heap.size w w' := by
  refine (splitName_any s w hn hl).mono ?_
  rintro e w' ⟨a, b, c, rfl, hc, -, hb⟩
  rw [h] at hc
  obtain rfl : c = false := hc
  exact ⟨a, b, rfl, hb⟩
theorem split_yes (s a b : List UInt8) (w : World) (hn : NA w) (hl : s.length < 1000000) (h : aimF s = some (a, b)) :
    Calls Tryz.prog 82 #[.string ⟨s.toArray⟩] w fun e w' => e = .returned (.tuple #[.string ⟨a.toArray⟩, .string ⟨b.toArray⟩, .bool true]) ∧ Below w.heap.size w w' := by
  refine (splitName_any s w hn hl).mono ?_
  rintro e w' ⟨a', b', c, rfl, hc, hy, hb⟩
  rw [h] at hc
  obtain rfl : c = true := hc
  obtain ⟨e1, e2⟩ := hy _ h
  have e1 : a' = a := e1
  have e2 : b' = b := e2
  rw [e1, e2]
  exact ⟨rfl, hb⟩
theorem aim_le {s a b : List UInt8} (h : aimF s = some (a, b)) : a.length ≤ s.length ∧ b.length ≤ s.length := by
  unfold aimF at h
  split at h
  · split at h
    · cases h
    · split at h
      · cases h
        exact ⟨by rw [List.length_take]; omega, by rw [List.length_drop]; omega⟩
      · cases h
  · cases h
def asmW (x : Int ⊕ Nat) : Nat := match x with
  | .inl _ => 0
  | .inr v => v
def asmE (x : Int ⊕ Nat) : Int := match x with
  | .inl e => e
  | .inr _ => 0
theorem par_none {s : List UInt8} (h : parF s = none) : parV s = insV 0 ⟨0, 0, 0, 0⟩ ∧ parE s = 50 := by unfold parV parE; rw [h]; exact ⟨rfl, rfl⟩
theorem par_some {s : List UInt8} {op : Int} {x : Ins} (h : parF s = some (op, x)) : parV s = insV op x ∧ parE s = 0 := by unfold parV parE; rw [h]; exact ⟨rfl, rfl⟩
theorem encode_par {s : List UInt8} {op rd rs1 rs2 n : Int} (h : parF s = some (op, ⟨rd, rs1, rs2, n⟩)) (w : World) (hn : NA w) :
    Calls Tryz.prog 27 #[.agg #[.int .i64 op, .int .i64 rd, .int .i64 rs1, .int .i64 rs2, .int .i64 n]] w fun e w' => e = .returned (.tuple #[.int .u32 ((encO (op, ⟨rd, rs1, rs2, n⟩) : Nat) : Int), .int .i64 0]) ∧ Below w.heap.size w w' := by
  obtain ⟨hok, -⟩ := (parF_iff _ _ _).1 h
  obtain ⟨h1, h2, h3, h4⟩ := okI_parts hok
  have hi := immB_in h4
  have hr : rightB op rd rs1 rs2 n = true := hok
  have := encode_any op rd rs1 rs2 n w hn.nt ⟨by simp only at hi; omega, by simp only at hi; omega⟩
  unfold encR encE at this
  rw [hr, if_pos rfl, if_pos rfl] at this
  exact this
set_option maxRecDepth 100000 in
set_option maxHeartbeats 2000000 in
theorem assemble_any (s : List UInt8) (place : Nat) (all : List (Nat × List UInt8)) (mb k : Nat) (w : World) (hn : NA w) (hl : s.length ≤ 5000) (hp : place ≤ 100000) (hm : LabAt w mb k (fun nm => lookN nm all 0)) (hpl : ∀ nm y, lookN nm all 0 = some y → y.2 ≤ 100000) :
    Calls Tryz.prog 43 #[.string ⟨s.toArray⟩, .int .i64 (place : Int), .map (some mb)] w fun e w' => e = .returned (.tuple #[.int .u32 ((asmW (asmN all s place) : Nat) : Int), .int .i64 (asmE (asmN all s place))]) ∧ Below w.heap.size w w' := by
  have HNM := Lib.hid hn
  cases ha : aimF s with
  | none =>
    have HSP := Lib.hid (split_no s w hn (by omega) ha)
    have HPS := Lib.hid (fun W (hW : NA W) => parse_any s W hW (by omega))
    cases hq : parF s with
    | none =>
      have hr : asmN all s place = .inl 50 := by unfold asmN; rw [ha]; simp only [hq]
      rw [hr, (par_none hq).1, (par_none hq).2] at *
      unfold asmW asmE
      unfold insV at HPS
      simp only [] at HPS
      clear hn hl hp hm hpl ha hq hr
      go_enter Tryz.func43, Tryz.ntmps43
      go_wp2_with (first
        | (go_at_call 82; refine HSP.out.mono ?_; rintro e w1 ⟨a, b, rfl, hb⟩; have HB1 := Lib.hid hb; have HN1 := Lib.hid (HNM.out.on hb); clear hb)
        | (go_at_call 15; refine (HPS.out _ HN1.out).mono ?_; rintro e w2 ⟨rfl, hb⟩; have HB2 := Lib.hid (HB1.out.trans (hb.mono HB1.out.size)); have HN2 := Lib.hid (HN1.out.on hb); clear hb))
      go_ret2
      exact ⟨rfl, bAlloc HB2.out _⟩
    | some y =>
      obtain ⟨op, rd, rs1, rs2, n⟩ := y
      have HEN := Lib.hid (encode_par hq)
      have hr : asmN all s place = .inr (encO (op, ⟨rd, rs1, rs2, n⟩)) := by unfold asmN; rw [ha]; simp only [hq]
      rw [hr, (par_some hq).1, (par_some hq).2] at *
      unfold asmW asmE
      unfold insV at HPS
      simp only [] at HPS ⊢
      generalize encO (op, ⟨rd, rs1, rs2, n⟩) = en at *
      clear hn hl hp hm hpl ha hq hr
      go_enter Tryz.func43, Tryz.ntmps43
      go_wp2_with (first
        | (go_at_call 82; refine HSP.out.mono ?_; rintro e w1 ⟨a, b, rfl, hb⟩; have HB1 := Lib.hid hb; have HN1 := Lib.hid (HNM.out.on hb); clear hb)
        | (go_at_call 15; refine (HPS.out _ HN1.out).mono ?_; rintro e w2 ⟨rfl, hb⟩; have HB2 := Lib.hid (HB1.out.trans (hb.mono HB1.out.size)); have HN2 := Lib.hid (HN1.out.on hb); clear hb)
        | (go_at_call 27; refine (HEN.out _ (HN2.out.alloc _)).mono ?_; rintro e w3 ⟨rfl, hb⟩; have HB3 := Lib.hid (HB2.out.trans (((bAlloc (Below.refl _ _) _).trans (hb.mono (Nat.le_of_lt (by simp)))).mono HB2.out.size)); clear hb))
      go_ret2
      exact ⟨rfl, HB3.out⟩
  | some y =>
    obtain ⟨h, nm⟩ := y
    obtain ⟨l1, l2⟩ := aim_le ha
    have HSP := Lib.hid (split_yes s h nm w hn (by omega) ha)
    have hz0 := add_l h [48] (h ++ [48]) rfl (by omega) (by decide)
    have HP0 := Lib.hid (fun W (hW : NA W) => parse_any (h ++ [48]) W hW (by rw [List.length_append]; simp; omega))
    cases hq : parF (h ++ [48]) with
    | none =>
      have hr : asmN all s place = .inl 50 := by unfold asmN; rw [ha]; simp only [hq]; rfl
      rw [hr]
      rw [(par_none hq).1, (par_none hq).2] at HP0
      unfold asmW asmE
      unfold insV at HP0
      simp only [] at HP0 ⊢
      generalize h ++ [48] = z0 at *
      clear hn hl hp hm hpl ha hq hr
      go_enter Tryz.func43, Tryz.ntmps43
      go_wp2_with (first
        | (go_at_call 82; refine HSP.out.mono ?_; rintro e w1 ⟨rfl, hb⟩; have HB1 := Lib.hid hb; have HN1 := Lib.hid (HNM.out.on hb); clear hb)
        | (go_at_call 15; refine (HP0.out _ HN1.out).mono ?_; rintro e w2 ⟨rfl, hb⟩; have HB2 := Lib.hid (HB1.out.trans (hb.mono HB1.out.size)); have HN2 := Lib.hid (HN1.out.on hb); clear hb))
      go_ret2
      exact ⟨rfl, bAlloc HB2.out _⟩
    | some y =>
      obtain ⟨op0, rd0, r10, r20, n0⟩ := y
      rw [(par_some hq).1, (par_some hq).2] at HP0
      unfold insV at HP0
      simp only [] at HP0
      have HLK := Lib.hid (fun W (hb : Below w.heap.size w W) => ((hm.below hb).look nm (by omega)).1)
      cases hy : lookN nm all 0 with
      | none =>
        have hr : asmN all s place = .inl 51 := by unfold asmN; rw [ha]; simp only [hq, hy]; rfl
        rw [hr]
        rw [hy] at HLK
        unfold labV at HLK
        simp only [Option.getD_none, Option.isSome_none] at HLK
        unfold asmW asmE
        simp only []
        generalize h ++ [48] = z0 at *
        clear hn hl hp hm hpl ha hq hr hy
        go_enter Tryz.func43, Tryz.ntmps43
        go_wp2_with (first
        | (go_at_call 82; refine HSP.out.mono ?_; rintro e w1 ⟨rfl, hb⟩; have HB1 := Lib.hid hb; have HN1 := Lib.hid (HNM.out.on hb); clear hb)
        | (go_at_call 15; refine (HP0.out _ HN1.out).mono ?_; rintro e w2 ⟨rfl, hb⟩; have HB2 := Lib.hid (HB1.out.trans (hb.mono HB1.out.size)); have HN2 := Lib.hid (HN1.out.on hb); have k1 := HLK.out (w2.alloc (.cells #[.int .i64 op0, .int .i64 rd0, .int .i64 r10, .int .i64 r20, .int .i64 n0] 23)) (bAlloc HB2.out _); clear hb))
        go_ret2
        exact ⟨rfl, bAlloc (bAlloc HB2.out _) _⟩
      | some y =>
        obtain ⟨ln, t⟩ := y
        have ht := hpl nm _ hy
        simp only [] at ht
        rw [hy] at HLK
        unfold labV at HLK
        simp only [Option.getD_some, Option.isSome_some] at HLK
        have hw : IntKind.i64.wrap ((t : Int) - (place : Int)) = (t : Int) - (place : Int) := by rw [IntKind.wrap_i64]; omega
        obtain ⟨d, hd⟩ : ∃ d, (t : Int) - (place : Int) = d := ⟨_, rfl⟩
        have HI := Lib.hid (fun W (hW : NA W) => itoa_any d W hW (by omega) (by omega))
        have hil := Lib.itoa_length_le d (by omega) (by omega)
        have hz1 := add_l h (Lib.itoa d) (h ++ Lib.itoa d) rfl (by omega) (by omega)
        have HP1 := Lib.hid (fun W (hW : NA W) => parse_any (h ++ Lib.itoa d) W hW (by rw [List.length_append]; omega))
        rw [hd] at hw
        cases hq1 : parF (h ++ Lib.itoa d) with
        | none =>
          have hr : asmN all s place = .inl 50 := by unfold asmN; rw [ha]; simp only [hq, hy, hd, hq1]; rfl
          rw [hr]
          rw [(par_none hq1).1, (par_none hq1).2] at HP1
          unfold asmW asmE
          unfold insV at HP1
          simp only [] at HP1 ⊢
          have HD := Lib.hid hd
          generalize h ++ [48] = z0 at *
          generalize h ++ Lib.itoa d = z1 at *
          clear hn hl hp hm hpl ha hq hr hy hq1 hil ht
          go_enter Tryz.func43, Tryz.ntmps43
          go_wp2_with (first
        | (go_at_call 82; refine HSP.out.mono ?_; rintro e w1 ⟨rfl, hb⟩; have HB1 := Lib.hid hb; have HN1 := Lib.hid (HNM.out.on hb); clear hb)
        | (go_at_call 15; refine (HP1.out _ HN3.out).mono ?_; rintro e w4 ⟨rfl, hb⟩; have HB4 := Lib.hid (HB3.out.trans (hb.mono HB3.out.size)); have HN4 := Lib.hid (HN3.out.on hb); clear hb)
        | (go_at_call 15; refine (HP0.out _ HN1.out).mono ?_; rintro e w2 ⟨rfl, hb⟩; have HB2 := Lib.hid (HB1.out.trans (hb.mono HB1.out.size)); have HN2 := Lib.hid (HN1.out.on hb); have k1 := HLK.out (w2.alloc (.cells #[.int .i64 op0, .int .i64 rd0, .int .i64 r10, .int .i64 r20, .int .i64 n0] 23)) (bAlloc HB2.out _); clear hb)
        | (go_at_call 83; refine (HI.out _ ((HN2.out.alloc _).alloc _)).mono ?_; rintro e w3 ⟨rfl, hb⟩; have hb2 := (bAlloc (bAlloc (Below.refl w2.heap.size w2) _) _).trans (hb.mono (by simp; omega)); have HB3 := Lib.hid (HB2.out.trans (hb2.mono HB2.out.size)); have HN3 := Lib.hid (HN2.out.on hb2); clear hb hb2))
          go_ret2
          exact ⟨rfl, bAlloc HB4.out _⟩
        | some y =>
          obtain ⟨op, rd, rs1, rs2, n⟩ := y
          have HEN := Lib.hid (encode_par hq1)
          have hr : asmN all s place = .inr (encO (op, ⟨rd, rs1, rs2, n⟩)) := by unfold asmN; rw [ha]; simp only [hq, hy, hd, hq1]; rfl
          rw [hr]
          rw [(par_some hq1).1, (par_some hq1).2] at HP1
          unfold asmW asmE
          unfold insV at HP1
          simp only [] at HP1 ⊢
          generalize encO (op, ⟨rd, rs1, rs2, n⟩) = en at *
          have HD := Lib.hid hd
          generalize h ++ [48] = z0 at *
          generalize h ++ Lib.itoa d = z1 at *
          clear hn hl hp hm hpl ha hq hr hy hq1 hil ht
          go_enter Tryz.func43, Tryz.ntmps43
          go_wp2_with (first
        | (go_at_call 82; refine HSP.out.mono ?_; rintro e w1 ⟨rfl, hb⟩; have HB1 := Lib.hid hb; have HN1 := Lib.hid (HNM.out.on hb); clear hb)
        | (go_at_call 15; refine (HP1.out _ HN3.out).mono ?_; rintro e w4 ⟨rfl, hb⟩; have HB4 := Lib.hid (HB3.out.trans (hb.mono HB3.out.size)); have HN4 := Lib.hid (HN3.out.on hb); clear hb)
        | (go_at_call 15; refine (HP0.out _ HN1.out).mono ?_; rintro e w2 ⟨rfl, hb⟩; have HB2 := Lib.hid (HB1.out.trans (hb.mono HB1.out.size)); have HN2 := Lib.hid (HN1.out.on hb); have k1 := HLK.out (w2.alloc (.cells #[.int .i64 op0, .int .i64 rd0, .int .i64 r10, .int .i64 r20, .int .i64 n0] 23)) (bAlloc HB2.out _); clear hb)
        | (go_at_call 83; refine (HI.out _ ((HN2.out.alloc _).alloc _)).mono ?_; rintro e w3 ⟨rfl, hb⟩; have hb2 := (bAlloc (bAlloc (Below.refl w2.heap.size w2) _) _).trans (hb.mono (by simp; omega)); have HB3 := Lib.hid (HB2.out.trans (hb2.mono HB2.out.size)); have HN3 := Lib.hid (HN2.out.on hb2); clear hb hb2)
        | (go_at_call 27; refine (HEN.out _ (HN4.out.alloc _)).mono ?_; rintro e w5 ⟨rfl, hb⟩; have HB5 := Lib.hid (HB4.out.trans (((bAlloc (Below.refl _ _) _).trans (hb.mono (Nat.le_of_lt (by simp)))).mono HB4.out.size)); clear hb))
          go_ret2
          exact ⟨rfl, HB5.out⟩
end Go.Proofs.YtdpmihlmfephiaaGreatDoor
