/- The library's functions on texts and numbers, over lists of bytes. -/
import Derived.Test.YtdpmihlmfephiaaGreatDoorAsT
import Derived.Test.YtdpmihlmfephiaaGreatDoorAsD
import Derived.LoopTactic
import Derived.Outline
import Derived.Deep.QuietTactic
import Derived.BigQuiet
import Derived.Laws.BitsAllLaws
import Derived.Laws.NewBlocks
import Derived.Deep.RegionHeld3
import Derived.Deep.RegionWith
namespace Go.Proofs.YtdpmihlmfephiaaGreatDoor
set_option linter.unusedVariables false
set_option linter.unusedSimpArgs false
open Go.Joins Go.ChangeShapes Go.WideShapes Go.ChangeAt Go.RowKit

def strV (l : List UInt8) : Value := .string ⟨l.toArray⟩
theorem mk_size (l : List UInt8) : (⟨l.toArray⟩ : ByteArray).size = l.length := Lib.size_mk l
theorem cut_any (l sep : List UInt8) (w : World) (hn : NA w) (hl : l.length < 4294967281) :
    Calls Tryz.prog 32 #[.string ⟨l.toArray⟩, .string ⟨sep.toArray⟩] w fun e w' => e = .returned (.tuple #[.string ⟨(Lib.cut l sep).1.toArray⟩, .string ⟨(Lib.cut l sep).2.1.toArray⟩, .bool (Lib.cut l sep).2.2]) ∧ Below w.heap.size w w' := by
  obtain ⟨m, hm⟩ := hn.ml
  refine (Tryz.strings_Cut ⟨l.toArray⟩ ⟨sep.toArray⟩ m w (by rw [mk_size]; exact hl) hm).mono ?_
  rintro e w' ⟨rfl, n, rfl⟩
  exact ⟨rfl, below_drewN w n⟩
theorem trim_any (l : List UInt8) (c : UInt8) (w : World) (hc : c.toNat < 128) (hl : l.length < 4294967281) :
    Calls Tryz.prog 79 #[.string ⟨l.toArray⟩, .string ⟨#[c]⟩] w fun e w' => e = .returned (.string ⟨(Lib.trimB l c).toArray⟩) ∧ Below w.heap.size w w' := by
  refine (Tryz.strings_Trim_one ⟨l.toArray⟩ c hc w (by rw [mk_size]; omega)).mono ?_
  rintro e w' ⟨rfl, h⟩
  refine ⟨rfl, ?_⟩
  rcases h with rfl | rfl
  · exact Below.refl _ _
  · exact Below.drew (Below.refl _ _)
theorem cutS_any (l p : List UInt8) (w : World) (hl : l.length < 4294967281) :
    Calls Tryz.prog 80 #[.string ⟨l.toArray⟩, .string ⟨p.toArray⟩] w fun e w' => e = .returned (.tuple #[.string ⟨(Lib.trimSuffix l p).toArray⟩, .bool (Lib.hasSuffix l p)]) ∧ w = w' := by
  refine (Tryz.strings_CutSuffix ⟨l.toArray⟩ ⟨p.toArray⟩ w (by rw [mk_size]; omega)).mono ?_
  rintro e w' ⟨rfl, rfl⟩
  exact ⟨rfl, rfl⟩
theorem trimS_any (l p : List UInt8) (w : World) (hl : l.length < 4294967281) :
    Calls Tryz.prog 77 #[.string ⟨l.toArray⟩, .string ⟨p.toArray⟩] w fun e w' => e = .returned (.string ⟨(Lib.trimSuffix l p).toArray⟩) ∧ w = w' := by
  refine (Tryz.strings_TrimSuffix ⟨l.toArray⟩ ⟨p.toArray⟩ w (by rw [mk_size]; omega)).mono ?_
  rintro e w' ⟨rfl, rfl⟩
  exact ⟨rfl, rfl⟩
theorem trimP_any (l p : List UInt8) (w : World) :
    Calls Tryz.prog 106 #[.string ⟨l.toArray⟩, .string ⟨p.toArray⟩] w fun e w' => e = .returned (.string ⟨(Lib.trimPrefix l p).toArray⟩) ∧ w = w' := by
  refine (Tryz.strings_TrimPrefix ⟨l.toArray⟩ ⟨p.toArray⟩ w).mono ?_
  rintro e w' ⟨rfl, rfl⟩
  exact ⟨rfl, rfl⟩
theorem last_any (l p : List UInt8) (w : World) (hl : l.length < 4294967281) :
    Calls Tryz.prog 117 #[.string ⟨l.toArray⟩, .string ⟨p.toArray⟩] w fun e w' => e = .returned (.int .i64 (Lib.lastIndex l p)) ∧ w = w' := by
  refine (Tryz.strings_LastIndex ⟨l.toArray⟩ ⟨p.toArray⟩ (by rw [mk_size]; omega) w).mono ?_
  rintro e w' ⟨rfl, rfl⟩
  exact ⟨rfl, rfl⟩
/-- the pieces of a text in a new block -/
def splitW (w : World) (xs : List (List UInt8)) : World := w.alloc (.cells (xs.map strV).toArray 9)
theorem bytes_back (b : ByteArray) : b = ⟨b.data.toList.toArray⟩ := by
  cases b; simp
theorem splitV (l sep : List UInt8) : (Lib.splitB ⟨sep.toArray⟩ 0 (Lib.countB ⟨l.toArray⟩ ⟨sep.toArray⟩) ⟨l.toArray⟩).map Value.string = (Lib.split l sep).map strV := by
  have h := Lib.splitB_data ⟨sep.toArray⟩ 0 (Lib.countB ⟨l.toArray⟩ ⟨sep.toArray⟩) ⟨l.toArray⟩
  have e : Lib.split l sep = (Lib.splitB ⟨sep.toArray⟩ 0 (Lib.countB ⟨l.toArray⟩ ⟨sep.toArray⟩) ⟨l.toArray⟩).map (·.data.toList) := h.symm
  rw [e, List.map_map]
  refine List.map_congr_left fun b _ => ?_
  show Value.string b = Value.string ⟨b.data.toList.toArray⟩
  rw [← bytes_back]
theorem split_any (l sep : List UInt8) (w : World) (hn : NA w) (hl : l.length < 4294967281) (h1 : 1 ≤ sep.length) :
    Calls Tryz.prog 76 #[.string ⟨l.toArray⟩, .string ⟨sep.toArray⟩] w fun e w' => e = .returned (.slice (some ⟨w.heap.size, 0, none⟩) (Lib.split l sep).length (Lib.split l sep).length) ∧ w' = splitW w (Lib.split l sep) := by
  obtain ⟨m, hm⟩ := hn.ml
  refine (Tryz.strings_Split ⟨l.toArray⟩ ⟨sep.toArray⟩ m w (by rw [mk_size]; exact hl) hm (by rw [mk_size]; exact h1)).mono ?_
  rintro e w' ⟨rfl, rfl⟩
  have hv := splitV l sep
  have hlen : Lib.countB ⟨l.toArray⟩ ⟨sep.toArray⟩ + 1 = (Lib.split l sep).length := by
    have := congrArg List.length hv
    rw [List.length_map, List.length_map, Lib.splitB_all _ (by rw [mk_size]; exact h1) 0 _ _ rfl] at this
    exact this
  rw [hv, hlen]
  exact ⟨rfl, rfl⟩
theorem itoa_any (n : Int) (w : World) (hn : NA w) (h0 : -9223372036854775808 ≤ n) (h1 : n ≤ 9223372036854775807) :
    Calls Tryz.prog 83 #[.int .i64 n] w fun e w' => e = .returned (.string ⟨(Lib.itoa n).toArray⟩) ∧ Below w.heap.size w w' := by
  refine (Tryz.strconv_Itoa n h0 h1 w hn.tab.here).mono ?_
  rintro e w' ⟨rfl, k, os, rfl⟩
  exact ⟨rfl, Lib.below_grow _ w (Nat.le_refl _) k os⟩
theorem fmt_any (n : Int) (w : World) (hn : NA w) (h0 : -9223372036854775808 ≤ n) (h1 : n ≤ 9223372036854775807) :
    Calls Tryz.prog 69 #[.int .i64 n, .int .i64 10] w fun e w' => e = .returned (.string ⟨(Lib.itoa n).toArray⟩) ∧ Below w.heap.size w w' := by
  refine (Tryz.strconv_FormatInt_10 n h0 h1 w hn.tab.here).mono ?_
  rintro e w' ⟨rfl, k, os, rfl⟩
  exact ⟨rfl, Lib.below_grow _ w (Nat.le_refl _) k os⟩
theorem join_any (B : Nat) (xs : List (List UInt8)) (sep : List UInt8) (w : World) (c : Nat) (hc : ∀ j x, xs[j]? = some x → w.cell? ⟨B, j, none⟩ = some (strV x)) (hB : B < w.heap.size) (hN : xs.length ≤ 1000) (hcap : xs.length ≤ c) (hlen : (Lib.join xs sep).length ≤ 1000000) :
    Calls Tryz.prog 30 #[.slice (some ⟨B, 0, none⟩) xs.length c, .string ⟨sep.toArray⟩] w fun e w' => e = .returned (.string ⟨(Lib.join xs sep).toArray⟩) ∧ Below w.heap.size w w' := by
  have e : (xs.map fun x => (⟨x.toArray⟩ : ByteArray)).map (·.data.toList) = xs := by
    rw [List.map_map]; exact List.map_id'' (fun x => by simp) xs
  have h := Tryz.strings_Join B 0 c (xs.map fun x => (⟨x.toArray⟩ : ByteArray)) ⟨sep.toArray⟩ w (fun j x hx => by
    rw [List.getElem?_map] at hx
    cases hj : xs[j]? with
    | none => rw [hj] at hx; cases hx
    | some y =>
      rw [hj] at hx
      obtain rfl := Option.some.inj hx
      rw [Nat.zero_add]
      exact hc j y hj) hB (by rw [List.length_map]; omega) (by rw [List.length_map]; exact hcap) (by rw [e]; exact Nat.le_trans hlen (by decide))
  rw [e, List.length_map] at h
  exact h
/-- the number that a text says -/
theorem number_any (l : List UInt8) (w : World) (hn : NA w) (hl : l.length < 4294967281) :
    Calls Tryz.prog 105 #[.string ⟨l.toArray⟩] w fun e w' => e = .returned (.int .i64 (numB l)) ∧ Below w.heap.size w w' := by
  unfold numB
  cases h : Lib.parseIntB 64 l with
  | ok v =>
    have hc := Tryz.strconv_ParseInt_10_at64_ok ⟨l.toArray⟩ (by rw [mk_size]; omega) v h w
    have HC := Lib.hid hc
    clear hc hn h
    go_enter Tryz.func105, Tryz.ntmps105
    go_wp2_with (go_at_call 134; refine HC.out.mono ?_; rintro e w1 ⟨rfl, hw1⟩)
    go_ret
    refine ⟨rfl, ?_⟩
    rcases hw1 with rfl | ⟨t, rfl⟩
    · exact Below.refl _ _
    · exact Lib.bytesWorld_below _ _ _
  | «syntax» =>
    obtain ⟨tp, p, hc⟩ := hn.es
    have hc := Tryz.strconv_ParseInt_10_at64_syntax ⟨l.toArray⟩ (by rw [mk_size]; omega) h _ w hc (.inr ⟨_, _, rfl⟩)
    have HC := Lib.hid hc
    clear hc hn h
    go_enter Tryz.func105, Tryz.ntmps105
    go_wp2_with (go_at_call 134; refine HC.out.mono ?_; rintro e w1 ⟨N, rfl, -, -, hb⟩; have HB := Lib.hid hb; clear hb)
    go_ret
    exact ⟨rfl, HB.out⟩
  | range =>
    obtain ⟨tp, p, hc⟩ := hn.er
    have hc := Tryz.strconv_ParseInt_10_at64_range ⟨l.toArray⟩ (by rw [mk_size]; omega) h _ w hc (.inr ⟨_, _, rfl⟩)
    have HC := Lib.hid hc
    clear hc hn h
    go_enter Tryz.func105, Tryz.ntmps105
    go_wp2_with (go_at_call 134; refine HC.out.mono ?_; rintro e w1 ⟨N, rfl, -, -, hb⟩; have HB := Lib.hid hb; clear hb)
    go_ret
    exact ⟨rfl, HB.out⟩
end Go.Proofs.YtdpmihlmfephiaaGreatDoor
