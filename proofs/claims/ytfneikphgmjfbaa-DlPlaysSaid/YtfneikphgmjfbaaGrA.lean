/- Objects: their cells, slices of them; where a name is found: contracts of both Find. -/
import Derived.Test.YtfneikphgmjfbaaGen
namespace Go.Proofs.Ytfneikphgmjfbaa
set_option linter.unusedVariables false
set_option linter.unusedSimpArgs false
open Go.Joins Go.ChangeShapes Go.WideShapes Go.ChangeAt Go.RowKit

/-- an object: its name, what it needs, and five slices that nobody looks into -/
structure Obj where
  name : List UInt8
  needs : List (List UInt8)
  na : Option Addr
  nc : Nat
  v2 : Option Addr
  n2 : Nat
  c2 : Nat
  v3 : Option Addr
  n3 : Nat
  c3 : Nat
  v4 : Option Addr
  n4 : Nat
  c4 : Nat
  v5 : Option Addr
  n5 : Nat
  c5 : Nat
  v6 : Option Addr
  n6 : Nat
  c6 : Nat
def objC (o : Obj) : List Value := [.string ⟨o.name.toArray⟩, .slice o.na o.needs.length o.nc, .slice o.v2 o.n2 o.c2, .slice o.v3 o.n3 o.c3, .slice o.v4 o.n4 o.c4, .slice o.v5 o.n5 o.c5, .slice o.v6 o.n6 o.c6]
def Cells7 (w : World) (b i : Nat) (o : Obj) : Prop :=
  w.cell? ⟨b, i, none⟩ = some (.string ⟨o.name.toArray⟩) ∧ w.cell? ⟨b, i + 1, none⟩ = some (.slice o.na o.needs.length o.nc) ∧ w.cell? ⟨b, i + 2, none⟩ = some (.slice o.v2 o.n2 o.c2) ∧ w.cell? ⟨b, i + 3, none⟩ = some (.slice o.v3 o.n3 o.c3) ∧
    w.cell? ⟨b, i + 4, none⟩ = some (.slice o.v4 o.n4 o.c4) ∧ w.cell? ⟨b, i + 5, none⟩ = some (.slice o.v5 o.n5 o.c5) ∧ w.cell? ⟨b, i + 6, none⟩ = some (.slice o.v6 o.n6 o.c6)
theorem Cells7.below {w w' : World} {b i : Nat} {o : Obj} (h : Cells7 w b i o) (hb : Below w.heap.size w w') : Cells7 w' b i o := by
  have hl := heap_lt_of_cell h.1
  obtain ⟨h0, h1, h2, h3, h4, h5, h6⟩ := h
  have g : ∀ j v, w.cell? ⟨b, j, none⟩ = some v → w'.cell? ⟨b, j, none⟩ = some v := fun j v q => (hb.cell (p := ⟨b, j, none⟩) hl).trans q
  exact ⟨g _ _ h0, g _ _ h1, g _ _ h2, g _ _ h3, g _ _ h4, g _ _ h5, g _ _ h6⟩
/-- the slice of address a reads as these objects -/
def RdO (w : World) (a : Option Addr) (l : List Obj) : Prop :=
  (0 < l.length → ∃ b off, a = some ⟨b, off, none⟩ ∧ ∀ k (h : k < l.length), Cells7 w b (off + k * 7) l[k]) ∧ ∀ o ∈ l, Rd w o.na o.needs.length (txs o.needs)
theorem RdO.below {w w' : World} {a : Option Addr} {l : List Obj} (h : RdO w a l) (hb : Below w.heap.size w w') : RdO w' a l :=
  ⟨fun hn => by
    obtain ⟨b, off, e, hc⟩ := h.1 hn
    exact ⟨b, off, e, fun k hk => (hc k hk).below hb⟩, fun o ho => (h.2 o ho).below hb⟩
theorem RdO.at_ {w : World} {a : Option Addr} {l : List Obj} (h : RdO w a l) {k : Nat} (hk : k < l.length) : ∃ b off, a = some ⟨b, off, none⟩ ∧ Cells7 w b (off + k * 7) l[k] := by
  obtain ⟨b, off, e, hc⟩ := h.1 (by omega)
  exact ⟨b, off, e, hc k hk⟩
def fidx (l : List Obj) (name : List UInt8) : Option Nat := l.findIdx? fun o => o.name == name
/-- the place of the first object with a name; -1: there is none -/
def findO (l : List Obj) (name : List UInt8) : Int := match fidx l name with
  | some k => (k : Int)
  | none => -1
def findFrom (l : List Obj) (name : List UInt8) (i : Nat) : Int := match (l.drop i).findIdx? (fun o => o.name == name) with
  | some k => ((i + k : Nat) : Int)
  | none => -1
theorem findFrom_zero (l : List Obj) (name : List UInt8) : findFrom l name 0 = findO l name := by
  unfold findFrom findO fidx
  simp
theorem findFrom_end (l : List Obj) (name : List UInt8) (i : Nat) (h : l.length ≤ i) : findFrom l name i = -1 := by
  unfold findFrom; rw [List.drop_eq_nil_of_le h]; rfl
theorem findFrom_hit (l : List Obj) (name : List UInt8) (i : Nat) (h : i < l.length) (hb : (l[i].name == name) = true) : findFrom l name i = (i : Int) := by
  unfold findFrom
  rw [List.drop_eq_getElem_cons h, List.findIdx?_cons, hb]
  rfl
theorem findFrom_miss (l : List Obj) (name : List UInt8) (i : Nat) (h : i < l.length) (hb : (l[i].name == name) = false) : findFrom l name i = findFrom l name (i + 1) := by
  unfold findFrom
  rw [List.drop_eq_getElem_cons h, List.findIdx?_cons, hb]
  simp only [Bool.false_eq_true, if_false]
  cases (l.drop (i + 1)).findIdx? (fun o => o.name == name) with
  | none => rfl
  | some k => simp; omega
set_option maxHeartbeats 1000000 in
theorem rfind_any (a : Option Addr) (l : List Obj) (c : Nat) (name : List UInt8) (w : World) (hl : RdO w a l) (hm : l.length ≤ 1000000) :
    Calls Try.prog 27 #[.slice a l.length c, .string ⟨name.toArray⟩] w fun e w' => e = .returned (.int .i64 (findO l name)) ∧ w = w' := by
  rw [← findFrom_zero]
  obtain ⟨r, hr⟩ : ∃ r, findFrom l name 0 = r := ⟨_, rfl⟩
  rw [hr]
  have HL := Lib.hid hl
  have HR := Lib.hid hr
  clear hl hr
  generalize hlm : l.length = m at *
  have HLM := Lib.hid hlm
  clear hlm
  go_enter Try.func27, Try.ntmps27
  go_wp2_with fail
  go_loop [5] (fun i => ∃ k : Nat, k ≤ m ∧ i = .int .i64 k ∧ Hid (findFrom l name k = r)) (fun i => m - (intOf i).toNat)
  case atStart => exact ⟨0, by omega, rfl, HR⟩
  case round =>
    obtain ⟨k, hk, rfl, HK⟩ := hrel
    by_cases h : k < m
    · have hkl : k < l.length := by rw [HLM.out]; exact h
      obtain ⟨B, o, rfl, hc⟩ := HL.out.at_ hkl
      obtain ⟨x, hx⟩ : ∃ x, l[k] = x := ⟨_, rfl⟩
      rw [hx] at hc
      have HX := Lib.hid hx
      obtain ⟨h0, -⟩ := hc
      clear hx
      by_cases hn : (x.name == name) = true
      · go_wp2_with fail
        all_goals first
          | (have e := HK.out
             rw [findFrom_hit l name k hkl (by rw [HX.out]; exact hn)] at e
             go_ret
             exact ⟨ret_int e, rfl⟩)
          | go_ways
      · rw [Bool.not_eq_true] at hn
        have e := HK.out
        rw [findFrom_miss l name k hkl (by rw [HX.out]; exact hn)] at e
        have HE := Lib.hid e
        clear e
        go_wp2_with fail
        go_round
        case rel => exact ⟨k + 1, by omega, by go_num, HE⟩
        case measure => simp [intOf]; omega
    · have e := HK.out
      rw [findFrom_end l name k (by rw [HLM.out]; omega)] at e
      have HE := Lib.hid e
      clear e
      go_wp2_with fail
      go_ret
      exact ⟨ret_int HE.out, rfl⟩
theorem isname_any (o : Obj) (b : Nat) (name : List UInt8) (w : World) (hb : w.cell? ⟨b, 0, none⟩ = some (.string ⟨name.toArray⟩)) :
    Calls Try.prog 52 #[.agg #[.string ⟨o.name.toArray⟩, .slice o.na o.needs.length o.nc, .slice o.v2 o.n2 o.c2, .slice o.v3 o.n3 o.c3, .slice o.v4 o.n4 o.c4, .slice o.v5 o.n5 o.c5, .slice o.v6 o.n6 o.c6], .pointer (some ⟨b, 0, none⟩)] w fun e w' => e = .returned (.bool (o.name == name)) ∧ Below w.heap.size w w' := by
  have hz := heap_lt_of_cell hb
  simp only [] at hz
  go_enter Try.func52, Try.ntmps52
  go_wp2_with fail
  go_ret
  exact ⟨ret_bool (by simp), bAlloc (Below.refl _ _) _⟩
set_option maxHeartbeats 1000000 in
theorem index_any (a : Option Addr) (l : List Obj) (c b : Nat) (name : List UInt8) (w : World) (hl : RdO w a l) (hm : l.length ≤ 9223372036854775807) (hb : w.cell? ⟨b, 0, none⟩ = some (.string ⟨name.toArray⟩)) :
    Calls Try.prog 51 #[.slice a l.length c, .func (.func 52) #[] #[.pointer (some ⟨b, 0, none⟩)]] w fun e w' => e = .returned (.int .i64 (findO l name)) ∧ Below w.heap.size w w' := by
  rw [← findFrom_zero]
  obtain ⟨r, hr⟩ : ∃ r, findFrom l name 0 = r := ⟨_, rfl⟩
  rw [hr]
  have HL := Lib.hid hl
  have HR := Lib.hid hr
  have HBN := Lib.hid hb
  clear hl hr hb
  generalize hlm : l.length = m at *
  have HLM := Lib.hid hlm
  clear hlm
  go_enter Try.func51, Try.ntmps51
  go_wp2_with fail
  go_loopw [8] (fun i wr => ∃ k : Nat, k ≤ m ∧ i = .int .i64 k ∧ Hid (findFrom l name k = r) ∧ Hid (Below w.heap.size w wr)) (fun i _ => m - (intOf i).toNat)
  case atStart => exact ⟨0, by omega, rfl, HR, Lib.hid (Below.refl _ _)⟩
  case round =>
    obtain ⟨k, hk, rfl, HK, HB⟩ := hrel
    by_cases h : k < m
    · have hkl : k < l.length := by rw [HLM.out]; exact h
      obtain ⟨B, o, rfl, hc⟩ := (HL.out.below HB.out).at_ hkl
      have hbn := (HB.out.cell (p := ⟨b, 0, none⟩) (heap_lt_of_cell HBN.out)).trans HBN.out
      obtain ⟨x, hx⟩ : ∃ x, l[k] = x := ⟨_, rfl⟩
      rw [hx] at hc
      have HX := Lib.hid hx
      have HI := Lib.hid (isname_any x b name wr hbn)
      obtain ⟨h0, h1, h2, h3, h4, h5, h6⟩ := hc
      clear hx hbn
      by_cases hn : (x.name == name) = true
      · have e := HK.out
        rw [findFrom_hit l name k hkl (by rw [HX.out]; exact hn)] at e
        have HE := Lib.hid e
        clear e
        go_wp2_with fail
        refine HI.out.mono ?_; rintro e w1 ⟨rfl, hb1⟩
        rw [hn]
        have HB1 := Lib.hid (bTrans HB.out hb1)
        clear hb1 h0 h1 h2 h3 h4 h5 h6
        go_wp2_with fail
        go_ret
        exact ⟨ret_int HE.out, HB1.out⟩
      · rw [Bool.not_eq_true] at hn
        have e := HK.out
        rw [findFrom_miss l name k hkl (by rw [HX.out]; exact hn)] at e
        have HE := Lib.hid e
        clear e
        go_wp2_with fail
        refine HI.out.mono ?_; rintro e w1 ⟨rfl, hb1⟩
        rw [hn]
        have HB1 := Lib.hid (bTrans HB.out hb1)
        clear hb1 h0 h1 h2 h3 h4 h5 h6
        go_wp2_with fail
        go_roundw
        case rel => exact ⟨k + 1, by omega, by go_num, HE, HB1⟩
        case measure => simp [intOf]; omega
    · have e := HK.out
      rw [findFrom_end l name k (by rw [HLM.out]; omega)] at e
      have HE := Lib.hid e
      clear e
      go_wp2_with fail
      go_ret
      exact ⟨ret_int HE.out, HB.out⟩
theorem find_any (a : Option Addr) (l : List Obj) (c : Nat) (name : List UInt8) (w : World) (hl : RdO w a l) (hm : l.length ≤ 9223372036854775807) :
    Calls Try.prog 38 #[.slice a l.length c, .string ⟨name.toArray⟩] w fun e w' => e = .returned (.int .i64 (findO l name)) ∧ Below w.heap.size w w' := by
  have HI := Lib.hid (fun b W hW hb => index_any a l c b name W hW hm hb)
  have hbx := (boxed (w := w) (cs := #[.string ⟨name.toArray⟩]) (t := 9) (Below.refl _ _) 0).trans rfl
  have HBX := Lib.hid hbx
  have HL := Lib.hid (hl.below (bAlloc (Below.refl _ _) (.cells #[.string ⟨name.toArray⟩] 9)))
  clear hbx hl
  generalize l.length = m at *
  go_enter Try.func38, Try.ntmps38
  go_wp2_with fail
  refine (HI.out _ _ HL.out HBX.out).mono ?_; rintro e w1 ⟨rfl, hb1⟩
  have HB1 := Lib.hid (bTrans (bAlloc (Below.refl _ _) _) hb1)
  clear hb1
  go_wp2_with fail
  go_ret
  exact ⟨rfl, HB1.out⟩
end Go.Proofs.Ytfneikphgmjfbaa
