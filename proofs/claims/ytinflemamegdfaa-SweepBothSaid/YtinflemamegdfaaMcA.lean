/- Machines: their cells; new ones. -/
import Derived.Test.YtinflemamegdfaaTa6
import Derived.Great.Walk
import Derived.Great.Ranges
import Derived.Great.BuildSlice
import Derived.Deep.MidRow
import Derived.Deep.RegionLaw
import Derived.BigQuiet
namespace Go.Proofs.Ytinflemamegdfaa
set_option linter.unusedVariables false
set_option linter.unusedSimpArgs false
open Go.Joins Go.ChangeShapes Go.WideShapes Go.ChangeAt Go.RowKit Go.Deep

def nullC : Cp := ⟨0, 0, 0, 0, -1, false⟩
def capsV (l : List Cp) : List Value := l.flatMap capC
theorem capC_len6 (c : Cp) : (capC c).length = 6 := rfl
theorem capsV_len (l : List Cp) : (capsV l).length = 6 * l.length := by
  unfold capsV
  induction l with
  | nil => rfl
  | cons c r ih => rw [List.flatMap_cons, List.length_append, ih, capC_len6, List.length_cons]; omega
theorem capsV_app (a b : List Cp) : capsV (a ++ b) = capsV a ++ capsV b := List.flatMap_append
theorem capsV_cons (c : Cp) (r : List Cp) : capsV (c :: r) = capC c ++ capsV r := List.flatMap_cons
/-- a machine's cells: where it is, its registers, its memory -/
def mcL (pc : Cp) (rs : List Cp) (M : Nat) : List Value := capC pc ++ (capsV rs ++ [.pointer (some ⟨M, 0, none⟩)])
theorem boxN_mid (B : Nat) : ∀ (vs pre old post : List Value) (W : World), old.length = vs.length → BoxN W B (pre ++ (old ++ post)).toArray → BoxN (W.setCells B pre.length vs) B (pre ++ (vs ++ post)).toArray
  | [], pre, old, post, W, hl, h => by
    rw [List.length_eq_zero_iff.1 hl] at h
    exact h
  | v :: r, pre, [], post, W, hl, h => by cases hl
  | v :: r, pre, x :: s, post, W, hl, h => by
    have h1 := h.set pre.length v
    have e1 : ((pre ++ (x :: s ++ post)).toArray.setIfInBounds pre.length v) = ((pre ++ [v]) ++ (s ++ post)).toArray := by
      simp
    rw [e1] at h1
    have h2 := boxN_mid B r (pre ++ [v]) s post _ (by simpa using hl) h1
    rw [List.length_append, List.length_singleton, List.append_assoc, List.singleton_append] at h2
    exact h2
theorem range_mid {W : World} {B : Nat} {pre mid post : List Value} (h : BoxN W B (pre ++ (mid ++ post)).toArray) : W.rangeAt B pre.length mid := fun j v hv => by
  have hj := (List.getElem?_eq_some_iff.1 hv).1
  rw [h.cell, List.getElem?_toArray, List.getElem?_append_right (by omega), show pre.length + j - pre.length = j by omega, List.getElem?_append_left hj, hv]
theorem there_mid {W : World} {B : Nat} {pre mid post : List Value} (h : BoxN W B (pre ++ (mid ++ post)).toArray) : W.there B pre.length mid.length := fun j hj => by
  refine ⟨?_, h.frozen _⟩
  rw [range_mid h j mid[j] (List.getElem?_eq_getElem hj)]
  rfl
/-- a machine in block A -/
structure McAt (W : World) (A M : Nat) (pc : Cp) (rs : List Cp) : Prop where
  box : BoxN W A (mcL pc rs M).toArray
  len : rs.length = 32
theorem mcL_split (pc : Cp) (rs : List Cp) (M i : Nat) (h : i < rs.length) : mcL pc rs M = (capC pc ++ capsV (rs.take i)) ++ (capC rs[i] ++ (capsV (rs.drop (i + 1)) ++ [.pointer (some ⟨M, 0, none⟩)])) := by
  unfold mcL
  have e : rs = rs.take i ++ (rs[i] :: rs.drop (i + 1)) := by rw [← List.drop_eq_getElem_cons h, List.take_append_drop]
  have e2 : capsV rs = capsV (rs.take i) ++ (capC rs[i] ++ capsV (rs.drop (i + 1))) := by
    conv => lhs; rw [e]
    rw [capsV_app, capsV_cons]
  rw [e2]
  simp only [List.append_assoc]
theorem mcL_set (pc : Cp) (rs : List Cp) (M i : Nat) (c : Cp) (h : i < rs.length) : mcL pc (rs.set i c) M = (capC pc ++ capsV (rs.take i)) ++ (capC c ++ (capsV (rs.drop (i + 1)) ++ [.pointer (some ⟨M, 0, none⟩)])) := by
  rw [mcL_split pc (rs.set i c) M i (by simpa using h)]
  rw [List.take_set_of_le (Nat.le_refl _), List.getElem_set_self, List.drop_set_of_lt (Nat.lt_succ_self _)]
theorem mc_pre (pc : Cp) (rs : List Cp) (i : Nat) (h : i < rs.length) : (capC pc ++ capsV (rs.take i)).length = 6 + i * 6 := by
  rw [List.length_append, capsV_len, List.length_take, capC_len6, Nat.min_eq_left (by omega)]; omega
theorem McAt.reg {W : World} {A M : Nat} {pc : Cp} {rs : List Cp} (h : McAt W A M pc rs) (i : Nat) (hi : i < rs.length) : W.rangeAt A (6 + i * 6) (capC rs[i]) := by
  have hb := h.box
  rw [mcL_split pc rs M i hi] at hb
  have := range_mid hb
  rwa [mc_pre pc rs i hi] at this
theorem McAt.regThere {W : World} {A M : Nat} {pc : Cp} {rs : List Cp} (h : McAt W A M pc rs) (i : Nat) (hi : i < rs.length) : W.there A (6 + i * 6) 6 := by
  have hb := h.box
  rw [mcL_split pc rs M i hi] at hb
  have := there_mid hb
  rwa [mc_pre pc rs i hi] at this
theorem McAt.setReg {W : World} {A M : Nat} {pc : Cp} {rs : List Cp} (h : McAt W A M pc rs) (i : Nat) (hi : i < rs.length) (c : Cp) : McAt (W.setCells A (6 + i * 6) (capC c)) A M pc (rs.set i c) := by
  refine ⟨?_, by rw [List.length_set]; exact h.len⟩
  have hb := h.box
  rw [mcL_split pc rs M i hi] at hb
  have := boxN_mid A (capC c) _ (capC rs[i]) _ W rfl hb
  rw [mc_pre pc rs i hi] at this
  rwa [mcL_set pc rs M i c hi]
theorem McAt.pcAt {W : World} {A M : Nat} {pc : Cp} {rs : List Cp} (h : McAt W A M pc rs) : W.rangeAt A 0 (capC pc) := range_mid (pre := []) (mid := capC pc) h.box
theorem McAt.pcThere {W : World} {A M : Nat} {pc : Cp} {rs : List Cp} (h : McAt W A M pc rs) : W.there A 0 6 := there_mid (pre := []) (mid := capC pc) h.box
theorem McAt.setPc {W : World} {A M : Nat} {pc : Cp} {rs : List Cp} (h : McAt W A M pc rs) (c : Cp) : McAt (W.setCells A 0 (capC c)) A M c rs :=
  ⟨boxN_mid A (capC c) [] (capC pc) _ W rfl h.box, h.len⟩
theorem McAt.mem {W : World} {A M : Nat} {pc : Cp} {rs : List Cp} (h : McAt W A M pc rs) : W.cell? ⟨A, 198, none⟩ = some (.pointer (some ⟨M, 0, none⟩)) := by
  rw [h.box.cell, List.getElem?_toArray]
  unfold mcL
  rw [List.getElem?_append_right (by rw [capC_len6]; omega), List.getElem?_append_right (by rw [capsV_len, capC_len6, h.len]; omega), capsV_len, capC_len6, h.len]
  rfl
theorem McAt.lt {W : World} {A M : Nat} {pc : Cp} {rs : List Cp} (h : McAt W A M pc rs) : A < W.heap.size := h.box.lt
theorem McAt.below {W W' : World} {A M : Nat} {pc : Cp} {rs : List Cp} (h : McAt W A M pc rs) (hb : Below W.heap.size W W') : McAt W' A M pc rs := ⟨boxN_below h.box hb, h.len⟩
theorem McAt.kp {W W' : World} {n A M : Nat} {S : Nat → Prop} {pc : Cp} {rs : List Cp} (h : McAt W A M pc rs) (hk : KP n S W W') (hA : A < n) (hS : ¬ S A) : McAt W' A M pc rs := ⟨h.box.kp hk hA hS, h.len⟩
theorem range6 {W : World} {B o : Nat} {c : Cp} (h : W.rangeAt B o (capC c)) : W.cell? ⟨B, o, none⟩ = some (.int .u64 c.b) ∧ W.cell? ⟨B, o + 1, none⟩ = some (.int .u64 c.t) ∧ W.cell? ⟨B, o + 2, none⟩ = some (.int .u64 c.a) ∧ W.cell? ⟨B, o + 3, none⟩ = some (.int .i64 c.p) ∧ W.cell? ⟨B, o + 4, none⟩ = some (.int .i64 c.y) ∧ W.cell? ⟨B, o + 5, none⟩ = some (.bool c.g) :=
  ⟨h 0 _ rfl, h 1 _ rfl, h 2 _ rfl, h 3 _ rfl, h 4 _ rfl, h 5 _ rfl⟩
theorem there6 {W : World} {B o : Nat} (h : W.there B o 6) : W.frozen? ⟨B, o, none⟩ = false ∧ W.frozen? ⟨B, o + 1, none⟩ = false ∧ W.frozen? ⟨B, o + 2, none⟩ = false ∧ W.frozen? ⟨B, o + 3, none⟩ = false ∧ W.frozen? ⟨B, o + 4, none⟩ = false ∧ W.frozen? ⟨B, o + 5, none⟩ = false :=
  ⟨(h 0 (by decide)).2, (h 1 (by decide)).2, (h 2 (by decide)).2, (h 3 (by decide)).2, (h 4 (by decide)).2, (h 5 (by decide)).2⟩
theorem set6_eq (W : World) (B o : Nat) (v0 v1 v2 v3 v4 v5 : Value) : W.setCells B o [v0, v1, v2, v3, v4, v5] = (((((W.setCell ⟨B, o, none⟩ v0).setCell ⟨B, o + 1, none⟩ v1).setCell ⟨B, o + 2, none⟩ v2).setCell ⟨B, o + 3, none⟩ v3).setCell ⟨B, o + 4, none⟩ v4).setCell ⟨B, o + 5, none⟩ v5 := rfl
theorem kp_setCells {n : Nat} {S : Nat → Prop} {A : World} (b : Nat) (hb : n ≤ b ∨ S b) : ∀ (vs : List Value) (o : Nat) (B : World), KP n S A B → KP n S A (B.setCells b o vs)
  | [], o, B, h => h
  | v :: r, o, B, h => kp_setCells b hb r (o + 1) _ (h.set ⟨b, o, none⟩ hb v)
theorem below_setCells {B : Nat} {w : World} (b : Nat) (hb : B ≤ b) : ∀ (vs : List Value) (o : Nat) (w' : World), Below B w w' → Below B w (w'.setCells b o vs)
  | [], o, w', h => h
  | v :: r, o, w', h => below_setCells b hb r (o + 1) _ (Below.setCell h hb v)
theorem boxN6 {W : World} {B : Nat} {v0 v1 v2 v3 v4 v5 : Value} (h : BoxN W B #[v0, v1, v2, v3, v4, v5]) :
    (W.cell? ⟨B, 0, none⟩ = some v0 ∧ W.cell? ⟨B, 1, none⟩ = some v1 ∧ W.cell? ⟨B, 2, none⟩ = some v2 ∧ W.cell? ⟨B, 3, none⟩ = some v3 ∧ W.cell? ⟨B, 4, none⟩ = some v4 ∧ W.cell? ⟨B, 5, none⟩ = some v5) ∧
      (W.frozen? ⟨B, 0, none⟩ = false ∧ W.frozen? ⟨B, 1, none⟩ = false ∧ W.frozen? ⟨B, 2, none⟩ = false ∧ W.frozen? ⟨B, 3, none⟩ = false ∧ W.frozen? ⟨B, 4, none⟩ = false ∧ W.frozen? ⟨B, 5, none⟩ = false) :=
  ⟨⟨h.cell 0, h.cell 1, h.cell 2, h.cell 3, h.cell 4, h.cell 5⟩, ⟨h.frozen 0, h.frozen 1, h.frozen 2, h.frozen 3, h.frozen 4, h.frozen 5⟩⟩
theorem below_set6 {B b : Nat} {w W : World} {v0 v1 v2 v3 v4 v5 : Value} (h : Below B w W) (hb : B ≤ b) : Below B w ((((((W.setCell ⟨b, 0, none⟩ v0).setCell ⟨b, 1, none⟩ v1).setCell ⟨b, 2, none⟩ v2).setCell ⟨b, 3, none⟩ v3).setCell ⟨b, 4, none⟩ v4).setCell ⟨b, 5, none⟩ v5) :=
  Below.setCell (p := ⟨b, 5, none⟩) (Below.setCell (p := ⟨b, 4, none⟩) (Below.setCell (p := ⟨b, 3, none⟩) (Below.setCell (p := ⟨b, 2, none⟩) (Below.setCell (p := ⟨b, 1, none⟩) (Below.setCell (p := ⟨b, 0, none⟩) h hb _) hb _) hb _) hb _) hb _) hb _
/-! Small contracts. -/
theorem int0_any (x : Int) (w : World) :
    Calls Try.prog 63 #[.int .u64 x] w fun e w' => e = .returned (.agg #[.int .u64 0, .int .u64 0, .int .u64 x, .int .i64 0, .int .i64 (-1), .bool false]) ∧ Below w.heap.size w w' := by
  go_enter Try.func63, Try.ntmps63
  go_wp2_with fail
  exact bodyPost_ret (v := .agg #[.int .u64 0, .int .u64 0, .int .u64 x, .int .i64 0, .int .i64 (-1), .bool false]) (by simp [results, Try.results63, go_sem]) rfl ⟨rfl, (by repeat' (first | (with_reducible refine Below.setCell ?_ ?_ _) | (with_reducible refine bAlloc ?_ _) | (with_reducible exact Below.refl _ _) | (simp; done) | (simp; omega)))⟩
theorem null_any (w : World) :
    Calls Try.prog 54 #[] w fun e w' => e = .returned (.agg #[.int .u64 0, .int .u64 0, .int .u64 0, .int .i64 0, .int .i64 (-1), .bool false]) ∧ Below w.heap.size w w' := by
  go_enter Try.func54, Try.ntmps54
  go_wp2_with fail
  refine (int0_any _ _).mono ?_; rintro e w1 ⟨rfl, hb⟩
  have hk : BoxN w1 w.heap.size #[.int .u64 0, .int .u64 0, .int .u64 0, .int .i64 0, .int .i64 0, .bool false] := boxN_below (BoxN.new w _ 24) hb
  have hb1 : Below w.heap.size w w1 := bTrans (bAlloc (Below.refl _ _) _) hb
  have HB := Lib.hid hb1
  obtain ⟨⟨c0, c1, c2, c3, c4, c5⟩, f0, f1, f2, f3, f4, f5⟩ := boxN6 hk
  clear hk hb hb1
  go_wp2_with fail
  exact bodyPost_ret (v := .agg #[.int .u64 0, .int .u64 0, .int .u64 0, .int .i64 0, .int .i64 (-1), .bool false]) (by simp [results, Try.results54, go_sem, c0, c1, c2, c3, c4, c5]) rfl ⟨rfl, below_set6 HB.out (Nat.le_refl _)⟩
theorem rint_any (x : Int) (w : World) :
    Calls Try.prog 55 #[.int .u64 x] w fun e w' => e = .returned (.agg #[.int .u64 0, .int .u64 0, .int .u64 x, .int .i64 0, .int .i64 (-1), .bool false]) ∧ Below w.heap.size w w' := by
  go_enter Try.func55, Try.ntmps55
  go_wp2_with fail
  exact bodyPost_ret (v := .agg #[.int .u64 0, .int .u64 0, .int .u64 x, .int .i64 0, .int .i64 (-1), .bool false]) (by simp [results, Try.results55, go_sem]) rfl ⟨rfl, (by repeat' (first | (with_reducible refine Below.setCell ?_ ?_ _) | (with_reducible refine bAlloc ?_ _) | (with_reducible exact Below.refl _ _) | (simp; done) | (simp; omega)))⟩
theorem clear_any (cb ct ca cp cy : Int) (cg : Bool) (w : World) :
    Calls Try.prog 37 #[.agg #[.int .u64 cb, .int .u64 ct, .int .u64 ca, .int .i64 cp, .int .i64 cy, .bool cg]] w fun e w' => e = .returned (.agg #[.int .u64 cb, .int .u64 ct, .int .u64 ca, .int .i64 cp, .int .i64 cy, .bool false]) ∧ Below w.heap.size w w' := by
  go_enter Try.func37, Try.ntmps37
  go_wp2_with fail
  exact bodyPost_ret (v := .agg #[.int .u64 cb, .int .u64 ct, .int .u64 ca, .int .i64 cp, .int .i64 cy, .bool false]) (by simp [results, Try.results37, go_sem]) rfl ⟨rfl, (by repeat' (first | (with_reducible refine Below.setCell ?_ ?_ _) | (with_reducible refine bAlloc ?_ _) | (with_reducible exact Below.refl _ _) | (simp; done) | (simp; omega)))⟩
theorem rclear_any (cb ct ca cp cy : Int) (cg : Bool) (w : World) :
    Calls Try.prog 38 #[.agg #[.int .u64 cb, .int .u64 ct, .int .u64 ca, .int .i64 cp, .int .i64 cy, .bool cg]] w fun e w' => e = .returned (.agg #[.int .u64 cb, .int .u64 ct, .int .u64 ca, .int .i64 cp, .int .i64 cy, .bool false]) ∧ Below w.heap.size w w' := by
  go_enter Try.func38, Try.ntmps38
  go_wp2_with fail
  exact bodyPost_ret (v := .agg #[.int .u64 cb, .int .u64 ct, .int .u64 ca, .int .i64 cp, .int .i64 cy, .bool false]) (by simp [results, Try.results38, go_sem]) rfl ⟨rfl, (by repeat' (first | (with_reducible refine Below.setCell ?_ ?_ _) | (with_reducible refine bAlloc ?_ _) | (with_reducible exact Below.refl _ _) | (simp; done) | (simp; omega)))⟩
end Go.Proofs.Ytinflemamegdfaa
