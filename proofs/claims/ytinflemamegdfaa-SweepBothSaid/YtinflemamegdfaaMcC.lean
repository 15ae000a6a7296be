/- Sweep's closure: contract. -/
import Derived.Test.YtinflemamegdfaaSwB
namespace Go.Proofs.Ytinflemamegdfaa
set_option linter.unusedVariables false
set_option linter.unusedSimpArgs false
open Go.Joins Go.ChangeShapes Go.WideShapes Go.ChangeAt Go.RowKit Go.Deep

/-- whether one touches; what it is behind a sweep; how many that is -/
def tch (f n ty : Int) (c : Cp) : Bool := touchB c.b c.t c.y c.g f n ty
def clrC (c : Cp) : Cp := { c with g := false }
def swp (f n ty : Int) (c : Cp) : Cp := if tch f n ty c = true then clrC c else c
def cnt (f n ty : Int) (c : Cp) : Int := if tch f n ty c = true then 1 else 0
/-- what tells whether one touches, and what it captured -/
def tchV (bT bN bF bL : Nat) : Value := .func (.func 49) #[] #[.pointer (some ⟨bT, 0, none⟩), .pointer (some ⟨bN, 0, none⟩), .pointer (some ⟨bF, 0, none⟩), .pointer (some ⟨bL, 0, none⟩)]
structure TchAt (W : World) (bT bN bF bL : Nat) (f n ty : Int) : Prop where
  xt : W.cell? ⟨bT, 0, none⟩ = some (.int .i64 ty)
  xn : W.cell? ⟨bN, 0, none⟩ = some (.int .u64 n)
  xf : W.cell? ⟨bF, 0, none⟩ = some (.int .u64 f)
  xl : W.cell? ⟨bL, 0, none⟩ = some (.int .u64 (lastZ f n))
theorem TchAt.below {W W' : World} {bT bN bF bL : Nat} {f n ty : Int} (h : TchAt W bT bN bF bL f n ty) (hb : Below W.heap.size W W') : TchAt W' bT bN bF bL f n ty :=
  ⟨(hb.cell (heap_lt_of_cell h.xt)).trans h.xt, (hb.cell (heap_lt_of_cell h.xn)).trans h.xn, (hb.cell (heap_lt_of_cell h.xf)).trans h.xf, (hb.cell (heap_lt_of_cell h.xl)).trans h.xl⟩
theorem TchAt.kp {W W' : World} {bT bN bF bL : Nat} {f n ty : Int} {S : Nat → Prop} (h : TchAt W bT bN bF bL f n ty) (hk : KP W.heap.size S W W') (hS : ∀ b, b = bT ∨ b = bN ∨ b = bF ∨ b = bL → ¬ S b) : TchAt W' bT bN bF bL f n ty :=
  ⟨hk.cell (heap_lt_of_cell h.xt) (hS _ (Or.inl rfl)) h.xt, hk.cell (heap_lt_of_cell h.xn) (hS _ (Or.inr (Or.inl rfl))) h.xn, hk.cell (heap_lt_of_cell h.xf) (hS _ (Or.inr (Or.inr (Or.inl rfl)))) h.xf, hk.cell (heap_lt_of_cell h.xl) (hS _ (Or.inr (Or.inr (Or.inr rfl)))) h.xl⟩
theorem tch_any (c : Cp) (bT bN bF bL : Nat) (f n ty : Int) (w : World) (h : TchAt w bT bN bF bL f n ty) :
    Calls Try.prog 49 #[.agg #[.int .u64 c.b, .int .u64 c.t, .int .u64 c.a, .int .i64 c.p, .int .i64 c.y, .bool c.g], .pointer (some ⟨bT, 0, none⟩), .pointer (some ⟨bN, 0, none⟩), .pointer (some ⟨bF, 0, none⟩), .pointer (some ⟨bL, 0, none⟩)] w fun e w' => e = .returned (.bool (tch f n ty c)) ∧ Below w.heap.size w w' :=
  closure_any c.b c.t c.a c.p c.y c.g bT bN bF bL f n ty (lastZ f n) w h.xt h.xn h.xf h.xl
set_option maxRecDepth 100000 in
set_option maxHeartbeats 4000000 in
theorem sweep1_any (W : World) (P o T K bT bN bF bL : Nat) (pre post : List Value) (c : Cp) (k f n ty : Int) (hb : BoxN W P (pre ++ (capC c ++ post)).toArray) (ho : pre.length = o) (ht : BoxN W T #[tchV bT bN bF bL]) (hk : BoxN W K #[.int .i64 k]) (htc : TchAt W bT bN bF bL f n ty) (hPK : P ≠ K) (k0 : 0 ≤ k) (k1 : k < 1000000) :
    Calls Try.prog 36 #[.pointer (some ⟨P, o, none⟩), .pointer (some ⟨T, 0, none⟩), .pointer (some ⟨K, 0, none⟩)] W fun e W' => e = .returned (.tuple #[]) ∧ BoxN W' P (pre ++ (capC (swp f n ty c) ++ post)).toArray ∧ BoxN W' K #[.int .i64 (k + cnt f n ty c)] ∧ KP W.heap.size (fun b => b = P ∨ b = K) W W' := by
  have HBX := Lib.hid hb
  have HK := Lib.hid hk
  have HT := Lib.hid ht
  have HTC := Lib.hid htc
  have C := Lib.hid (fun w h => tch_any c bT bN bF bL f n ty w h)
  obtain ⟨q, hq⟩ : ∃ q, tch f n ty c = q := ⟨_, rfl⟩
  have HSW : Hid (swp f n ty c = if q = true then clrC c else c) := Lib.hid (by unfold swp; rw [hq])
  have HCN : Hid (cnt f n ty c = if q = true then 1 else 0) := Lib.hid (by unfold cnt; rw [hq])
  rw [hq] at C
  have hr0 := range_mid hb
  rw [ho] at hr0
  obtain ⟨c0, c1, c2, c3, c4, c5⟩ := range6 hr0
  have t0 : W.cell? ⟨T, 0, none⟩ = some (tchV bT bN bF bL) := ht.cell 0
  unfold tchV at t0
  obtain ⟨cb, ct, ca, cp, cy, cg⟩ := c
  simp only [] at C c0 c1 c2 c3 c4 c5
  have HS0 := Lib.hid (And.intro t0 (And.intro c0 (And.intro c1 (And.intro c2 (And.intro c3 (And.intro c4 c5))))))
  have HSd : Hid (W.drew.cell? ⟨T, 0, none⟩ = some (.func (.func 49) #[] #[.pointer (some ⟨bT, 0, none⟩), .pointer (some ⟨bN, 0, none⟩), .pointer (some ⟨bF, 0, none⟩), .pointer (some ⟨bL, 0, none⟩)]) ∧ W.drew.cell? ⟨P, o, none⟩ = some (.int .u64 cb) ∧ W.drew.cell? ⟨P, o + 1, none⟩ = some (.int .u64 ct) ∧ W.drew.cell? ⟨P, o + 2, none⟩ = some (.int .u64 ca) ∧ W.drew.cell? ⟨P, o + 3, none⟩ = some (.int .i64 cp) ∧ W.drew.cell? ⟨P, o + 4, none⟩ = some (.int .i64 cy) ∧ W.drew.cell? ⟨P, o + 5, none⟩ = some (.bool cg)) := Lib.hid HS0.out
  have HO := Lib.hid ho
  have HNE := Lib.hid hPK
  have HKK := Lib.hid (And.intro k0 k1)
  clear hb ho ht hk htc hq hPK hr0 c0 c1 c2 c3 c4 c5 t0 k0 k1
  go_enter Try.func36, Try.ntmps36
  go_wp2_with fail
  go_region_held3 (fun W => W.cell? ⟨T, 0, none⟩ = some (.func (.func 49) #[] #[.pointer (some ⟨bT, 0, none⟩), .pointer (some ⟨bN, 0, none⟩), .pointer (some ⟨bF, 0, none⟩), .pointer (some ⟨bL, 0, none⟩)]) ∧ W.cell? ⟨P, o, none⟩ = some (.int .u64 cb) ∧ W.cell? ⟨P, o + 1, none⟩ = some (.int .u64 ct) ∧ W.cell? ⟨P, o + 2, none⟩ = some (.int .u64 ca) ∧ W.cell? ⟨P, o + 3, none⟩ = some (.int .i64 cp) ∧ W.cell? ⟨P, o + 4, none⟩ = some (.int .i64 cy) ∧ W.cell? ⟨P, o + 5, none⟩ = some (.bool cg))
    (first | with_reducible exact HSd.out | with_reducible exact HS1.out | go_keep)
    (first
      | ((with_reducible refine (C.out _ (HTC.out.below (Below.drew (Below.refl _ _)))).mono ?_); rintro e w1 ⟨rfl, hb⟩; have hb := undrewB hb; have HS1 := Lib.hid (And.intro ((hb.cell (heap_lt_of_cell HS0.out.1)).trans HS0.out.1) (And.intro ((hb.cell (heap_lt_of_cell HS0.out.2.1)).trans HS0.out.2.1) (And.intro ((hb.cell (heap_lt_of_cell HS0.out.2.2.1)).trans HS0.out.2.2.1) (And.intro ((hb.cell (heap_lt_of_cell HS0.out.2.2.2.1)).trans HS0.out.2.2.2.1) (And.intro ((hb.cell (heap_lt_of_cell HS0.out.2.2.2.2.1)).trans HS0.out.2.2.2.2.1) (And.intro ((hb.cell (heap_lt_of_cell HS0.out.2.2.2.2.2.1)).trans HS0.out.2.2.2.2.2.1) ((hb.cell (heap_lt_of_cell HS0.out.2.2.2.2.2.2)).trans HS0.out.2.2.2.2.2.2))))))); have HB1 := Lib.hid hb; clear hb))
  have HBX1 := Lib.hid (boxN_below HBX.out HB1.out)
  have HK1 := Lib.hid (boxN_below HK.out HB1.out)
  clear HSd HS0 HBX HK HT HTC
  cases q with
  | false =>
    have e1 := HSW.out
    have e2 := HCN.out
    rw [if_neg (by decide)] at e1 e2
    clear HS1
    go_wp2_with fail
    go_end0
    refine ⟨rfl, by rw [e1]; exact HBX1.out, by rw [e2, Int.add_zero]; exact HK1.out, KP.of_below _ HB1.out⟩
  | true =>
    have e1 := HSW.out
    have e2 := HCN.out
    rw [if_pos rfl] at e1 e2
    have HE := Lib.hid (And.intro e1 e2)
    obtain ⟨-, c0, c1, c2, c3, c4, c5⟩ := HS1.out
    have C2 := Lib.hid (fun w => clear_any cb ct ca cp cy cg w)
    clear e1 e2 HS1 HSW HCN C
    go_wp2_with fail
    refine (C2.out _).mono ?_; rintro e w2 ⟨rfl, hb⟩
    have HBX2 := Lib.hid (boxN_below HBX1.out hb)
    have HK2 := Lib.hid (boxN_below HK1.out hb)
    have HB2 := Lib.hid (HB1.out.trans (hb.mono HB1.out.size))
    have hr2 := range_mid HBX2.out
    have ht2 : w2.there P o 6 := by rw [← HO.out]; exact there_mid (mid := capC ⟨cb, ct, ca, cp, cy, cg⟩) HBX2.out
    rw [HO.out] at hr2
    obtain ⟨d0, d1, d2, d3, d4, d5⟩ := range6 hr2
    obtain ⟨f0, f1, f2, f3, f4, f5⟩ := there6 ht2
    simp only [] at d0 d1 d2 d3 d4 d5
    clear hb hr2 ht2 c0 c1 c2 c3 c4 c5 HBX1 HK1 HB1 C2
    go_upto_region 2 with fail
    have hbx3 := boxN_mid P [.int .u64 cb, .int .u64 ct, .int .u64 ca, .int .i64 cp, .int .i64 cy, .bool false] pre (capC ⟨cb, ct, ca, cp, cy, cg⟩) post w2 rfl HBX2.out
    rw [HO.out] at hbx3
    have hkp3 := kp_setCells (n := W.heap.size) (S := fun b => b = P ∨ b = K) P (Or.inr (Or.inl rfl)) [.int .u64 cb, .int .u64 ct, .int .u64 ca, .int .i64 cp, .int .i64 cy, .bool false] o w2 (KP.of_below _ HB2.out)
    have hk3 : BoxN (w2.setCells P o [.int .u64 cb, .int .u64 ct, .int .u64 ca, .int .i64 cp, .int .i64 cy, .bool false]) K #[.int .i64 k] :=
      HK2.out.kp (kp_setCells (n := w2.heap.size) (S := fun b => b = P) P (Or.inr rfl) _ o w2 (KP.refl _ _ _)) HK2.out.lt (fun e => HNE.out e.symm)
    rw [set6_eq] at hbx3 hkp3 hk3
    generalize (((((w2.setCell ⟨P, o, none⟩ (.int .u64 cb)).setCell ⟨P, o + 1, none⟩ (.int .u64 ct)).setCell ⟨P, o + 2, none⟩ (.int .u64 ca)).setCell ⟨P, o + 3, none⟩ (.int .i64 cp)).setCell ⟨P, o + 4, none⟩ (.int .i64 cy)).setCell ⟨P, o + 5, none⟩ (.bool false) = W3 at *
    have HBX3 := Lib.hid hbx3
    have HKP3 := Lib.hid hkp3
    have HK3 := Lib.hid hk3
    have m0 : W3.cell? ⟨K, 0, none⟩ = some (.int .i64 k) := hk3.cell 0
    have m1 : W3.frozen? ⟨K, 0, none⟩ = false := hk3.frozen 0
    have wk : IntKind.i64.wrap (k + 1) = k + 1 := by have := HKK.out; rw [IntKind.wrap_i64]; omega
    clear hbx3 hkp3 hk3 d0 d1 d2 d3 d4 d5 f0 f1 f2 f3 f4 f5 HBX2 HK2 HB2
    go_wp2_with fail
    go_end0
    obtain ⟨e1, e2⟩ := HE.out
    refine ⟨rfl, ?_, ?_, HKP3.out.set ⟨K, 0, none⟩ (Or.inr (Or.inr rfl)) _⟩
    · rw [e1]
      exact HBX3.out.kp (KP.set1 W3 K 0 _) HBX3.out.lt (fun e => HNE.out e)
    · rw [e2]
      exact HK3.out.set 0 (.int .i64 (k + 1))
end Go.Proofs.Ytinflemamegdfaa
