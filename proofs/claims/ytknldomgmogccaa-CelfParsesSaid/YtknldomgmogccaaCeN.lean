/- The reader's lists: contracts. -/
import Derived.Test.YtknldomgmogccaaCeM
import Derived.Test.YtknldomgmogccaaCeS
namespace Go.Proofs.Ytknldomgmogccaa
set_option linter.unusedVariables false
set_option linter.unusedSimpArgs false
open Go.Joins Go.ChangeShapes Go.WideShapes Go.ChangeAt Go.RowKit Go.Deep

def listP {α : Type} (one : St → α × St) : Nat → St → List α × St
  | 0, s => ([], s)
  | n + 1, s => if s.wrong = 0 then ((one s).1 :: (listP one n (one s).2).1, (listP one n (one s).2).2) else ([], s)
theorem listP_wrong {α : Type} (one : St → α × St) (n : Nat) (s : St) (h : s.wrong ≠ 0) : listP one n s = ([], s) := by
  cases n with
  | zero => rfl
  | succ n => unfold listP; rw [if_neg h]
theorem listP_step {α : Type} {one : St → α × St} {n : Nat} {s : St} (h : s.wrong = 0) {x : α} {s1 : St} (hx : one s = (x, s1)) : listP one (n + 1) s = (x :: (listP one n s1).1, (listP one n s1).2) := by
  rw [listP, if_pos h, hx]
def listH {α : Type} (one : St → α × St) (s : St) : List α × St := listP one (numP 2 s).1 (numP 2 s).2
theorem own_kp {w w' : World} {R B k n : Nat} {e : TypeId} {v : Value} {xs : List Value} (h : w.ownsRow B e k v n xs) (hk : KP w.heap.size (· = R) w w') (hB : R < B) : w'.ownsRow B e k v n xs :=
  h.kept (row := some R) ⟨hk.os, hk.tape, hk.output, hk.size, fun b hb hne => hk.block b hb (fun q => hne (by rw [q]))⟩ (Or.inr (fun e => by have := (h.lt R e).1; omega))
theorem own_rd {w : World} {B k n c : Nat} {e : TypeId} {a : Option Addr} {xs : List Value} (h : w.ownsRow B e k (.slice a n c) n xs) : Rd w a (n * k) xs := by
  refine ⟨h.1, fun hn => ?_⟩
  rcases h.2 with ⟨e, h0⟩ | ⟨g, cap, cur, hv, _, hg, hnc, _, hs, htake⟩
  · subst h0; simp at hn
  · cases hv
    refine ⟨g, 0, rfl, (Array.getElem?_eq_some_iff.1 hg).1, fun j hj => ?_⟩
    rw [Nat.zero_add]
    exact h.cellAt j hj
theorem txs_snoc (xs : List (List UInt8)) (x : List UInt8) : txs (xs ++ [x]) = txs xs ++ [.string ⟨x.toArray⟩] := by simp [txs, strV]
theorem i64s_snoc (xs : List Int) (x : Int) : i64s (xs ++ [x]) = i64s xs ++ [.int .i64 x] := by simp [i64s]
theorem symsC_snoc (xs : List Sym) (x : Sym) : symsC (xs ++ [x]) = symsC xs ++ symC x := by simp [symsC]
theorem relsC_snoc (xs : List Rel) (x : Rel) : relsC (xs ++ [x]) = relsC xs ++ relC x := by simp [relsC]
theorem segsC_snoc (xs : List Seg) (x : Seg) : segsC (xs ++ [x]) = segsC xs ++ segC x := by simp [segsC]
def halfP (s : St) : Int × St := (((numP 2 s).1 : Int), (numP 2 s).2)
set_option maxHeartbeats 2000000 in
set_option maxRecDepth 100000 in
theorem listStr_any (base R : Nat) (s : St) (W : World) (h : RdAt base R W s) :
    Calls Try.prog 39 #[.pointer (some ⟨R, 0, none⟩), .func (.func 38) #[] #[]] W fun e W' => (∃ a c, e = .returned (.slice a (listH textP s).1.length c) ∧ W'.ownsRow W.heap.size 9 1 (.slice a (listH textP s).1.length c) (listH textP s).1.length (txs (listH textP s).1)) ∧ RdAt base R W' (listH textP s).2 ∧ KP W.heap.size (· = R) W W' := by
  have hlt := h.lt
  have HH := Lib.hid (half_any base R s W h)
  have hn := numP_lt 2 s
  unfold listH
  obtain ⟨⟨n0, s0⟩, h0⟩ : ∃ x, numP 2 s = x := ⟨_, rfl⟩
  rw [h0] at HH hn ⊢
  have hn : n0 < 65536 := hn
  simp only [] at HH ⊢
  obtain ⟨⟨L, sf⟩, hL⟩ : ∃ x, listP textP n0 s0 = x := ⟨_, rfl⟩
  rw [hL]
  simp only []
  have HL := Lib.hid hL
  clear h h0 hL
  go_enter Try.func39, Try.ntmps39
  go_wp2_with fail
  refine HH.out.mono ?_; rintro e W1 ⟨rfl, hrd, hkp⟩
  have HR1 := Lib.hid hrd
  have HK1 := Lib.hid hkp
  clear hrd hkp
  go_wp2_with fail
  go_loopw [5, 6] (fun lv mv wr => ∃ (j : Nat) (sj : St) (v : Value) (xs : List (List UInt8)), v = lv ∧ mv = .int .i64 j ∧ xs.length + j ≤ 65535 ∧ Hid (wr.ownsRow W.heap.size 9 1 v xs.length (txs xs)) ∧ Hid (RdAt base R wr sj) ∧ Hid (KP W.heap.size (· = R) W wr) ∧ Hid ((xs ++ (listP textP j sj).1, (listP textP j sj).2) = (L, sf))) (fun _ mv _ => (intOf mv).toNat)
  case atStart => exact ⟨n0, s0, _, [], rfl, rfl, by simp; omega, Lib.hid (World.ownsRow_nil _ _ _ _), HR1, HK1, Lib.hid HL.out⟩
  case round =>
    obtain ⟨j, sj, v, xs, rfl, rfl, hj, HO, HR, HK, HE⟩ := hrel
    obtain ⟨ra, rc, hbx, -, -⟩ := HR.out.box
    have c1 : wr.cell? ⟨R, 1, none⟩ = some (.int .i64 sj.wrong) := hbx.cell 1
    have hRw := hbx.lt
    have hsz := HK.out.size
    obtain ⟨wr1, hwr1⟩ : ∃ x, sj.wrong = x := ⟨_, rfl⟩
    rw [hwr1] at c1
    have HWR := Lib.hid hwr1
    clear hbx hwr1
    by_cases hgo : 0 < j ∧ wr1 = 0
    · obtain ⟨hj0, hw0⟩ := hgo
      obtain ⟨i, rfl⟩ : ∃ i, j = i + 1 := ⟨j - 1, by omega⟩
      subst hw0
      have HC := Lib.hid (text_any base R sj wr HR.out)
      obtain ⟨⟨x1, s1⟩, hx⟩ : ∃ x, textP sj = x := ⟨_, rfl⟩
      have he := HE.out
      rw [listP_step HWR.out hx] at he
      rw [hx] at HC
      simp only [] at HC he
      have HE2 := Lib.hid he
      have ej0 : (0 : Int) < (i : Int) + 1 := by omega
      have ej2 : IntKind.i64.wrap (i : Int) = (i : Int) := IntWalk.i64_in _ (by omega)
      clear he hx
      go_wp2_with fail
      refine HC.out.mono ?_; rintro e W2 ⟨rfl, hrd, hkp⟩
      have HO2 := Lib.hid (own_kp HO.out hkp hlt)
      have HR2 := Lib.hid hrd
      have HK2 := Lib.hid (step_kp HK.out hkp)
      have hs2 := hkp.size
      clear hrd hkp
      go_wp2_with (at_builtin; refine wpList_appE 24 9 (.string ⟨#[]⟩) 1 16 Try.underlying24 infoStr rfl (by decide) (by decide) _ rfl _ _ rfl W.heap.size v xs.length (txs xs) rfl (HO2.out.alloc _) (some ⟨W2.heap.size, 0, none⟩) 1 1 [.string ⟨x1.toArray⟩] rfl (Rd.lit W2 #[.string ⟨x1.toArray⟩] 9 (by show 1 ≤ maxLen; decide)) (fun u hu => by simp at hu; subst hu; rfl) (by omega) (by rw [size_alloc]; omega) ?_; intro a3 c3 W3 hown3 hgrow3 hat3)
      have HO3 := Lib.hid (show W3.ownsRow W.heap.size 9 1 (.slice a3 (xs.length + 1) c3) (xs ++ [x1]).length (txs (xs ++ [x1])) by rw [txs_snoc, List.length_append]; exact hown3)
      have HR3 := Lib.hid ((HR2.out.below (bAlloc (Below.refl _ _) (.cells #[.string ⟨x1.toArray⟩] 9))).kp ((KP.refl (R + 1) (fun _ => False) (W2.alloc (.cells #[.string ⟨x1.toArray⟩] 9))).grown hgrow3 (by rw [size_alloc]; omega) (fun r e => Or.inl (by have := (HO2.out.lt r e).1; omega))) (Nat.lt_succ_self R) (fun _ _ => id))
      have HK3 := Lib.hid ((HK2.out.alloc (.cells #[.string ⟨x1.toArray⟩] 9) (by omega)).grown hgrow3 (by rw [size_alloc]; omega) (fun r e => Or.inl (HO2.out.lt r e).1))
      clear hown3 hgrow3 hat3
      go_wp2_with fail
      go_roundw
      case rel => exact ⟨i, s1, _, xs ++ [x1], rfl, rfl, by rw [List.length_append]; simp; omega, HO3, HR3, HK3, Lib.hid (by rw [← HE2.out]; simp)⟩
      case measure => simp [intOf] <;> omega
    · have he := HE.out
      have hend : listP textP j sj = ([], sj) := by
        rcases Nat.eq_zero_or_pos j with h0 | h0
        · subst h0; rfl
        · exact listP_wrong _ _ _ (fun q => hgo ⟨h0, HWR.out.symm.trans q⟩)
      rw [hend, List.append_nil] at he
      simp only [Prod.mk.injEq] at he
      obtain ⟨he1, he2⟩ := he
      subst he1
      subst he2
      obtain ⟨a', c', rfl, -⟩ := own_slice HO.out
      clear hend
      by_cases hj0 : 0 < j
      · have hw0 : ¬ wr1 = 0 := fun q => hgo ⟨hj0, q⟩
        have ej0 : (0 : Int) < (j : Int) := by omega
        go_wp2_with fail
        go_ret
        exact ⟨⟨_, _, rfl, HO.out⟩, HR.out, HK.out⟩
      · obtain rfl : j = 0 := by omega
        go_wp2_with fail
        go_ret
        exact ⟨⟨_, _, rfl, HO.out⟩, HR.out, HK.out⟩
set_option maxHeartbeats 2000000 in
set_option maxRecDepth 100000 in
theorem listInt_any (base R : Nat) (s : St) (W : World) (h : RdAt base R W s) :
    Calls Try.prog 46 #[.pointer (some ⟨R, 0, none⟩), .func (.func 47) #[] #[]] W fun e W' => (∃ a c, e = .returned (.slice a (listH halfP s).1.length c) ∧ W'.ownsRow W.heap.size 3 1 (.slice a (listH halfP s).1.length c) (listH halfP s).1.length (i64s (listH halfP s).1)) ∧ RdAt base R W' (listH halfP s).2 ∧ KP W.heap.size (· = R) W W' := by
  have hlt := h.lt
  have HH := Lib.hid (half_any base R s W h)
  have hn := numP_lt 2 s
  unfold listH
  obtain ⟨⟨n0, s0⟩, h0⟩ : ∃ x, numP 2 s = x := ⟨_, rfl⟩
  rw [h0] at HH hn ⊢
  have hn : n0 < 65536 := hn
  simp only [] at HH ⊢
  obtain ⟨⟨L, sf⟩, hL⟩ : ∃ x, listP halfP n0 s0 = x := ⟨_, rfl⟩
  rw [hL]
  simp only []
  have HL := Lib.hid hL
  clear h h0 hL
  go_enter Try.func46, Try.ntmps46
  go_wp2_with fail
  refine HH.out.mono ?_; rintro e W1 ⟨rfl, hrd, hkp⟩
  have HR1 := Lib.hid hrd
  have HK1 := Lib.hid hkp
  clear hrd hkp
  go_wp2_with fail
  go_loopw [5, 6] (fun lv mv wr => ∃ (j : Nat) (sj : St) (v : Value) (xs : List Int), v = lv ∧ mv = .int .i64 j ∧ xs.length + j ≤ 65535 ∧ Hid (wr.ownsRow W.heap.size 3 1 v xs.length (i64s xs)) ∧ Hid (RdAt base R wr sj) ∧ Hid (KP W.heap.size (· = R) W wr) ∧ Hid ((xs ++ (listP halfP j sj).1, (listP halfP j sj).2) = (L, sf))) (fun _ mv _ => (intOf mv).toNat)
  case atStart => exact ⟨n0, s0, _, [], rfl, rfl, by simp; omega, Lib.hid (World.ownsRow_nil _ _ _ _), HR1, HK1, Lib.hid HL.out⟩
  case round =>
    obtain ⟨j, sj, v, xs, rfl, rfl, hj, HO, HR, HK, HE⟩ := hrel
    obtain ⟨ra, rc, hbx, -, -⟩ := HR.out.box
    have c1 : wr.cell? ⟨R, 1, none⟩ = some (.int .i64 sj.wrong) := hbx.cell 1
    have hRw := hbx.lt
    have hsz := HK.out.size
    obtain ⟨wr1, hwr1⟩ : ∃ x, sj.wrong = x := ⟨_, rfl⟩
    rw [hwr1] at c1
    have HWR := Lib.hid hwr1
    clear hbx hwr1
    by_cases hgo : 0 < j ∧ wr1 = 0
    · obtain ⟨hj0, hw0⟩ := hgo
      obtain ⟨i, rfl⟩ : ∃ i, j = i + 1 := ⟨j - 1, by omega⟩
      subst hw0
      have HC := Lib.hid (half_any base R sj wr HR.out)
      obtain ⟨⟨x1, s1⟩, hx⟩ : ∃ x, halfP sj = x := ⟨_, rfl⟩
      have he := HE.out
      rw [listP_step HWR.out hx] at he
      rw [show ((numP 2 sj).1 : Int) = x1 from congrArg Prod.fst hx, show (numP 2 sj).2 = s1 from congrArg Prod.snd hx] at HC
      simp only [] at HC he
      have HE2 := Lib.hid he
      have ej0 : (0 : Int) < (i : Int) + 1 := by omega
      have ej2 : IntKind.i64.wrap (i : Int) = (i : Int) := IntWalk.i64_in _ (by omega)
      clear he hx
      go_wp2_with fail
      refine HC.out.mono ?_; rintro e W2 ⟨rfl, hrd, hkp⟩
      have HO2 := Lib.hid (own_kp HO.out hkp hlt)
      have HR2 := Lib.hid hrd
      have HK2 := Lib.hid (step_kp HK.out hkp)
      have hs2 := hkp.size
      clear hrd hkp
      go_wp2_with (at_builtin; refine wpList_appE 28 3 (.int .i64 0) 1 8 Try.underlying28 infoInt rfl (by decide) (by decide) _ rfl _ _ rfl W.heap.size v xs.length (i64s xs) rfl (HO2.out.alloc _) (some ⟨W2.heap.size, 0, none⟩) 1 1 [.int .i64 x1] rfl (Rd.lit W2 #[.int .i64 x1] 3 (by show 1 ≤ maxLen; decide)) (fun u hu => by simp at hu; subst hu; rfl) (by omega) (by rw [size_alloc]; omega) ?_; intro a3 c3 W3 hown3 hgrow3 hat3)
      have HO3 := Lib.hid (show W3.ownsRow W.heap.size 3 1 (.slice a3 (xs.length + 1) c3) (xs ++ [x1]).length (i64s (xs ++ [x1])) by rw [i64s_snoc, List.length_append]; exact hown3)
      have HR3 := Lib.hid ((HR2.out.below (bAlloc (Below.refl _ _) (.cells #[.int .i64 x1] 3))).kp ((KP.refl (R + 1) (fun _ => False) (W2.alloc (.cells #[.int .i64 x1] 3))).grown hgrow3 (by rw [size_alloc]; omega) (fun r e => Or.inl (by have := (HO2.out.lt r e).1; omega))) (Nat.lt_succ_self R) (fun _ _ => id))
      have HK3 := Lib.hid ((HK2.out.alloc (.cells #[.int .i64 x1] 3) (by omega)).grown hgrow3 (by rw [size_alloc]; omega) (fun r e => Or.inl (HO2.out.lt r e).1))
      clear hown3 hgrow3 hat3
      go_wp2_with fail
      go_roundw
      case rel => exact ⟨i, s1, _, xs ++ [x1], rfl, rfl, by rw [List.length_append]; simp; omega, HO3, HR3, HK3, Lib.hid (by rw [← HE2.out]; simp)⟩
      case measure => simp [intOf] <;> omega
    · have he := HE.out
      have hend : listP halfP j sj = ([], sj) := by
        rcases Nat.eq_zero_or_pos j with h0 | h0
        · subst h0; rfl
        · exact listP_wrong _ _ _ (fun q => hgo ⟨h0, HWR.out.symm.trans q⟩)
      rw [hend, List.append_nil] at he
      simp only [Prod.mk.injEq] at he
      obtain ⟨he1, he2⟩ := he
      subst he1
      subst he2
      obtain ⟨a', c', rfl, -⟩ := own_slice HO.out
      clear hend
      by_cases hj0 : 0 < j
      · have hw0 : ¬ wr1 = 0 := fun q => hgo ⟨hj0, q⟩
        have ej0 : (0 : Int) < (j : Int) := by omega
        go_wp2_with fail
        go_ret
        exact ⟨⟨_, _, rfl, HO.out⟩, HR.out, HK.out⟩
      · obtain rfl : j = 0 := by omega
        go_wp2_with fail
        go_ret
        exact ⟨⟨_, _, rfl, HO.out⟩, HR.out, HK.out⟩
set_option maxHeartbeats 2000000 in
set_option maxRecDepth 100000 in
theorem listSym_any (base R : Nat) (s : St) (W : World) (h : RdAt base R W s) :
    Calls Try.prog 42 #[.pointer (some ⟨R, 0, none⟩), .func (.func 43) #[] #[]] W fun e W' => (∃ a c, e = .returned (.slice a (listH symP s).1.length c) ∧ W'.ownsRow W.heap.size 42 8 (.slice a (listH symP s).1.length c) (listH symP s).1.length (symsC (listH symP s).1)) ∧ RdAt base R W' (listH symP s).2 ∧ KP W.heap.size (· = R) W W' := by
  have hlt := h.lt
  have HH := Lib.hid (half_any base R s W h)
  have hn := numP_lt 2 s
  unfold listH
  obtain ⟨⟨n0, s0⟩, h0⟩ : ∃ x, numP 2 s = x := ⟨_, rfl⟩
  rw [h0] at HH hn ⊢
  have hn : n0 < 65536 := hn
  simp only [] at HH ⊢
  obtain ⟨⟨L, sf⟩, hL⟩ : ∃ x, listP symP n0 s0 = x := ⟨_, rfl⟩
  rw [hL]
  simp only []
  have HL := Lib.hid hL
  clear h h0 hL
  go_enter Try.func42, Try.ntmps42
  go_wp2_with fail
  refine HH.out.mono ?_; rintro e W1 ⟨rfl, hrd, hkp⟩
  have HR1 := Lib.hid hrd
  have HK1 := Lib.hid hkp
  clear hrd hkp
  go_wp2_with fail
  go_loopw [5, 6] (fun lv mv wr => ∃ (j : Nat) (sj : St) (v : Value) (xs : List Sym), v = lv ∧ mv = .int .i64 j ∧ xs.length + j ≤ 65535 ∧ Hid (wr.ownsRow W.heap.size 42 8 v xs.length (symsC xs)) ∧ Hid (RdAt base R wr sj) ∧ Hid (KP W.heap.size (· = R) W wr) ∧ Hid ((xs ++ (listP symP j sj).1, (listP symP j sj).2) = (L, sf))) (fun _ mv _ => (intOf mv).toNat)
  case atStart => exact ⟨n0, s0, _, [], rfl, rfl, by simp; omega, Lib.hid (World.ownsRow_nil _ _ _ _), HR1, HK1, Lib.hid HL.out⟩
  case round =>
    obtain ⟨j, sj, v, xs, rfl, rfl, hj, HO, HR, HK, HE⟩ := hrel
    obtain ⟨ra, rc, hbx, -, -⟩ := HR.out.box
    have c1 : wr.cell? ⟨R, 1, none⟩ = some (.int .i64 sj.wrong) := hbx.cell 1
    have hRw := hbx.lt
    have hsz := HK.out.size
    obtain ⟨wr1, hwr1⟩ : ∃ x, sj.wrong = x := ⟨_, rfl⟩
    rw [hwr1] at c1
    have HWR := Lib.hid hwr1
    clear hbx hwr1
    by_cases hgo : 0 < j ∧ wr1 = 0
    · obtain ⟨hj0, hw0⟩ := hgo
      obtain ⟨i, rfl⟩ : ∃ i, j = i + 1 := ⟨j - 1, by omega⟩
      subst hw0
      have HC := Lib.hid (symbol_any base R sj wr HR.out)
      obtain ⟨⟨x1, s1⟩, hx⟩ : ∃ x, symP sj = x := ⟨_, rfl⟩
      have he := HE.out
      rw [listP_step HWR.out hx] at he
      rw [hx] at HC
      unfold symC at HC
      simp only [] at HC he
      have HE2 := Lib.hid he
      have ej0 : (0 : Int) < (i : Int) + 1 := by omega
      have ej2 : IntKind.i64.wrap (i : Int) = (i : Int) := IntWalk.i64_in _ (by omega)
      clear he hx
      go_wp2_with fail
      refine HC.out.mono ?_; rintro e W2 ⟨rfl, hrd, hkp⟩
      have HO2 := Lib.hid (own_kp HO.out hkp hlt)
      have HR2 := Lib.hid hrd
      have HK2 := Lib.hid (step_kp HK.out hkp)
      have hs2 := hkp.size
      clear hrd hkp
      go_wp2_with (at_builtin; refine wpList_appE 26 42 (.agg #[.string ⟨#[]⟩, .string ⟨#[]⟩, .int .u64 0, .int .u64 0, .int .i64 0, .int .i64 0, .int .i64 0, .bool false]) 8 80 Try.underlying26 infoSym rfl (by decide) (by decide) _ rfl _ _ rfl W.heap.size v xs.length (symsC xs) rfl (HO2.out.alloc _) (some ⟨W2.heap.size, 0, none⟩) 1 1 [.string ⟨x1.name.toArray⟩, .string ⟨x1.ver.toArray⟩, .int .u64 x1.place, .int .u64 x1.size, .int .i64 x1.kind, .int .i64 x1.bind, .int .i64 x1.seen, .bool x1.defd] rfl (Rd.lit W2 #[.string ⟨x1.name.toArray⟩, .string ⟨x1.ver.toArray⟩, .int .u64 x1.place, .int .u64 x1.size, .int .i64 x1.kind, .int .i64 x1.bind, .int .i64 x1.seen, .bool x1.defd] 42 (by show 8 ≤ maxLen; decide)) (fun u hu => by simp only [List.mem_cons, List.not_mem_nil, or_false] at hu; rcases hu with rfl | rfl | rfl | rfl | rfl | rfl | rfl | rfl <;> rfl) (by omega) (by rw [size_alloc]; omega) ?_; intro a3 c3 W3 hown3 hgrow3 hat3)
      have HO3 := Lib.hid (show W3.ownsRow W.heap.size 42 8 (.slice a3 (xs.length + 1) c3) (xs ++ [x1]).length (symsC (xs ++ [x1])) by rw [symsC_snoc, List.length_append]; exact hown3)
      have HR3 := Lib.hid ((HR2.out.below (bAlloc (Below.refl _ _) (.cells #[.string ⟨x1.name.toArray⟩, .string ⟨x1.ver.toArray⟩, .int .u64 x1.place, .int .u64 x1.size, .int .i64 x1.kind, .int .i64 x1.bind, .int .i64 x1.seen, .bool x1.defd] 42))).kp ((KP.refl (R + 1) (fun _ => False) (W2.alloc (.cells #[.string ⟨x1.name.toArray⟩, .string ⟨x1.ver.toArray⟩, .int .u64 x1.place, .int .u64 x1.size, .int .i64 x1.kind, .int .i64 x1.bind, .int .i64 x1.seen, .bool x1.defd] 42))).grown hgrow3 (by rw [size_alloc]; omega) (fun r e => Or.inl (by have := (HO2.out.lt r e).1; omega))) (Nat.lt_succ_self R) (fun _ _ => id))
      have HK3 := Lib.hid ((HK2.out.alloc (.cells #[.string ⟨x1.name.toArray⟩, .string ⟨x1.ver.toArray⟩, .int .u64 x1.place, .int .u64 x1.size, .int .i64 x1.kind, .int .i64 x1.bind, .int .i64 x1.seen, .bool x1.defd] 42) (by omega)).grown hgrow3 (by rw [size_alloc]; omega) (fun r e => Or.inl (HO2.out.lt r e).1))
      clear hown3 hgrow3 hat3
      go_wp2_with fail
      go_roundw
      case rel => exact ⟨i, s1, _, xs ++ [x1], rfl, rfl, by rw [List.length_append]; simp; omega, HO3, HR3, HK3, Lib.hid (by rw [← HE2.out]; simp)⟩
      case measure => simp [intOf] <;> omega
    · have he := HE.out
      have hend : listP symP j sj = ([], sj) := by
        rcases Nat.eq_zero_or_pos j with h0 | h0
        · subst h0; rfl
        · exact listP_wrong _ _ _ (fun q => hgo ⟨h0, HWR.out.symm.trans q⟩)
      rw [hend, List.append_nil] at he
      simp only [Prod.mk.injEq] at he
      obtain ⟨he1, he2⟩ := he
      subst he1
      subst he2
      obtain ⟨a', c', rfl, -⟩ := own_slice HO.out
      clear hend
      by_cases hj0 : 0 < j
      · have hw0 : ¬ wr1 = 0 := fun q => hgo ⟨hj0, q⟩
        have ej0 : (0 : Int) < (j : Int) := by omega
        go_wp2_with fail
        go_ret
        exact ⟨⟨_, _, rfl, HO.out⟩, HR.out, HK.out⟩
      · obtain rfl : j = 0 := by omega
        go_wp2_with fail
        go_ret
        exact ⟨⟨_, _, rfl, HO.out⟩, HR.out, HK.out⟩
set_option maxHeartbeats 2000000 in
set_option maxRecDepth 100000 in
theorem listRel_any (base R : Nat) (s : St) (W : World) (h : RdAt base R W s) :
    Calls Try.prog 44 #[.pointer (some ⟨R, 0, none⟩), .func (.func 45) #[] #[]] W fun e W' => (∃ a c, e = .returned (.slice a (listH relP s).1.length c) ∧ W'.ownsRow W.heap.size 44 2 (.slice a (listH relP s).1.length c) (listH relP s).1.length (relsC (listH relP s).1)) ∧ RdAt base R W' (listH relP s).2 ∧ KP W.heap.size (· = R) W W' := by
  have hlt := h.lt
  have HH := Lib.hid (half_any base R s W h)
  have hn := numP_lt 2 s
  unfold listH
  obtain ⟨⟨n0, s0⟩, h0⟩ : ∃ x, numP 2 s = x := ⟨_, rfl⟩
  rw [h0] at HH hn ⊢
  have hn : n0 < 65536 := hn
  simp only [] at HH ⊢
  obtain ⟨⟨L, sf⟩, hL⟩ : ∃ x, listP relP n0 s0 = x := ⟨_, rfl⟩
  rw [hL]
  simp only []
  have HL := Lib.hid hL
  clear h h0 hL
  go_enter Try.func44, Try.ntmps44
  go_wp2_with fail
  refine HH.out.mono ?_; rintro e W1 ⟨rfl, hrd, hkp⟩
  have HR1 := Lib.hid hrd
  have HK1 := Lib.hid hkp
  clear hrd hkp
  go_wp2_with fail
  go_loopw [5, 6] (fun lv mv wr => ∃ (j : Nat) (sj : St) (v : Value) (xs : List Rel), v = lv ∧ mv = .int .i64 j ∧ xs.length + j ≤ 65535 ∧ Hid (wr.ownsRow W.heap.size 44 2 v xs.length (relsC xs)) ∧ Hid (RdAt base R wr sj) ∧ Hid (KP W.heap.size (· = R) W wr) ∧ Hid ((xs ++ (listP relP j sj).1, (listP relP j sj).2) = (L, sf))) (fun _ mv _ => (intOf mv).toNat)
  case atStart => exact ⟨n0, s0, _, [], rfl, rfl, by simp; omega, Lib.hid (World.ownsRow_nil _ _ _ _), HR1, HK1, Lib.hid HL.out⟩
  case round =>
    obtain ⟨j, sj, v, xs, rfl, rfl, hj, HO, HR, HK, HE⟩ := hrel
    obtain ⟨ra, rc, hbx, -, -⟩ := HR.out.box
    have c1 : wr.cell? ⟨R, 1, none⟩ = some (.int .i64 sj.wrong) := hbx.cell 1
    have hRw := hbx.lt
    have hsz := HK.out.size
    obtain ⟨wr1, hwr1⟩ : ∃ x, sj.wrong = x := ⟨_, rfl⟩
    rw [hwr1] at c1
    have HWR := Lib.hid hwr1
    clear hbx hwr1
    by_cases hgo : 0 < j ∧ wr1 = 0
    · obtain ⟨hj0, hw0⟩ := hgo
      obtain ⟨i, rfl⟩ : ∃ i, j = i + 1 := ⟨j - 1, by omega⟩
      subst hw0
      have HC := Lib.hid (reloc_any base R sj wr HR.out)
      obtain ⟨⟨x1, s1⟩, hx⟩ : ∃ x, relP sj = x := ⟨_, rfl⟩
      have he := HE.out
      rw [listP_step HWR.out hx] at he
      rw [hx] at HC
      unfold relC at HC
      simp only [] at HC he
      have HE2 := Lib.hid he
      have ej0 : (0 : Int) < (i : Int) + 1 := by omega
      have ej2 : IntKind.i64.wrap (i : Int) = (i : Int) := IntWalk.i64_in _ (by omega)
      clear he hx
      go_wp2_with fail
      refine HC.out.mono ?_; rintro e W2 ⟨rfl, hrd, hkp⟩
      have HO2 := Lib.hid (own_kp HO.out hkp hlt)
      have HR2 := Lib.hid hrd
      have HK2 := Lib.hid (step_kp HK.out hkp)
      have hs2 := hkp.size
      clear hrd hkp
      go_wp2_with (at_builtin; refine wpList_appE 27 44 (.agg #[.int .u64 0, .int .i64 0]) 2 16 Try.underlying27 infoRel rfl (by decide) (by decide) _ rfl _ _ rfl W.heap.size v xs.length (relsC xs) rfl (HO2.out.alloc _) (some ⟨W2.heap.size, 0, none⟩) 1 1 [.int .u64 x1.place, .int .i64 x1.sym] rfl (Rd.lit W2 #[.int .u64 x1.place, .int .i64 x1.sym] 44 (by show 2 ≤ maxLen; decide)) (fun u hu => by simp only [List.mem_cons, List.not_mem_nil, or_false] at hu; rcases hu with rfl | rfl <;> rfl) (by omega) (by rw [size_alloc]; omega) ?_; intro a3 c3 W3 hown3 hgrow3 hat3)
      have HO3 := Lib.hid (show W3.ownsRow W.heap.size 44 2 (.slice a3 (xs.length + 1) c3) (xs ++ [x1]).length (relsC (xs ++ [x1])) by rw [relsC_snoc, List.length_append]; exact hown3)
      have HR3 := Lib.hid ((HR2.out.below (bAlloc (Below.refl _ _) (.cells #[.int .u64 x1.place, .int .i64 x1.sym] 44))).kp ((KP.refl (R + 1) (fun _ => False) (W2.alloc (.cells #[.int .u64 x1.place, .int .i64 x1.sym] 44))).grown hgrow3 (by rw [size_alloc]; omega) (fun r e => Or.inl (by have := (HO2.out.lt r e).1; omega))) (Nat.lt_succ_self R) (fun _ _ => id))
      have HK3 := Lib.hid ((HK2.out.alloc (.cells #[.int .u64 x1.place, .int .i64 x1.sym] 44) (by omega)).grown hgrow3 (by rw [size_alloc]; omega) (fun r e => Or.inl (HO2.out.lt r e).1))
      clear hown3 hgrow3 hat3
      go_wp2_with fail
      go_roundw
      case rel => exact ⟨i, s1, _, xs ++ [x1], rfl, rfl, by rw [List.length_append]; simp; omega, HO3, HR3, HK3, Lib.hid (by rw [← HE2.out]; simp)⟩
      case measure => simp [intOf] <;> omega
    · have he := HE.out
      have hend : listP relP j sj = ([], sj) := by
        rcases Nat.eq_zero_or_pos j with h0 | h0
        · subst h0; rfl
        · exact listP_wrong _ _ _ (fun q => hgo ⟨h0, HWR.out.symm.trans q⟩)
      rw [hend, List.append_nil] at he
      simp only [Prod.mk.injEq] at he
      obtain ⟨he1, he2⟩ := he
      subst he1
      subst he2
      obtain ⟨a', c', rfl, -⟩ := own_slice HO.out
      clear hend
      by_cases hj0 : 0 < j
      · have hw0 : ¬ wr1 = 0 := fun q => hgo ⟨hj0, q⟩
        have ej0 : (0 : Int) < (j : Int) := by omega
        go_wp2_with fail
        go_ret
        exact ⟨⟨_, _, rfl, HO.out⟩, HR.out, HK.out⟩
      · obtain rfl : j = 0 := by omega
        go_wp2_with fail
        go_ret
        exact ⟨⟨_, _, rfl, HO.out⟩, HR.out, HK.out⟩
def coreG (g : Seg) : Int × Int × Int × List UInt8 := (g.place, g.size, g.flags, g.bytes)
theorem segP_rest (s : St) : (segP s).2.rest.length ≤ s.rest.length := by
  unfold segP numP
  simp only []
  exact Nat.le_trans (takeP_rest _ _) (Nat.le_trans (takeP_rest _ _) (Nat.le_trans (takeP_rest _ _) (Nat.le_trans (takeP_rest _ _) (takeP_rest _ _))))
set_option maxHeartbeats 2000000 in
set_option maxRecDepth 100000 in
theorem listSeg_any (base R : Nat) (s : St) (W : World) (h : RdAt base R W s) (hsh : s.rest.length ≤ 100000) :
    Calls Try.prog 40 #[.pointer (some ⟨R, 0, none⟩), .func (.func 41) #[] #[]] W fun e W' => (∃ gs : List Seg, gs.map coreG = (listH segP s).1 ∧ (∀ g ∈ gs, NewB (fun b => W.heap.size ≤ b) W' g.ba g.bytes) ∧ ∃ a c, e = .returned (.slice a gs.length c) ∧ W'.ownsRow W.heap.size 39 4 (.slice a gs.length c) gs.length (segsC gs)) ∧ RdAt base R W' (listH segP s).2 ∧ KP W.heap.size (· = R) W W' := by
  have hlt := h.lt
  have HH := Lib.hid (half_any base R s W h)
  have hn := numP_lt 2 s
  unfold listH
  obtain ⟨⟨n0, s0⟩, h0⟩ : ∃ x, numP 2 s = x := ⟨_, rfl⟩
  rw [h0] at HH hn ⊢
  have hsh0 : s0.rest.length ≤ 100000 := by
    have h1 := takeP_rest 2 s
    have e1 : (takeP 2 s).2 = s0 := congrArg Prod.snd h0
    rw [e1] at h1
    omega
  have hn : n0 < 65536 := hn
  simp only [] at HH ⊢
  obtain ⟨⟨L, sf⟩, hL⟩ : ∃ x, listP segP n0 s0 = x := ⟨_, rfl⟩
  rw [hL]
  simp only []
  have HL := Lib.hid hL
  clear h h0 hL
  go_enter Try.func40, Try.ntmps40
  go_wp2_with fail
  refine HH.out.mono ?_; rintro e W1 ⟨rfl, hrd, hkp⟩
  have HR1 := Lib.hid hrd
  have HK1 := Lib.hid hkp
  clear hrd hkp
  go_wp2_with fail
  go_loopw [5, 6] (fun lv mv wr => ∃ (j : Nat) (sj : St) (v : Value) (xs : List Seg), v = lv ∧ mv = .int .i64 j ∧ xs.length + j ≤ 65535 ∧ sj.rest.length ≤ 100000 ∧ Hid (∀ g ∈ xs, NewB (fun b => W.heap.size ≤ b ∧ v.ownBlock ≠ some b) wr g.ba g.bytes) ∧ Hid (wr.ownsRow W.heap.size 39 4 v xs.length (segsC xs)) ∧ Hid (RdAt base R wr sj) ∧ Hid (KP W.heap.size (· = R) W wr) ∧ Hid ((xs.map coreG ++ (listP segP j sj).1, (listP segP j sj).2) = (L, sf))) (fun _ mv _ => (intOf mv).toNat)
  case atStart => exact ⟨n0, s0, _, [], rfl, rfl, by simp; omega, hsh0, Lib.hid (fun g hg => by simp at hg), Lib.hid (World.ownsRow_nil _ _ _ _), HR1, HK1, Lib.hid HL.out⟩
  case round =>
    obtain ⟨j, sj, v, xs, rfl, rfl, hj, hsj, HNB, HO, HR, HK, HE⟩ := hrel
    obtain ⟨ra, rc, hbx, -, -⟩ := HR.out.box
    have c1 : wr.cell? ⟨R, 1, none⟩ = some (.int .i64 sj.wrong) := hbx.cell 1
    have hRw := hbx.lt
    have hsz := HK.out.size
    obtain ⟨wr1, hwr1⟩ : ∃ x, sj.wrong = x := ⟨_, rfl⟩
    rw [hwr1] at c1
    have HWR := Lib.hid hwr1
    clear hbx hwr1
    by_cases hgo : 0 < j ∧ wr1 = 0
    · obtain ⟨hj0, hw0⟩ := hgo
      obtain ⟨i, rfl⟩ : ∃ i, j = i + 1 := ⟨j - 1, by omega⟩
      subst hw0
      have HC := Lib.hid (segment_any base R sj wr HR.out hsj)
      obtain ⟨⟨x1, s1⟩, hx⟩ : ∃ x, segP sj = x := ⟨_, rfl⟩
      have hs1 : s1.rest.length ≤ 100000 := by have h1 := segP_rest sj; rw [hx] at h1; exact Nat.le_trans h1 hsj
      have he := HE.out
      rw [listP_step HWR.out hx] at he
      rw [hx] at HC
      simp only [] at HC he
      have HE2 := Lib.hid he
      have ej0 : (0 : Int) < (i : Int) + 1 := by omega
      have ej2 : IntKind.i64.wrap (i : Int) = (i : Int) := IntWalk.i64_in _ (by omega)
      clear he hx
      go_wp2_with fail
      refine HC.out.mono ?_; rintro e W2 ⟨⟨g1, rfl, hg1, hnb1⟩, hrd, hkp⟩
      have HG1 := Lib.hid hg1
      have HNB1 := Lib.hid hnb1
      have HNB2 := Lib.hid (fun g (hg : g ∈ xs) => (HNB.out g hg).kp hkp (Nat.le_refl _) (fun b hb _ q => by have h1 : b = R := q; have h2 := hb.1; omega))
      have HLT := Lib.hid (fun r (hr : v.ownBlock = some r) => (HO.out.lt r hr).2)
      clear hg1 hnb1
      unfold segC
      have HO2 := Lib.hid (own_kp HO.out hkp hlt)
      have HR2 := Lib.hid hrd
      have HK2 := Lib.hid (step_kp HK.out hkp)
      have hs2 := hkp.size
      clear hrd hkp
      go_wp2_with (at_builtin; refine wpList_appE 25 39 (.agg #[.int .u64 0, .int .u64 0, .int .i64 0, .slice none 0 0]) 4 48 Try.underlying25 infoSeg rfl (by decide) (by decide) _ rfl _ _ rfl W.heap.size v xs.length (segsC xs) rfl (HO2.out.alloc _) (some ⟨W2.heap.size, 0, none⟩) 1 1 [.int .u64 g1.place, .int .u64 g1.size, .int .i64 g1.flags, .slice g1.ba g1.bytes.length g1.bc] rfl (Rd.lit W2 #[.int .u64 g1.place, .int .u64 g1.size, .int .i64 g1.flags, .slice g1.ba g1.bytes.length g1.bc] 39 (by show 4 ≤ maxLen; decide)) (fun u hu => by simp only [List.mem_cons, List.not_mem_nil, or_false] at hu; rcases hu with rfl | rfl | rfl | rfl <;> rfl) (by omega) (by rw [size_alloc]; omega) ?_; intro a3 c3 W3 hown3 hgrow3 hat3)
      have HO3 := Lib.hid (show W3.ownsRow W.heap.size 39 4 (.slice a3 (xs.length + 1) c3) (xs ++ [g1]).length (segsC (xs ++ [g1])) by rw [segsC_snoc, List.length_append]; exact hown3)
      have HR3 := Lib.hid ((HR2.out.below (bAlloc (Below.refl _ _) (.cells #[.int .u64 g1.place, .int .u64 g1.size, .int .i64 g1.flags, .slice g1.ba g1.bytes.length g1.bc] 39))).kp ((KP.refl (R + 1) (fun _ => False) (W2.alloc (.cells #[.int .u64 g1.place, .int .u64 g1.size, .int .i64 g1.flags, .slice g1.ba g1.bytes.length g1.bc] 39))).grown hgrow3 (by rw [size_alloc]; omega) (fun r e => Or.inl (by have := (HO2.out.lt r e).1; omega))) (Nat.lt_succ_self R) (fun _ _ => id))
      have HK3 := Lib.hid ((HK2.out.alloc (.cells #[.int .u64 g1.place, .int .u64 g1.size, .int .i64 g1.flags, .slice g1.ba g1.bytes.length g1.bc] 39) (by omega)).grown hgrow3 (by rw [size_alloc]; omega) (fun r e => Or.inl (HO2.out.lt r e).1))
      have HNB3 : Hid (∀ g ∈ xs ++ [g1], NewB (fun b => W.heap.size ≤ b ∧ (Value.slice a3 (xs.length + 1) c3).ownBlock ≠ some b) W3 g.ba g.bytes) := Lib.hid (fun g hg => by
        have hP : NewB (fun b => (W.heap.size ≤ b ∧ v.ownBlock ≠ some b) ∧ b < W2.heap.size) W2 g.ba g.bytes := by
          rcases List.mem_append.1 hg with hg | hg
          · exact (HNB2.out g hg).mono (fun b h1 h2 => ⟨h2, h1⟩)
          · rw [List.mem_singleton] at hg
            subst hg
            exact HNB1.out.mono (fun b h1 h2 => ⟨⟨by have h3 : wr.heap.size ≤ b := h2; omega, fun e => by have h3 := HLT.out b e; have h4 : wr.heap.size ≤ b := h2; omega⟩, h1⟩)
        have hA := hP.kp (KP.of_below (fun _ => False) (bAlloc (Below.refl W2.heap.size W2) (.cells #[.int .u64 g1.place, .int .u64 g1.size, .int .i64 g1.flags, .slice g1.ba g1.bytes.length g1.bc] 39))) (Nat.le_refl _) (fun _ _ _ => id)
        have hB := hA.kp ((KP.refl (W2.alloc (.cells #[.int .u64 g1.place, .int .u64 g1.size, .int .i64 g1.flags, .slice g1.ba g1.bytes.length g1.bc] 39)).heap.size (fun b => v.ownBlock = some b) _).grown hgrow3 (Nat.le_refl _) (fun r e => Or.inr e)) (Nat.le_refl _) (fun b hb _ q => hb.1.2 q)
        exact hB.mono (fun b _ hb => ⟨hb.1.1, fun e => by
          rcases hat3 with h3 | h3
          · rw [h3] at e; exact hb.1.2 e
          · rw [h3, size_alloc] at e
            have h4 := hb.2
            have h5 : W2.heap.size + 1 = b := by simpa using e
            omega⟩))
      clear hown3 hgrow3 hat3
      go_wp2_with fail
      go_roundw
      case rel => exact ⟨i, s1, _, xs ++ [g1], rfl, rfl, by rw [List.length_append]; simp; omega, hs1, HNB3, HO3, HR3, HK3, Lib.hid (by rw [← HE2.out, ← HG1.out]; simp [coreG])⟩
      case measure => simp [intOf] <;> omega
    · have he := HE.out
      have hend : listP segP j sj = ([], sj) := by
        rcases Nat.eq_zero_or_pos j with h0 | h0
        · subst h0; rfl
        · exact listP_wrong _ _ _ (fun q => hgo ⟨h0, HWR.out.symm.trans q⟩)
      rw [hend, List.append_nil] at he
      simp only [Prod.mk.injEq] at he
      obtain ⟨he1, he2⟩ := he
      have HE1 := Lib.hid he1
      clear he1
      subst he2
      obtain ⟨a', c', rfl, -⟩ := own_slice HO.out
      clear hend
      by_cases hj0 : 0 < j
      · have hw0 : ¬ wr1 = 0 := fun q => hgo ⟨hj0, q⟩
        have ej0 : (0 : Int) < (j : Int) := by omega
        go_wp2_with fail
        go_ret
        exact ⟨⟨xs, HE1.out, fun g hg => (HNB.out g hg).mono (fun b _ q => q.1), _, _, rfl, HO.out⟩, HR.out, HK.out⟩
      · obtain rfl : j = 0 := by omega
        go_wp2_with fail
        go_ret
        exact ⟨⟨xs, HE1.out, fun g hg => (HNB.out g hg).mono (fun b _ q => q.1), _, _, rfl, HO.out⟩, HR.out, HK.out⟩
end Go.Proofs.Ytknldomgmogccaa
