/- A sweep: contract. -/
import Derived.Test.YtinflemamegdfaaMcD
namespace Go.Proofs.Ytinflemamegdfaa
set_option linter.unusedVariables false
set_option linter.unusedSimpArgs false
open Go.Joins Go.ChangeShapes Go.WideShapes Go.ChangeAt Go.RowKit Go.Deep

/-- registers behind a sweep, as far as the k-th -/
def RegsTo (f n ty : Int) (rs rs' : List Cp) (k : Nat) : Prop := rs'.length = rs.length ∧ ∀ j (h : j < rs.length) (h' : j < rs'.length), rs'[j] = if 1 ≤ j ∧ j < k then swp f n ty rs[j] else rs[j]
def swR (f n ty : Int) (rs : List Cp) : List Cp := rs.take 1 ++ (rs.drop 1).map (swp f n ty)
theorem RegsTo.all {f n ty : Int} {rs rs' : List Cp} {k : Nat} (h : RegsTo f n ty rs rs' k) (hk : rs.length ≤ k) : rs' = swR f n ty rs := by
  unfold swR
  refine List.ext_getElem (by rw [List.length_append, List.length_map, List.length_take, List.length_drop, h.1]; omega) fun j h1 h2 => ?_
  have hj : j < rs.length := by rw [← h.1]; exact h1
  rw [h.2 j hj h1]
  by_cases h0 : j < 1
  · rw [if_neg (by omega), List.getElem_append_left (by rw [List.length_take]; omega), List.getElem_take]
  · rw [if_pos (by omega), List.getElem_append_right (by rw [List.length_take]; omega), List.getElem_map, List.getElem_drop]
    congr 1
    congr 1
    rw [List.length_take]; omega
theorem RegsTo.step {f n ty : Int} {rs rs' : List Cp} {k : Nat} (h : RegsTo f n ty rs rs' k) (h1 : 1 ≤ k) (hk : k < rs.length) : RegsTo f n ty rs (rs'.set k (swp f n ty rs[k])) (k + 1) := by
  refine ⟨by rw [List.length_set]; exact h.1, fun j hj hj' => ?_⟩
  rw [List.getElem_set]
  split
  · rename_i e; subst e; rw [if_pos (by omega)]
  · rename_i e
    rw [h.2 j hj (by rw [h.1]; exact hj)]
    by_cases q : 1 ≤ j ∧ j < k
    · rw [if_pos q, if_pos (by omega)]
    · rw [if_neg q, if_neg (by omega)]
theorem RegsTo.at_ {f n ty : Int} {rs rs' : List Cp} {k : Nat} (h : RegsTo f n ty rs rs' k) (hk : k < rs.length) : rs'[k]'(by rw [h.1]; exact hk) = rs[k] := by rw [h.2 k hk, if_neg (by omega)]
/-- how many of the registers below k -/
def cntN (f n ty : Int) (rs : List Cp) : Nat → Int
  | 0 => 0
  | k + 1 => cntN f n ty rs k + (if h : 1 ≤ k ∧ k < rs.length then cnt f n ty (rs[k]'h.2) else 0)
theorem cnt_le (f n ty : Int) (c : Cp) : 0 ≤ cnt f n ty c ∧ cnt f n ty c ≤ 1 := by unfold cnt; split <;> omega
theorem cntN_le (f n ty : Int) (rs : List Cp) : ∀ k, 0 ≤ cntN f n ty rs k ∧ cntN f n ty rs k ≤ k
  | 0 => ⟨Int.le_refl _, Int.le_refl _⟩
  | k + 1 => by
    have := cntN_le f n ty rs k
    unfold cntN
    split
    · rename_i h; have := cnt_le f n ty (rs[k]'h.2); omega
    · omega
theorem cntN_succ {f n ty : Int} {rs : List Cp} {k : Nat} (h1 : 1 ≤ k) (h2 : k < rs.length) : cntN f n ty rs (k + 1) = cntN f n ty rs k + cnt f n ty rs[k] := by
  rw [cntN, dif_pos ⟨h1, h2⟩]
/-- memory behind a sweep of granules; how many -/
def stepP (f n ty : Int) (p : Mm × Int) (x : Nat) : Mm × Int := ((storeC p.1 (x : Int) (swp f n ty (loadC p.1 (x : Int)).1)).1, p.2 + cnt f n ty (loadC p.1 (x : Int)).1)
def swM (f n ty : Int) (m : Mm) (l : List Nat) : Mm × Int := l.foldl (stepP f n ty) (m, 0)
theorem swM_nil (f n ty : Int) (m : Mm) : swM f n ty m [] = (m, 0) := rfl
theorem swM_snoc (f n ty : Int) (m : Mm) (l : List Nat) (k : Nat) (h : k < l.length) : swM f n ty m (l.take (k + 1)) = stepP f n ty (swM f n ty m (l.take k)) l[k] := by
  unfold swM
  rw [List.take_succ_eq_append_getElem h, List.foldl_append]
  rfl
theorem swM_le (f n ty : Int) (m : Mm) (l : List Nat) : ∀ k, k ≤ l.length → 0 ≤ (swM f n ty m (l.take k)).2 ∧ (swM f n ty m (l.take k)).2 ≤ k
  | 0, _ => by rw [List.take_zero, swM_nil]; exact ⟨Int.le_refl _, Int.le_refl _⟩
  | k + 1, h => by
    have := swM_le f n ty m l k (by omega)
    rw [swM_snoc f n ty m l k (by omega)]
    unfold stepP
    have := cnt_le f n ty (loadC (swM f n ty m (l.take k)).1 (l[k] : Int)).1
    simp only []
    omega
theorem fit_clr {c : Cp} (h : FitC c) (f n ty : Int) : FitC (swp f n ty c) := by
  unfold swp
  split
  · exact ⟨h.b0, h.b1, h.t0, h.t1, h.a0, h.a1⟩
  · exact h
theorem capOf_fit {m : Mm} (h : Okm m) (x : Nat) : FitC (capOf m x) := by
  have g : ∀ y, 0 ≤ ((ofB (manyB m y 8) : Nat) : Int) ∧ ((ofB (manyB m y 8) : Nat) : Int) < 18446744073709551616 := fun y => by
    have := ofB_lt (manyB m y 8) (manyB_lt h y 8)
    omega
  exact ⟨(g _).1, (g _).2, (g _).1, (g _).2, (g _).1, (g _).2⟩
theorem kp_undrew {S : Nat → Prop} {w w' : World} (h : KP w.drew.heap.size S w.drew w') : KP w.heap.size S w w' := ⟨h.os, h.tape, h.output, h.size, h.block⟩
theorem noCp_fit : FitC noCp := ⟨by decide, by decide, by decide, by decide, by decide, by decide⟩
theorem loadC_fit {m : Mm} (h : Okm m) (x : Int) : FitC (loadC m x).1 := by
  unfold loadC
  split
  · exact capOf_fit h _
  · exact noCp_fit
/-- a new machine's six cells, the others behind -/
theorem McAt.of_pc {W W' : World} {A M : Nat} {pc pc' : Cp} {rs : List Cp} (h : McAt W A M pc rs) (hb : BoxN W' A ([] ++ (capC pc' ++ (capsV rs ++ [Value.pointer (some ⟨M, 0, none⟩)]))).toArray) : McAt W' A M pc' rs := ⟨hb, h.len⟩
theorem McAt.of_reg {W W' : World} {A M i : Nat} {pc : Cp} {rs : List Cp} {c : Cp} (h : McAt W A M pc rs) (hi : i < rs.length) (hb : BoxN W' A ((capC pc ++ capsV (rs.take i)) ++ (capC c ++ (capsV (rs.drop (i + 1)) ++ [Value.pointer (some ⟨M, 0, none⟩)]))).toArray) : McAt W' A M pc (rs.set i c) :=
  ⟨by rw [mcL_set pc rs M i c hi]; exact hb, by rw [List.length_set]; exact h.len⟩
/-- one that sweeps, and what it captured; a memory; a machine -/
structure SwAt (W W' : World) (N M A T K bT bN bF bL : Nat) (F : Nat → Prop) (m : Mm) (pc : Cp) (rs : List Cp) (k f n ty : Int) : Prop where
  own : Own1 W' N F M m
  mac : McAt W' A M pc rs
  bt : BoxN W' T #[tchV bT bN bF bL]
  bk : BoxN W' K #[.int .i64 k]
  tc : TchAt W' bT bN bF bL f n ty
  na : ¬ F A
  nk : ¬ F K
  ak : A ≠ K
  at_ : A ≠ T
  tk : T ≠ K
  tn : ∀ b, b = bT ∨ b = bN ∨ b = bF ∨ b = bL → b ≠ A ∧ b ≠ K ∧ ¬ F b
  nt : ¬ F T
  kp : KP W.heap.size (fun b => F b ∨ b = A) W W'
  al : A < W.heap.size
  kg : W.heap.size ≤ K
theorem SwAt.below {W W' W'' : World} {N M A T K bT bN bF bL : Nat} {F : Nat → Prop} {m : Mm} {pc : Cp} {rs : List Cp} {k f n ty : Int} (h : SwAt W W' N M A T K bT bN bF bL F m pc rs k f n ty) (hb : Below W'.heap.size W' W'') : SwAt W W'' N M A T K bT bN bF bL F m pc rs k f n ty :=
  ⟨h.own.below hb, h.mac.below hb, boxN_below h.bt hb, boxN_below h.bk hb, h.tc.below hb, h.na, h.nk, h.ak, h.at_, h.tk, h.tn, h.nt, h.kp.below hb h.kp.size, h.al, h.kg⟩
theorem SwAt.step {W W' W'' : World} {N M A T K bT bN bF bL : Nat} {F : Nat → Prop} {m : Mm} {pc pc2 : Cp} {rs rs2 : List Cp} {k k2 f n ty : Int} (h : SwAt W W' N M A T K bT bN bF bL F m pc rs k f n ty) (hm : McAt W'' A M pc2 rs2) (hk : BoxN W'' K #[.int .i64 k2]) (kp2 : KP W'.heap.size (fun b => b = A ∨ b = K) W' W'') : SwAt W W'' N M A T K bT bN bF bL F m pc2 rs2 k2 f n ty :=
  ⟨(h.own.beside (G := fun b => b = A ∨ b = K) (G' := fun b => b = A ∨ b = K) ⟨fun b hb => Or.inl hb, kp2⟩ (fun b hb hg => by rcases hg with rfl | rfl; exact h.na hb; exact h.nk hb)).1, hm,
    h.bt.kp kp2 h.bt.lt (fun e => by rcases e with e | e; exact h.at_ e.symm; exact h.tk e), hk, h.tc.kp kp2 (fun b hb hg => by rcases hg with e | e; exact (h.tn b hb).1 e; exact (h.tn b hb).2.1 e),
    h.na, h.nk, h.ak, h.at_, h.tk, h.tn, h.nt, h.kp.trans (kp2.mono h.kp.size (fun b hb hS => by rcases hS with e | e; exact Or.inr e; exact absurd hb (by rw [e]; exact Nat.not_lt.2 h.kg))), h.al, h.kg⟩
set_option maxRecDepth 100000 in
set_option maxHeartbeats 4000000 in
theorem psweep_any (W : World) (N M A : Nat) (F : Nat → Prop) (m : Mm) (pc : Cp) (rs : List Cp) (f n ty : Int) (hO : Own1 W N F M m) (hm : McAt W A M pc rs) (hA : ¬ F A) :
    Calls Try.prog 14 #[.pointer (some ⟨A, 0, none⟩), .int .u64 f, .int .u64 n, .int .i64 ty] W fun e W' => e = .returned (.int .i64 (cnt f n ty pc + cntN f n ty rs 32 + (swM f n ty m (gran f n ty m)).2)) ∧
      ∃ F', Own1 W' N F' M (swM f n ty m (gran f n ty m)).1 ∧ (∀ b, F' b → F b ∨ W.heap.size ≤ b) ∧ ¬ F' A ∧ McAt W' A M (swp f n ty pc) (swR f n ty rs) ∧ KP W.heap.size (fun b => F b ∨ b = A) W W' := by
  have HO := Lib.hid hO
  have HM := Lib.hid hm
  have HNA := Lib.hid hA
  have HAL := Lib.hid hm.lt
  have HFL := Lib.hid hO.lt
  have HLN := Lib.hid hm.len
  have HSZ := Lib.hid hO.sz
  have CT := Lib.hid (touching_at f n ty W)
  obtain ⟨H, hH⟩ : ∃ H, W.heap.size = H := ⟨_, rfl⟩
  have HH := Lib.hid hH
  have CT := Lib.hid (CT.out H hH)
  clear hO hm hA hH
  go_enter Try.func14, Try.ntmps14
  go_wp2_with fail
  refine CT.out.mono ?_; rintro e W1 ⟨rfl, t1, t2, t3, t4, hb⟩
  have B1 := Lib.hid hb
  have TC1 : Hid (TchAt W1 (H + 2) (H + 1) H (H + 3) f n ty) := Lib.hid ⟨t1, t2, t3, t4⟩
  clear hb t1 t2 t3 t4 CT
  go_upto_region 6 with fail
  obtain ⟨W2, hW2⟩ : ∃ W2, (W1.alloc (.cells #[.func (.func 49) #[] #[.pointer (some ⟨H + 2, 0, none⟩), .pointer (some ⟨H + 1, 0, none⟩), .pointer (some ⟨H, 0, none⟩), .pointer (some ⟨H + 3, 0, none⟩)]] 26)).alloc (.cells #[.int .i64 0] 3) = W2 := ⟨_, rfl⟩
  (try rw [hW2])
  obtain ⟨T, hT⟩ : ∃ T, W1.heap.size = T := ⟨_, rfl⟩
  have hb2 : Below W1.heap.size W1 W2 := by rw [← hW2]; exact bAlloc (bAlloc (Below.refl _ _) _) _
  have xT : BoxN W2 T #[tchV (H + 2) (H + 1) H (H + 3)] := by
    rw [← hW2, ← hT]
    exact boxN_below (BoxN.new W1 #[tchV (H + 2) (H + 1) H (H + 3)] 26) (bAlloc (Below.refl _ _) _)
  have xK : BoxN W2 (T + 1) #[.int .i64 0] := by
    rw [← hW2, ← hT, ← size_alloc W1 (.cells #[.func (.func 49) #[] #[.pointer (some ⟨H + 2, 0, none⟩), .pointer (some ⟨H + 1, 0, none⟩), .pointer (some ⟨H, 0, none⟩), .pointer (some ⟨H + 3, 0, none⟩)]] 26)]
    exact BoxN.new _ _ _
  (try rw [hT])
  obtain ⟨K, hK⟩ : ∃ K, T + 1 = K := ⟨_, rfl⟩
  rw [hK] at xK ⊢
  have hB2 : Below W.heap.size W W2 := B1.out.trans (hb2.mono B1.out.size)
  have S2 : Hid (SwAt W W2 N M A T K (H + 2) (H + 1) H (H + 3) F m pc rs 0 f n ty) := Lib.hid (by
    have z1 := B1.out.size
    have z2 := heap_lt_of_cell TC1.out.xt
    have z3 := heap_lt_of_cell TC1.out.xn
    have z4 := heap_lt_of_cell TC1.out.xf
    have z5 := heap_lt_of_cell TC1.out.xl
    have z6 := HH.out
    have z7 := HAL.out
    simp only [] at z2 z3 z4 z5
    have hf : ∀ b, H ≤ b → ¬ F b := fun b hb hF => by have := HFL.out b hF; omega
    refine ⟨HO.out.below hB2, HM.out.below hB2, xT, xK, TC1.out.below hb2, HNA.out, hf K (by omega), by omega, by omega, by omega, fun b hb => ⟨by omega, by omega, hf b (by omega)⟩, hf T (by omega), KP.of_below _ hB2, HAL.out, by omega⟩)
  clear hW2 hT hb2 xT xK hK hB2 B1 TC1 HO HM HNA
  go_wp2_with fail
  refine (sweep1_any W2 A 0 T K (H + 2) (H + 1) H (H + 3) [] (capsV rs ++ [Value.pointer (some ⟨M, 0, none⟩)]) pc 0 f n ty S2.out.mac.box rfl S2.out.bt S2.out.bk S2.out.tc S2.out.ak (by decide) (by decide)).mono ?_
  rintro e W3 ⟨rfl, hp, hk, hkp⟩
  have S3 : Hid (SwAt W W3 N M A T K (H + 2) (H + 1) H (H + 3) F m (swp f n ty pc) rs (cnt f n ty pc + cntN f n ty rs 1) f n ty) := Lib.hid (by
    have h1 := S2.out.step (S2.out.mac.of_pc hp) hk hkp
    have e1 : cntN f n ty rs 1 = 0 := rfl
    rw [e1, Int.add_zero]
    rwa [Int.zero_add] at h1)
  have HC := Lib.hid (cnt_le f n ty pc)
  clear hp hk hkp S2
  go_wp2_with fail
  go_loopw [12] (fun i wr => ∃ (k : Nat) (rs' : List Cp), i = .int .i64 (k : Int) ∧ 1 ≤ k ∧ k ≤ 32 ∧ Hid (RegsTo f n ty rs rs' k) ∧ Hid (SwAt W wr N M A T K (H + 2) (H + 1) H (H + 3) F m (swp f n ty pc) rs' (cnt f n ty pc + cntN f n ty rs k) f n ty)) (fun i _ => 32 - (intOf i).toNat)
  case atStart => exact ⟨1, rs, rfl, by omega, by omega, Lib.hid ⟨rfl, fun j h h' => by rw [if_neg (by omega)]⟩, S3⟩
  case round =>
    obtain ⟨k, rs', rfl, hk1, hk, HR, HS⟩ := hrel
    clear S3
    by_cases hlt : k < 32
    · have hd1 : decide ((k : Int) < 32) = true := decide_eq_true (by omega)
      have kk0 : (0 : Int) ≤ (k : Int) := by omega
      have kk1 : (k : Int) < 32 := by omega
      have hkr : k < rs.length := by rw [HLN.out]; exact hlt
      have hkr' : k < rs'.length := by rw [HR.out.1]; exact hkr
      have hat := HR.out.at_ hkr
      have hbx := HS.out.mac.box
      rw [mcL_split _ rs' M k hkr', hat] at hbx
      have hpre := mc_pre (swp f n ty pc) rs' k hkr'
      have HCN := Lib.hid (cntN_le f n ty rs k)
      have C := Lib.hid (sweep1_any wr A (6 + k * 6) T K (H + 2) (H + 1) H (H + 3) _ _ rs[k] (cnt f n ty pc + cntN f n ty rs k) f n ty hbx hpre HS.out.bt HS.out.bk HS.out.tc HS.out.ak (by have := HC.out; have := HCN.out; omega) (by have := HC.out; have := HCN.out; omega))
      have HKR := Lib.hid (And.intro hkr (And.intro hkr' hk1))
      have HLT := Lib.hid hlt
      clear hbx hpre hat hk hlt
      go_wp2_with fail
      refine C.out.mono ?_; rintro e w2 ⟨rfl, hp, hkb, hkp⟩
      have N1 := Lib.hid (HR.out.step HKR.out.2.2 HKR.out.1)
      have N2 : Hid (SwAt W w2 N M A T K (H + 2) (H + 1) H (H + 3) F m (swp f n ty pc) (rs'.set k (swp f n ty (rs[k]'HKR.out.1))) (cnt f n ty pc + cntN f n ty rs (k + 1)) f n ty) := Lib.hid (by
        have h1 := HS.out.step (HS.out.mac.of_reg HKR.out.2.1 hp) hkb hkp
        rw [cntN_succ HKR.out.2.2 HKR.out.1, ← Int.add_assoc]
        exact h1)
      clear hp hkb hkp C HS HR
      go_wp2_with fail
      have hlt := HLT.out
      go_roundw
      case rel => exact ⟨k + 1, _, by go_num, by omega, by omega, N1, N2⟩
      case measure => simp [intOf]; omega
    · obtain rfl : k = 32 := by omega
      have hrs := HR.out.all (by rw [HLN.out]; omega)
      subst hrs
      have hd1 : decide ((32 : Int) < 32) = false := by decide
      have t0 : wr.cell? ⟨T, 0, none⟩ = some (tchV (H + 2) (H + 1) H (H + 3)) := HS.out.bt.cell 0
      have C := Lib.hid (gran_any wr N M A (H + 2) (H + 1) H (H + 3) F m (swp f n ty pc) (swR f n ty rs) f n ty HS.out.own HS.out.mac HS.out.tc)
      unfold tchV at t0 C
      have HGL : Hid ((gran f n ty m).length ≤ 2048) := Lib.hid (by
        unfold gran
        refine Nat.le_trans (List.length_filter_le _ _) ?_
        rw [List.length_map]
        exact mks_len HS.out.own.ok)
      obtain ⟨l, hl⟩ : ∃ l, gran f n ty m = l := ⟨_, rfl⟩
      rw [hl] at C HGL
      have HLE := Lib.hid hl
      have HMK : Hid (∀ x ∈ l, x < 16777216) := Lib.hid (fun x hx => by
        rw [← hl] at hx
        exact (mark_load HS.out.own.ok (List.mem_filter.1 hx).1).1)
      obtain ⟨d, hd⟩ : ∃ d, l.length = d := ⟨_, rfl⟩
      rw [hd] at C HGL
      have HD := Lib.hid hd
      clear hlt hk hk1 HR hl hd
      go_wp2_with fail
      refine C.out.mono ?_; rintro e W9 ⟨ga, gc, rfl, hor, hb⟩
      have S9 := Lib.hid (HS.out.below hb)
      have HRW := Lib.hid (row_later hor (Below.refl _ _))
      have HRB : Hid (∀ g off, 0 < d → ga = some ⟨g, off, none⟩ → wr.heap.size ≤ g ∧ g < W9.heap.size) := Lib.hid (fun g off h0 e => by
        rcases hor.2 with ⟨e1, h1⟩ | ⟨g', cap', cur', e1, hg', hbk, -⟩
        · omega
        · cases e1; cases e; exact ⟨hg', (Array.getElem?_eq_some_iff.1 hbk).1⟩)
      have HZR : Hid (W.heap.size ≤ wr.heap.size ∧ K < wr.heap.size) := Lib.hid ⟨HS.out.kp.size, HS.out.bk.lt⟩
      clear hor hb C HS t0
      obtain ⟨V, hV⟩ : ∃ V, W9.heap.size = V := ⟨_, rfl⟩
      have HV := Lib.hid hV
      obtain ⟨c0, hc0⟩ : ∃ c0, cnt f n ty pc + cntN f n ty rs 32 = c0 := ⟨_, rfl⟩
      rw [hc0] at S9
      have HC0 := Lib.hid hc0
      have HCB : Hid (0 ≤ c0 ∧ c0 ≤ 40) := Lib.hid (by
        have h1 := HC.out
        have h2 := cntN_le f n ty rs 32
        omega)
      have HKV : Hid (K < V ∧ A < V ∧ T < V ∧ W.heap.size ≤ V) := Lib.hid (by
        rw [← hV]
        exact ⟨S9.out.bk.lt, S9.out.mac.lt, S9.out.bt.lt, S9.out.kp.size⟩)
      clear hV hc0 HC
      go_wp2_with fail
      go_loopw [14, 15, 16, 44] (fun x0 x1 x2 i wx => ∃ (k : Nat) (G : Nat → Prop), i = .int .i64 (k : Int) ∧ k ≤ d ∧ Hid (Own1 wx N G M (swM f n ty m (l.take k)).1) ∧ Hid (∀ b, G b → F b ∨ V ≤ b) ∧ Hid (BoxN wx K #[.int .i64 (c0 + (swM f n ty m (l.take k)).2)]) ∧ Hid (KP V (fun b => F b ∨ b = K) W9 wx)) (fun _ _ _ i _ => d - (intOf i).toNat)
      case atStart => exact ⟨0, F, rfl, Nat.zero_le _, Lib.hid (by rw [List.take_zero, swM_nil]; exact S9.out.own), Lib.hid (fun b hb => Or.inl hb), Lib.hid (by rw [List.take_zero, swM_nil, Int.add_zero]; exact S9.out.bk), Lib.hid (KP.refl _ _ _)⟩
      case round =>
        obtain ⟨k, G, rfl, hk, HOW, HG, HK, HKP⟩ := hrel
        have hGA : ¬ G A := fun h => by
          rcases HG.out A h with h1 | h1
          · exact S9.out.na h1
          · have := HKV.out.2.1; omega
        have hGK : ¬ G K := fun h => by
          rcases HG.out K h with h1 | h1
          · exact S9.out.nk h1
          · have := HKV.out.1; omega
        have hma := S9.out.mac.kp HKP.out HKV.out.2.1 (fun e => by rcases e with e | e; exact S9.out.na e; exact S9.out.ak e)
        have HGAK := Lib.hid (And.intro hGA hGK)
        have HMA := Lib.hid hma
        have hcb := HCB.out
        by_cases hlt : k < d
        · have hkl : k < l.length := by rw [HD.out]; exact hlt
          have mem := hma.mem
          have hrow := HKP.out.rd HRW.out (fun b off h0 e => by
            obtain ⟨q1, q2⟩ := HRB.out b off h0 e
            refine ⟨by rw [← HV.out]; exact q2, fun hS => ?_⟩
            rcases hS with e2 | e2
            · have := HFL.out b e2; have := HZR.out.1; omega
            · have := HZR.out.2; omega)
          obtain ⟨g, off, hge, -, hc⟩ := hrow.at_ hlt
          rw [u64s_get l k hkl] at hc
          have hsn := swM_snoc f n ty m l k hkl
          have hle := swM_le f n ty m l k (by omega)
          have hx := HMK.out l[k] (List.getElem_mem hkl)
          obtain ⟨x, hxe⟩ : ∃ x, l[k] = x := ⟨_, rfl⟩
          rw [hxe] at hc hsn hx
          obtain ⟨⟨mk, ck⟩, hmk⟩ : ∃ p, swM f n ty m (l.take k) = p := ⟨_, rfl⟩
          rw [hmk] at hsn hle HOW HK
          unfold stepP at hsn
          simp only [] at hsn hle HOW HK
          have hfit := loadC_fit HOW.out.ok (x : Int)
          have C := Lib.hid (sloadC_any wr N M G mk HOW.out x (by omega))
          obtain ⟨⟨c, e0⟩, hce⟩ : ∃ p, loadC mk (x : Int) = p := ⟨_, rfl⟩
          rw [hce] at C hsn hfit
          simp only [] at C hsn hfit
          have hfit2 := fit_clr hfit f n ty
          obtain ⟨c2, hc2⟩ : ∃ c2, swp f n ty c = c2 := ⟨_, rfl⟩
          rw [hc2] at hsn hfit2
          have HSN := Lib.hid hsn
          have HCK : Hid (0 ≤ c0 + ck ∧ c0 + ck < 1000000) := Lib.hid (by have := HGL.out; omega)
          have HLT := Lib.hid (And.intro hlt HGL.out)
          have HXX := Lib.hid (show x < 18446744073709551616 by omega)
          have HSW := Lib.hid (fun (w : World) (P : Nat) hb ht hk htc hne => sweep1_any w P 0 T K (H + 2) (H + 1) H (H + 3) [] [] c (c0 + ck) f n ty hb rfl ht hk htc hne HCK.out.1 HCK.out.2)
          rw [hc2] at HSW
          have HST := Lib.hid (fun (w : World) (G : Nat → Prop) (h : Own1 w N G M mk) => sstoreC_any w N M G mk h x c2 HXX.out hfit2)
          obtain ⟨sm, hsm⟩ : ∃ sm, storeC mk (x : Int) c2 = sm := ⟨_, rfl⟩
          rw [hsm] at HST HSN
          obtain ⟨cb, ct, ca, cp, cy, cg⟩ := c
          obtain ⟨cb2, ct2, ca2, cp2, cy2, cg2⟩ := c2
          rw [show (capC ⟨cb, ct, ca, cp, cy, cg⟩).toArray = #[.int .u64 cb, .int .u64 ct, .int .u64 ca, .int .i64 cp, .int .i64 cy, .bool cg] from rfl] at C
          rw [show (capC ⟨cb2, ct2, ca2, cp2, cy2, cg2⟩).toArray = #[.int .u64 cb2, .int .u64 ct2, .int .u64 ca2, .int .i64 cp2, .int .i64 cy2, .bool cg2] from rfl] at HST
          have kk0 : (0 : Int) ≤ (k : Int) := by omega
          have kk1 : (k : Int) < (d : Int) := by omega
          have hd2 : decide ((k : Int) < (d : Int)) = true := decide_eq_true kk1
          subst hge
          clear hsn hle hx hxe hmk hfit hce hfit2 hc2 hsm hkl hlt hrow hma hGA hGK hk hcb
          go_wp2_with fail
          refine C.out.mono ?_; rintro e w2 ⟨rfl, hb⟩
          have hvw : V ≤ wr.heap.size := by rw [← HV.out]; exact HKP.out.size
          have KP2 := Lib.hid (HKP.out.below hb hvw)
          have MA2 := Lib.hid (HMA.out.below hb)
          have OW2 := Lib.hid (HOW.out.below hb)
          have BK2 := Lib.hid (boxN_below HK.out hb)
          have hv2 : V ≤ w2.heap.size := Nat.le_trans hvw hb.size
          clear hb C HKP HMA HOW HK mem hc hvw
          go_upto_region 15 with fail
          obtain ⟨W7, hW7⟩ : ∃ W7, w2.alloc (.cells #[.int .u64 cb, .int .u64 ct, .int .u64 ca, .int .i64 cp, .int .i64 cy, .bool cg] 24) = W7 := ⟨_, rfl⟩
          (try rw [hW7])
          obtain ⟨R, hR⟩ : ∃ R, w2.heap.size = R := ⟨_, rfl⟩
          (try rw [hR])
          have hb7 : Below w2.heap.size w2 W7 := by rw [← hW7]; exact bAlloc (Below.refl _ _) _
          have hc7 : BoxN W7 R ([] ++ (capC ⟨cb, ct, ca, cp, cy, cg⟩ ++ [])).toArray := by rw [← hW7, ← hR]; exact BoxN.new _ _ _
          have KP7 := Lib.hid (KP2.out.below hb7 hv2)
          have MA7 := Lib.hid (MA2.out.below hb7)
          have OW7 := Lib.hid (OW2.out.below hb7)
          have BK7 := Lib.hid (boxN_below BK2.out hb7)
          have RB7 := Lib.hid hc7
          have HRV : Hid (V ≤ R ∧ ¬ G R ∧ w2.heap.size = R) := Lib.hid ⟨by omega, fun h => by have := OW2.out.lt R h; omega, hR⟩
          have BT7 := Lib.hid (S9.out.bt.kp KP7.out HKV.out.2.2.1 (fun e => by rcases e with e | e; exact S9.out.nt e; exact S9.out.tk e))
          have TC7 := Lib.hid (S9.out.tc.kp (show KP W9.heap.size _ W9 W7 by rw [HV.out]; exact KP7.out) (fun b hb hg => by rcases hg with e | e; exact (S9.out.tn b hb).2.2 e; exact (S9.out.tn b hb).2.1 e))
          clear hW7 hR hb7 hc7 hv2 KP2 MA2 OW2 BK2
          go_wp2_with fail
          refine (HSW.out W7 R RB7.out BT7.out BK7.out TC7.out (fun e => by have := HRV.out.1; have := HKV.out.1; omega)).mono ?_
          rintro e W8 ⟨rfl, hp, hkb, hkp⟩
          have hz7 : V ≤ W7.heap.size := by rw [← HV.out]; exact KP7.out.size
          have KP8 := Lib.hid (KP7.out.trans (hkp.mono hz7 (T := fun b => F b ∨ b = K) (fun b hb hS => by rcases hS with e | e; have := HRV.out.1; omega; exact Or.inr e)))
          have MA8 := Lib.hid (MA7.out.kp hkp MA7.out.lt (fun e => by rcases e with e | e; have := HRV.out.1; have := HKV.out.2.1; omega; exact S9.out.ak e))
          have OW8 := Lib.hid (OW7.out.beside (G := fun b => b = R ∨ b = K) (G' := fun b => b = R ∨ b = K) ⟨fun b hb => Or.inl hb, hkp⟩ (fun b hb hg => by rcases hg with e | e; exact HRV.out.2.1 (e ▸ hb); exact HGAK.out.2 (e ▸ hb))).1
          have BK8 := Lib.hid hkb
          have RB8 := Lib.hid hp
          have hm8 := MA8.out.mem
          have hr8 := range6 (range_mid (pre := []) hp)
          simp only [List.length_nil, Nat.zero_add] at hr8
          have HS0 := Lib.hid (And.intro hm8 hr8)
          have HSd : Hid (W8.drew.cell? ⟨A, 198, none⟩ = some (.pointer (some ⟨M, 0, none⟩)) ∧ W8.drew.cell? ⟨R, 0, none⟩ = some (.int .u64 cb2) ∧ W8.drew.cell? ⟨R, 1, none⟩ = some (.int .u64 ct2) ∧ W8.drew.cell? ⟨R, 2, none⟩ = some (.int .u64 ca2) ∧ W8.drew.cell? ⟨R, 3, none⟩ = some (.int .i64 cp2) ∧ W8.drew.cell? ⟨R, 4, none⟩ = some (.int .i64 cy2) ∧ W8.drew.cell? ⟨R, 5, none⟩ = some (.bool cg2)) := Lib.hid HS0.out
          have HRL := Lib.hid hp.lt
          clear hp hkb hkp hz7 hm8 hr8 KP7 MA7 OW7 BK7 RB7 BT7 TC7 HSW
          go_upto_region 16 with fail
          go_region_held3 (fun W => W.cell? ⟨A, 198, none⟩ = some (.pointer (some ⟨M, 0, none⟩)) ∧ W.cell? ⟨R, 0, none⟩ = some (.int .u64 cb2) ∧ W.cell? ⟨R, 1, none⟩ = some (.int .u64 ct2) ∧ W.cell? ⟨R, 2, none⟩ = some (.int .u64 ca2) ∧ W.cell? ⟨R, 3, none⟩ = some (.int .i64 cp2) ∧ W.cell? ⟨R, 4, none⟩ = some (.int .i64 cy2) ∧ W.cell? ⟨R, 5, none⟩ = some (.bool cg2))
            (first | with_reducible exact HSd.out | with_reducible exact HSn.out | go_keep)
            (first
              | (go_at_call 33; (with_reducible refine (HST.out W8.drew G (OW8.out.below (Below.drew (Below.refl _ _)))).mono ?_); rintro e Wn ⟨rfl, G2, hown, hmv⟩; have hkn := kp_undrew hmv.kp; have OWn := Lib.hid hown; have SBn := Lib.hid hmv.sub; have KPn := Lib.hid hkn; have q := HS0.out; have HSn := Lib.hid (And.intro (hkn.cell MA8.out.lt HGAK.out.1 q.1) (And.intro (hkn.cell HRL.out HRV.out.2.1 q.2.1) (And.intro (hkn.cell HRL.out HRV.out.2.1 q.2.2.1) (And.intro (hkn.cell HRL.out HRV.out.2.1 q.2.2.2.1) (And.intro (hkn.cell HRL.out HRV.out.2.1 q.2.2.2.2.1) (And.intro (hkn.cell HRL.out HRV.out.2.1 q.2.2.2.2.2.1) (hkn.cell HRL.out HRV.out.2.1 q.2.2.2.2.2.2))))))); clear hown hmv hkn q))
          have hz8 : V ≤ W8.heap.size := by rw [← HV.out]; exact KP8.out.size
          have N1 : Hid (Own1 Wn N G2 M (swM f n ty m (l.take (k + 1))).1) := Lib.hid (by rw [HSN.out]; exact OWn.out)
          have N2 : Hid (∀ b, G2 b → F b ∨ V ≤ b) := Lib.hid (fun b hb => by
            rcases SBn.out b hb with h1 | h1
            · exact HG.out b h1
            · have h1 : W8.heap.size ≤ b := h1
              exact Or.inr (by omega))
          have N3 : Hid (BoxN Wn K #[.int .i64 (c0 + (swM f n ty m (l.take (k + 1))).2)]) := Lib.hid (by
            rw [HSN.out]
            simp only []
            rw [← Int.add_assoc]
            exact BK8.out.kp KPn.out BK8.out.lt HGAK.out.2)
          have N4 : Hid (KP V (fun b => F b ∨ b = K) W9 Wn) := Lib.hid (KP8.out.trans (KPn.out.mono hz8 (T := fun b => F b ∨ b = K) (fun b hb hS => by
            rcases HG.out b hS with h1 | h1
            · exact Or.inl h1
            · omega)))
          clear hz8 HSd HS0 HSn HRL OWn SBn KPn KP8 MA8 OW8 BK8 RB8 HST HSN HG HRV
          obtain ⟨hk1, hk2⟩ := HLT.out
          go_wp2_with fail
          go_roundw
          case rel => exact ⟨k + 1, G2, by go_num, by omega, N1, N2, N3, N4⟩
          case measure => simp [intOf]; omega
        · obtain rfl : k = d := by omega
          have ht : l.take k = l := List.take_of_length_le (by rw [HD.out]; exact Nat.le_refl _)
          rw [ht] at HOW HK
          have hd1 : decide ((k : Int) < (k : Int)) = false := by simp
          have hd2 : decide (k < k) = false := by simp
          have m0 : wr.cell? ⟨K, 0, none⟩ = some (.int .i64 (c0 + (swM f n ty m l).2)) := HK.out.cell 0
          have hfin : KP W.heap.size (fun b => F b ∨ b = A) W wr := S9.out.kp.trans (HKP.out.mono HKV.out.2.2.2 (fun b hb hS => by
            rcases hS with e | e
            · exact Or.inl e
            · have := S9.out.kg; omega))
          have hfr : ∀ b, G b → F b ∨ W.heap.size ≤ b := fun b hb => by
            rcases HG.out b hb with h1 | h1
            · exact Or.inl h1
            · have := HKV.out.2.2.2; exact Or.inr (by omega)
          have HFIN := Lib.hid (And.intro hfin hfr)
          have HRES := Lib.hid (show cnt f n ty pc + cntN f n ty rs 32 + (swM f n ty m (gran f n ty m)).2 = c0 + (swM f n ty m l).2 by rw [HLE.out, HC0.out])
          have HMEM := Lib.hid (show (swM f n ty m (gran f n ty m)).1 = (swM f n ty m l).1 by rw [HLE.out])
          clear ht hfin hfr hma hGA hGK hlt hk hcb HKP HK HG
          go_wp2_with fail
          go_ret
          refine ⟨by rw [HRES.out]; rfl, G, by rw [HMEM.out]; exact HOW.out, HFIN.out.2, HGAK.out.1, HMA.out, HFIN.out.1⟩
end Go.Proofs.Ytinflemamegdfaa
