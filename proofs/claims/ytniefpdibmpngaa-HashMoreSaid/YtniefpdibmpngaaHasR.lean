/- The laws' walks: HashMore. -/
import Derived.Test.YtniefpdibmpngaaHasQ
import Derived.Outline
import Derived.Laws.AppendOwnNone
import Derived.Deep.Cut
import Derived.Deep.DeepCutAuto
namespace Go.Proofs.Ytniefpdibmpngaa
set_option linter.unusedVariables false
set_option linter.unusedSimpArgs false
open Go.Joins Go.ChangeShapes Go.WideShapes Go.ChangeAt Go.RowKit

/-- what stands behind others changes what was not found -/
theorem findZ_more (l r : List Sym) (name ver : List UInt8) :
    (findZ l name ver 0 < 0 ∧ (findZ (l ++ r) name ver 0 < 0 ∨ (l.length : Int) ≤ findZ (l ++ r) name ver 0)) ∨ (0 ≤ findZ l name ver 0 ∧ findZ (l ++ r) name ver 0 = findZ l name ver 0) := by
  unfold findZ
  simp only [List.drop_zero]
  rw [List.findIdx?_append]
  cases h : l.findIdx? (hitS name ver) with
  | some k => right; simp
  | none =>
    left
    refine ⟨by decide, ?_⟩
    cases h2 : r.findIdx? (hitS name ver) with
    | none => left; simp
    | some k => right; simp; omega
/-- the cells of symbols, one behind the other -/
def symsC (l : List Sym) : List Value := l.flatMap symC
theorem symsC_len (l : List Sym) : (symsC l).length = l.length * 8 := by
  induction l with
  | nil => rfl
  | cons s l ih => simp only [symsC, List.flatMap_cons, List.length_append, List.length_cons] at ih ⊢; rw [ih]; simp [symC]; omega
theorem symsC_get (l : List Sym) (k : Nat) (hk : k < l.length) (j : Nat) (hj : j < 8) : (symsC l)[k * 8 + j]? = (symC l[k])[j]? := by
  induction l generalizing k with
  | nil => simp at hk
  | cons s l ih =>
    have e : (symC s).length = 8 := rfl
    simp only [symsC, List.flatMap_cons]
    rcases Nat.eq_zero_or_pos k with rfl | hp
    · rw [List.getElem?_append_left (by omega)]; simp
    · obtain ⟨k, rfl⟩ : ∃ q, k = q + 1 := ⟨k - 1, by omega⟩
      rw [List.getElem?_append_right (by omega), e, show (k + 1) * 8 + j - 8 = k * 8 + j by omega]
      simp only [List.getElem_cons_succ]
      exact ih k (by simpa using hk)
theorem symC_one (s : Sym) : ∀ u ∈ symC s, u.oneCell' = true := by
  intro u hu
  simp only [symC, List.mem_cons, List.not_mem_nil, or_false] at hu
  rcases hu with rfl | rfl | rfl | rfl | rfl | rfl | rfl | rfl <;> rfl
theorem symsC_one (l : List Sym) : ∀ u ∈ symsC l, u.oneCell' = true := by
  intro u hu
  simp only [symsC, List.mem_flatMap] at hu
  obtain ⟨s, _, hs⟩ := hu
  exact symC_one s u hs
theorem symsC_append (l r : List Sym) : symsC (l ++ r) = symsC l ++ symsC r := by simp [symsC]
theorem RdS.news {w : World} {ad : Addr} {l : List Sym} (h : RdS w (some ad) l) : ∀ j u, (symsC l)[j]? = some u → w.cell? (ad.add j) = some u := by
  intro j u hu
  have hj : j < l.length * 8 := by
    rcases Nat.lt_or_ge j (symsC l).length with h1 | h1
    · rwa [symsC_len] at h1
    · rw [List.getElem?_eq_none h1] at hu; cases hu
  obtain ⟨b, o, e, hl, hc⟩ := h (by omega)
  obtain rfl : ad = ⟨b, o, none⟩ := Option.some.inj e
  have hk : j / 8 < l.length := by omega
  have hd : j / 8 * 8 + j % 8 = j := by omega
  have hm : j % 8 < 8 := Nat.mod_lt _ (by decide)
  have e1 := (hc (j / 8) hk (j % 8)).resolve_right (by omega)
  have e2 := symsC_get l (j / 8) hk (j % 8) hm
  rw [hd, hu] at e2
  rw [← e2] at e1
  rw [add_plain, show o + j = o + j / 8 * 8 + j % 8 by omega]
  exact e1
theorem RdS.of_own {w : World} {base n c : Nat} {e : TypeId} {a : Option Addr} {l : List Sym} (h : w.ownsRow base e 8 (.slice a n c) n (symsC l)) : RdS w a l := fun h0 => by
  have hn : n = l.length := by have := h.1; rw [symsC_len] at this; omega
  rcases h.2 with ⟨_, h1⟩ | ⟨g, cap, cur, hv, _, hg, _⟩
  · omega
  · simp only [Value.slice.injEq] at hv
    obtain ⟨rfl, _, rfl⟩ := hv
    have hc := fun j hj => h.cellAt j hj
    refine ⟨g, 0, rfl, ?_, fun k hk j => ?_⟩
    · rcases Nat.lt_or_ge g w.heap.size with h2 | h2
      · exact h2
      · rw [Array.getElem?_eq_none h2] at hg; cases hg
    · rcases Nat.lt_or_ge j 8 with hj | hj
      · left
        rw [Nat.zero_add, hc (k * 8 + j) (by omega), symsC_get l k hk j hj]
      · exact Or.inr hj
theorem infoSym : (Try.prog.info? 24).map (fun i => (i.zero, i.size, i.bytes)) = some (some (.agg #[.string ⟨#[]⟩, .string ⟨#[]⟩, .int .u64 0, .int .u64 0, .int .i64 0, .int .i64 0, .int .i64 0, .bool false]), 8, 80) := by kernel_rfl
set_option maxRecDepth 100000 in
set_option maxHeartbeats 2000000 in
theorem HashMore_walk (a b : Option Addr) (l r : List Sym) (c d : Nat) (n : Int) (name ver : List UInt8) (w : World) (hl : RdS w a l) (hr : RdS w b r) (hnm : ∀ s ∈ l, s.name.length < 9223372036854775808) (hnr : ∀ s ∈ r, s.name.length < 9223372036854775808) (hm : l.length ≤ 9223372036854775807) (hk : r.length ≤ 9223372036854775807) (hname : name.length < 9223372036854775808)
    (ha : a = none → l.length = 0 ∧ c = 0) (hb : b = none → r.length = 0 ∧ d = 0) :
    Calls Try.prog 8 #[.slice a l.length c, .slice b r.length d, .int .i64 n, .string ⟨name.toArray⟩, .string ⟨ver.toArray⟩] w fun e w' => e = .returned (.bool true) ∧ Below w.heap.size w w' := by
  by_cases hbad : 20 < l.length ∨ 20 < r.length ∨ n < 1 ∨ 64 < n
  · have HBAD := Lib.hid hbad
    clear hl hnm hr hnr ha hb hbad
    generalize hlm : l.length = m at *
    generalize hrk : r.length = k at *
    clear hlm hrk
    go_enter Try.func8, Try.ntmps8
    go_wp2_with fail
    refine (awake_any _).mono ?_; rintro e w1 ⟨rfl, hb⟩
    have HB := Lib.hid hb
    clear hb
    go_upto_region 4 with fail
    all_goals first
      | (exfalso; have := HBAD.out; omega)
      | (go_ret; exact ⟨rfl, HB.out⟩)
  · obtain ⟨n, rfl⟩ := Int.eq_ofNat_of_zero_le (show 0 ≤ n by omega)
    have h1 : 1 ≤ n := by omega
    have h2 : n ≤ 64 := by omega
    have h3 : l.length ≤ 20 := by omega
    have h4 : r.length ≤ 20 := by omega
    have d1 : decide (20 < (l.length : Int)) = false := decide_eq_false (by omega)
    have d2 : decide (20 < (r.length : Int)) = false := decide_eq_false (by omega)
    have d3 : decide ((n : Int) < 1) = false := decide_eq_false (by omega)
    have d4 : decide (64 < (n : Int)) = false := decide_eq_false (by omega)
    have hlr : (l ++ r).length = l.length + r.length := List.length_append
    have hna : ∀ s ∈ l ++ r, s.name.length < 9223372036854775808 := fun s hs => (List.mem_append.1 hs).elim (hnm s) (hnr s)
    have HMK := Lib.hid (fun W (hW : RdS W a l) => make_any a l c n h1 h2 (by omega) W hW hnm)
    have HMK2 := Lib.hid (fun a' c' W (hW : RdS W a' (l ++ r)) => make_any a' (l ++ r) c' n h1 h2 (by omega) W hW hna)
    have HF := Lib.hid (fun ab ac cb cc W (hW : RdS W a l) hb hc => find_any ab ac a l cb cc c n name ver W hW (by omega) h1 h2 hname hb hc)
    have HF2 := Lib.hid (fun a' c' ab ac cb cc W (hW : RdS W a' (l ++ r)) hb hc => find_any ab ac a' (l ++ r) cb cc c' n name ver W hW (by omega) h1 h2 hname hb hc)
    have HL := Lib.hid hl
    have HR := Lib.hid hr
    have HA := Lib.hid ha
    have HBB := Lib.hid hb
    obtain ⟨i0, hz⟩ := info_parts infoSym
    have HI := Lib.hid hz
    clear hl hnm hr hnr ha hb hbad hna hz
    obtain ⟨m, hlm⟩ : ∃ m, l.length = m := ⟨_, rfl⟩
    obtain ⟨k, hrk⟩ : ∃ k, r.length = k := ⟨_, rfl⟩
    have HLM := Lib.hid hlm
    have HRK := Lib.hid hrk
    rw [hlm, hrk] at hlr
    rw [hlm] at h3 d1 hm ⊢
    rw [hrk] at h4 d2 hk ⊢
    have hfm := findZ_more l r name ver
    rw [hlm] at hfm
    obtain ⟨x, hx⟩ : ∃ x, findZ l name ver 0 = x := ⟨_, rfl⟩
    obtain ⟨y, hy⟩ : ∃ y, findZ (l ++ r) name ver 0 = y := ⟨_, rfl⟩
    rw [hx, hy] at hfm
    rw [hx] at HF
    rw [hy] at HF2
    have HFM := Lib.hid hfm
    rw [hlr] at HMK2 HF2
    rw [hlm] at HMK HF
    clear hx hy hfm
    have HLR := Lib.hid hlr
    clear hlr hlm hrk
    go_enter Try.func8, Try.ntmps8
    go_wp2_with fail
    refine (awake_any _).mono ?_; rintro e w1 ⟨rfl, hb⟩
    have HB := Lib.hid hb
    have hsz := hb.size
    clear hb
    go_upto_region 4 with fail
    go_cut [12] (fun s12 wx => ∃ a' c', s12 = .slice a' (m + k) c' ∧ Hid (RdS wx a' (l ++ r) ∧ Below w.heap.size w wx))
    case first =>
      have hlit := World.ownsRow_lit (base := w.heap.size) (e := 24) (size := 8) w1 #[] 0 hsz (Nat.zero_le _) rfl
      have HLIT := Lib.hid hlit
      clear hlit
      have hl1 : (symsC l).length = m * 8 := by rw [symsC_len, HLM.out]
      have hr1 : (symsC r).length = k * 8 := by rw [symsC_len, HRK.out]
      have HL1 := Lib.hid hl1
      have HR1 := Lib.hid hr1
      clear hl1 hr1
      rcases a with _ | ad
      · obtain ⟨hm0, rfl⟩ := HA.out rfl
        have hl0 : l = [] := List.eq_nil_of_length_eq_zero hm0
        obtain rfl : m = 0 := by rw [← HLM.out]; exact hm0
        rcases b with _ | bd
        · obtain ⟨hk0, rfl⟩ := HBB.out rfl
          have hr0 : r = [] := List.eq_nil_of_length_eq_zero hk0
          obtain rfl : k = 0 := by rw [← HRK.out]; exact hk0
          have E := Lib.hid (And.intro hl0 hr0)
          clear hm0 hl0 hk0 hr0
          go_wp2_with (first | (at_builtin; refine wpList_append_own_none rfl _ _ 30 rfl w.heap.size 24 i0 8 Try.underlying30 HI.out.1 _ _ _ rfl HLIT.out rfl ?_))
          go_meet
          refine ⟨_, _, rfl, Lib.hid ⟨?_, bAlloc HB.out _⟩⟩
          rw [E.out.1, E.out.2]
          exact fun h => absurd h (by simp)
        · have E := Lib.hid hl0
          clear hm0 hl0
          go_wp2_with (first | (at_builtin; refine wpList_append_own _ rfl _ _ 30 rfl w.heap.size 24 i0 (.agg #[.string ⟨#[]⟩, .string ⟨#[]⟩, .int .u64 0, .int .u64 0, .int .i64 0, .int .i64 0, .int .i64 0, .bool false]) 8 80 Try.underlying30 HI.out.1 HI.out.2.1 HI.out.2.2.1 HI.out.2.2.2 rfl (by decide) _ _ _ rfl HLIT.out bd k d (symsC r) rfl HR1.out (fun j u hu => (HR.out.below (bAlloc HB.out _)).news j u hu) (symsC_one _) (by unfold maxLen; omega) (by omega) (by rw [size_alloc]; omega) ?_; intro v2 w3 hown2 hgrow2 hnil2; simp only [Nat.zero_add, List.nil_append] at hown2; have HG2 := Lib.hid ((bAlloc HB.out (.cells #[] 24)).grown hgrow2 (by rw [size_alloc]; omega) (fun q hq => Option.some.inj (show some w1.heap.size = some q from hq) ▸ hsz)); obtain ⟨a2, c2, rfl, hl2⟩ := own_slice hown2; have HO2 := Lib.hid hown2; clear hgrow2 hnil2 hown2) | (at_builtin; refine wpList_append_own_none rfl _ _ 30 rfl w.heap.size 24 i0 8 Try.underlying30 HI.out.1 _ _ _ rfl HLIT.out rfl ?_))
          go_meet
          rw [Nat.zero_add]
          refine ⟨_, _, rfl, Lib.hid ⟨RdS.of_own (n := k) (by rw [E.out, List.nil_append]; exact HO2.out), HG2.out⟩⟩
      · rcases b with _ | bd
        · obtain ⟨hk0, rfl⟩ := HBB.out rfl
          have hr0 : r = [] := List.eq_nil_of_length_eq_zero hk0
          obtain rfl : k = 0 := by rw [← HRK.out]; exact hk0
          have E := Lib.hid hr0
          clear hk0 hr0
          go_wp2_with (first | (at_builtin; refine wpList_append_own _ rfl _ _ 30 rfl w.heap.size 24 i0 (.agg #[.string ⟨#[]⟩, .string ⟨#[]⟩, .int .u64 0, .int .u64 0, .int .i64 0, .int .i64 0, .int .i64 0, .bool false]) 8 80 Try.underlying30 HI.out.1 HI.out.2.1 HI.out.2.2.1 HI.out.2.2.2 rfl (by decide) _ _ _ rfl HLIT.out ad m c (symsC l) rfl HL1.out (fun j u hu => (HL.out.below (bAlloc HB.out _)).news j u hu) (symsC_one _) (by unfold maxLen; omega) (by omega) (by rw [size_alloc]; omega) ?_; intro v1 w2 hown1 hgrow1 hnil1; simp only [Nat.zero_add, List.nil_append] at hown1; have HG1 := Lib.hid ((bAlloc HB.out (.cells #[] 24)).grown hgrow1 (by rw [size_alloc]; omega) (fun q hq => Option.some.inj (show some w1.heap.size = some q from hq) ▸ hsz)); obtain ⟨a1, c1, rfl, hl1⟩ := own_slice hown1; have HO1 := Lib.hid hown1; clear hgrow1 hnil1 hown1) | (at_builtin; refine wpList_append_own_none rfl _ _ 30 rfl w.heap.size 24 i0 8 Try.underlying30 HI.out.1 _ _ _ rfl HO1.out rfl ?_))
          go_meet
          exact ⟨_, _, rfl, Lib.hid ⟨RdS.of_own (n := m) (by rw [E.out, List.append_nil]; exact HO1.out), HG1.out⟩⟩
        · go_wp2_with (first | (at_builtin; refine wpList_append_own _ rfl _ _ 30 rfl w.heap.size 24 i0 (.agg #[.string ⟨#[]⟩, .string ⟨#[]⟩, .int .u64 0, .int .u64 0, .int .i64 0, .int .i64 0, .int .i64 0, .bool false]) 8 80 Try.underlying30 HI.out.1 HI.out.2.1 HI.out.2.2.1 HI.out.2.2.2 rfl (by decide) _ _ _ rfl HLIT.out ad m c (symsC l) rfl HL1.out (fun j u hu => (HL.out.below (bAlloc HB.out _)).news j u hu) (symsC_one _) (by unfold maxLen; omega) (by omega) (by rw [size_alloc]; omega) ?_; intro v1 w2 hown1 hgrow1 hnil1; simp only [Nat.zero_add, List.nil_append] at hown1; have HG1 := Lib.hid ((bAlloc HB.out (.cells #[] 24)).grown hgrow1 (by rw [size_alloc]; omega) (fun q hq => Option.some.inj (show some w1.heap.size = some q from hq) ▸ hsz)); obtain ⟨a1, c1, rfl, hl1⟩ := own_slice hown1; have HO1 := Lib.hid hown1; clear hgrow1 hnil1 hown1) | (at_builtin; refine wpList_append_own _ rfl _ _ 30 rfl w.heap.size 24 i0 (.agg #[.string ⟨#[]⟩, .string ⟨#[]⟩, .int .u64 0, .int .u64 0, .int .i64 0, .int .i64 0, .int .i64 0, .bool false]) 8 80 Try.underlying30 HI.out.1 HI.out.2.1 HI.out.2.2.1 HI.out.2.2.2 rfl (by decide) _ _ _ rfl HO1.out bd k d (symsC r) rfl HR1.out (fun j u hu => (HR.out.below HG1.out).news j u hu) (symsC_one _) (by unfold maxLen; omega) (by omega) HG1.out.size ?_; intro v2 w3 hown2 hgrow2 hnil2; have HG2 := Lib.hid (HG1.out.grown hgrow2 HG1.out.size (fun q hq => (HO1.out.lt q hq).1)); obtain ⟨a2, c2, rfl, hl2⟩ := own_slice hown2; have HO2 := Lib.hid hown2; clear hgrow2 hnil2 hown2))
          go_meet
          refine ⟨_, _, rfl, Lib.hid ⟨RdS.of_own (n := m + k) (by rw [symsC_append]; exact HO2.out), HG2.out⟩⟩
    case rest =>
      obtain ⟨a', c', rfl, HX⟩ := hcut
      go_wp2_with fail
      refine (HMK.out _ (HL.out.below HX.out.2)).mono ?_; rintro e w2 ⟨B, C, rfl, hB, hC, hBl, hCl, hb2⟩
      rw [HLM.out] at hC ⊢
      have HB2 := Lib.hid (bTrans HX.out.2 hb2)
      have HX2 := Lib.hid (HX.out.1.below hb2)
      have HBR := Lib.hid hB
      have HCR := Lib.hid hC
      clear hb2 hB hC hBl hCl
      go_wp2_with fail
      refine (HMK2.out _ _ _ (HX2.out.below (bAlloc (Below.refl _ _) _))).mono ?_; rintro e w3 ⟨D, E, rfl, hD, hE, hDl, hEl, hb3⟩
      rw [HLR.out] at hE ⊢
      have HB3 := Lib.hid (bTrans (bAlloc HB2.out _) hb3)
      have HX3 := Lib.hid ((HX2.out.below (bAlloc (Below.refl _ _) _)).below hb3)
      have HBR3 := Lib.hid ((HBR.out.alloc _).below hb3)
      have HCR3 := Lib.hid ((HCR.out.alloc _).below hb3)
      have HDR := Lib.hid hD
      have HER := Lib.hid hE
      have x0 := (boxed hb3 0).trans rfl
      have x1 := (boxed hb3 1).trans rfl
      have hz : w2.heap.size < w3.heap.size := by have := hb3.size; simp at this; omega
      clear hb3 hD hE hDl hEl
      go_wp2_with fail
      refine (HF.out _ _ _ _ _ (HL.out.below (bAlloc HB3.out _)) (HBR3.out.alloc _) (HCR3.out.alloc _)).mono ?_; rintro e w4 ⟨rfl, hb4⟩
      have HB4 := Lib.hid (bTrans (bAlloc HB3.out _) hb4)
      have HX4 := Lib.hid ((HX3.out.below (bAlloc (Below.refl _ _) _)).below hb4)
      have HDR4 := Lib.hid ((HDR.out.alloc _).below hb4)
      have HER4 := Lib.hid ((HER.out.alloc _).below hb4)
      have y0 := (boxed hb4 0).trans rfl
      have y1 := (boxed hb4 1).trans rfl
      clear hb4 x0 x1
      go_wp2_with fail
      refine (HF2.out _ _ _ _ _ _ _ HX4.out HDR4.out HER4.out).mono ?_; rintro e w5 ⟨rfl, hb5⟩
      have HB5 := Lib.hid (bTrans HB4.out hb5)
      clear hb5 y0 y1
      go_wp2_with fail
      all_goals first
        | (exfalso; have := HFM.out; omega)
        | (go_ret; exact ⟨rfl, HB5.out⟩)
        | (have e : (y == x) = true := by (rw [beq_iff_eq]; have := HFM.out; omega)
           go_ret
           exact ⟨ret_bool e, HB5.out⟩)
        | go_ways
end Go.Proofs.Ytniefpdibmpngaa
