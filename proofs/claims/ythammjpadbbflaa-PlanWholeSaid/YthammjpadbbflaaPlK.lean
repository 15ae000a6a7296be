/- PlanBoth: its walk. -/
import Derived.Test.YthammjpadbbflaaPlI
namespace Go.Proofs.Ythammjpadbbflaa
set_option linter.unusedVariables false
set_option linter.unusedSimpArgs false
open Go.Joins Go.ChangeShapes Go.WideShapes Go.ChangeAt Go.RowKit Go.Deep

theorem wpList_appLg (w : World) {ops : Array Oper} {rest : List Oper} {o : Oper} {a : Act} {Q : Exit → Act → World → Prop} (hwt : Region.wanted o (yielded ops a.tmps) = true) (s x : Operand) (ho : o.op = .call { callee := .builtin .append, args := #[s, x], argTypes := #[49, 49] })
    (B : Nat) (v : Value) (n : Nat) (xs : List Lnk) (hs : a.eval s = v) (hown : w.ownsRow B 51 4 v n (lnksC xs)) (am : Option Addr) (m c : Nat) (ys : List Lnk) (hx : a.eval x = .slice am m c) (hr : RdK w am ys) (hm : ys.length = m) (hnm : n + m ≤ 1000000) (hB : B ≤ w.heap.size)
    (h : ∀ a' c' w', w'.ownsRow B 51 4 (.slice a' (n + m) c') (n + m) (lnksC (xs ++ ys)) → w.grownBy w' v.ownBlock → ((Value.slice a' (n + m) c').ownBlock = v.ownBlock ∨ (Value.slice a' (n + m) c').ownBlock = some w.heap.size) → wpList Try.prog ops Q rest (a.put o.dst (.slice a' (n + m) c')) w') : wpList Try.prog ops Q (o :: rest) a w :=
  wpList_step fun _ hK => by
    rw [if_pos hwt]
    exact wp_appL w s x ho B v n xs hs hown am m c ys hx hr hm hnm hB fun a' c' w' h2 h3 h4 => hK _ _ (h a' c' w' h2 h3 h4)
theorem wpList_appL0g (w : World) {ops : Array Oper} {rest : List Oper} {o : Oper} {a : Act} {Q : Exit → Act → World → Prop} (hwt : Region.wanted o (yielded ops a.tmps) = true) (s x : Operand) (ho : o.op = .call { callee := .builtin .append, args := #[s, x], argTypes := #[49, 49] })
    (B g : Nat) (hs : a.eval s = .slice (some ⟨g, 0, none⟩) 0 0) (hown : w.ownsRow B 51 4 (.slice (some ⟨g, 0, none⟩) 0 0) 0 (lnksC [])) (am : Option Addr) (m c : Nat) (ys : List Lnk) (hx : a.eval x = .slice am m c) (hr : RdK w am ys) (hm : ys.length = m) (hnm : m ≤ 100000) (hB : B ≤ w.heap.size)
    (h : ∀ a' c' w', w'.ownsRow B 51 4 (.slice a' m c') m (lnksC ys) → Below w.heap.size w w' → ((Value.slice a' m c').ownBlock = some g ∨ (Value.slice a' m c').ownBlock = some w.heap.size) → wpList Try.prog ops Q rest (a.put o.dst (.slice a' m c')) w') : wpList Try.prog ops Q (o :: rest) a w :=
  wpList_step fun _ hK => by
    rw [if_pos hwt]
    exact wp_appL0 w s x ho B g hs hown am m c ys hx hr hm hnm hB fun a' c' w' h2 h3 h4 => hK _ _ (h a' c' w' h2 h3 h4)
/-- what one list gives behind what was given -/
def shiftR (p : Res) (acc : List Lnk) : Res := match p with
  | (ys, none) => (acc ++ ys, none)
  | (ys, some e) => (ys, some e)
theorem shiftR_shift (p : Res) (x acc : List Lnk) : shiftR (shiftR p x) acc = shiftR p (acc ++ x) := by
  obtain ⟨ys, e⟩ := p
  cases e with
  | none => simp [shiftR]
  | some e => rfl
theorem relF_shift (l : List Ob) (sc : List Nat) (o : Nat) (r : List (Int × Int)) : ∀ (k : Nat) (acc : List Lnk), relF l sc o k r acc = shiftR (relF l sc o k r []) acc := by
  induction r with
  | nil => intro k acc; simp [relF, shiftR]
  | cons x t ih =>
    intro k acc
    by_cases h : (bnd l sc o x.2).2.2 = 0
    · have e1 : ∀ acc, relF l sc o k (x :: t) acc = relF l sc o (k + 1) t (acc ++ [⟨o, k, (bnd l sc o x.2).1, (bnd l sc o x.2).2.1⟩]) := fun acc => if_pos h
      rw [e1, e1, ih (k + 1) (acc ++ _), ih (k + 1) ([] ++ _), shiftR_shift, List.nil_append]
    · have e1 : ∀ acc, relF l sc o k (x :: t) acc = ([], some (⟨o, k, 0, 0⟩, (bnd l sc o x.2).2.2)) := fun acc => if_neg h
      rw [e1, e1]
      rfl
theorem linkF_shift (l : List Ob) (sc os : List Nat) : ∀ (acc : List Lnk), linkF l sc os acc = shiftR (linkF l sc os []) acc := by
  induction os with
  | nil => intro acc; simp [linkF, shiftR]
  | cons o t ih =>
    intro acc
    have hu : ∀ acc, linkF l sc (o :: t) acc = contF l sc t (relF l sc o 0 (relsAt l o) acc) := fun _ => rfl
    rw [hu, hu, relF_shift l sc o (relsAt l o) 0 acc]
    obtain ⟨p, hp⟩ : ∃ p, relF l sc o 0 (relsAt l o) [] = p := ⟨_, rfl⟩
    rw [hp]
    obtain ⟨ys, e⟩ := p
    cases e with
    | none =>
      show linkF l sc t (acc ++ ys) = shiftR (linkF l sc t ys) acc
      rw [ih (acc ++ ys), ih ys, shiftR_shift]
    | some e => rfl
theorem linkF_append (l : List Ob) (sc b : List Nat) (a : List Nat) : ∀ (acc : List Lnk), linkF l sc (a ++ b) acc = contF l sc b (linkF l sc a acc) := by
  induction a with
  | nil => intro acc; rfl
  | cons o t ih =>
    intro acc
    have hu : ∀ t acc, linkF l sc (o :: t) acc = contF l sc t (relF l sc o 0 (relsAt l o) acc) := fun _ _ => rfl
    rw [List.cons_append, hu, hu]
    obtain ⟨p, hp⟩ : ∃ p, relF l sc o 0 (relsAt l o) acc = p := ⟨_, rfl⟩
    rw [hp]
    obtain ⟨ys, e⟩ := p
    cases e with
    | none => exact ih ys
    | some e => rfl
def errOk (p : Res) : Prop := ∀ e, p.2 = some e → p.1 = [] ∧ e.2 ≠ 0
theorem relF_err (l : List Ob) (sc : List Nat) (o : Nat) (r : List (Int × Int)) : ∀ (k : Nat) (acc : List Lnk), errOk (relF l sc o k r acc) := by
  induction r with
  | nil => intro k acc e h; cases h
  | cons x t ih =>
    intro k acc
    unfold relF
    split
    · exact ih _ _
    · rename_i h
      intro e he
      cases he
      exact ⟨rfl, h⟩
theorem linkF_err (l : List Ob) (sc os : List Nat) : ∀ (acc : List Lnk), errOk (linkF l sc os acc) := by
  induction os with
  | nil => intro acc e h; cases h
  | cons o t ih =>
    intro acc
    have hu : linkF l sc (o :: t) acc = contF l sc t (relF l sc o 0 (relsAt l o) acc) := rfl
    rw [hu]
    have h1 := relF_err l sc o (relsAt l o) 0 acc
    obtain ⟨p, hp⟩ : ∃ p, relF l sc o 0 (relsAt l o) acc = p := ⟨_, rfl⟩
    rw [hp] at h1 ⊢
    obtain ⟨ys, e⟩ := p
    cases e with
    | none => exact ih ys
    | some e => exact h1
theorem cast_inj {s t : List Nat} (h : s.map (fun (k : Nat) => (k : Int)) = t.map (fun (k : Nat) => (k : Int))) : s = t := by
  induction s generalizing t with
  | nil => cases t with
    | nil => rfl
    | cons y t => simp at h
  | cons x s ih => cases t with
    | nil => simp at h
    | cons y t =>
      simp only [List.map_cons, List.cons.injEq] at h
      rw [ih h.2]
      congr 1
      omega
/-- two lists of places, one behind the other -/
theorem link_two (l : List Ob) (sc a b : List Nat) :
    ((linkF l sc a []).2 ≠ none ∧ linkF l sc (a ++ b) [] = linkF l sc a [] ∧ (linkF l sc a []).1 = [] ∧ errL (linkF l sc a []).2 ≠ 0) ∨
    ((linkF l sc a []).2 = none ∧ (linkF l sc b []).2 ≠ none ∧ linkF l sc (a ++ b) [] = linkF l sc b [] ∧ (linkF l sc b []).1 = [] ∧ errL (linkF l sc b []).2 ≠ 0) ∨
    ((linkF l sc a []).2 = none ∧ (linkF l sc b []).2 = none ∧ linkF l sc (a ++ b) [] = ((linkF l sc a []).1 ++ (linkF l sc b []).1, none)) := by
  have h1 := linkF_err l sc a []
  have h2 := linkF_err l sc b []
  rw [linkF_append]
  obtain ⟨p, hp⟩ : ∃ p, linkF l sc a [] = p := ⟨_, rfl⟩
  obtain ⟨q, hq⟩ : ∃ q, linkF l sc b [] = q := ⟨_, rfl⟩
  rw [hp] at h1 ⊢
  rw [hq] at h2 ⊢
  obtain ⟨xs, e⟩ := p
  obtain ⟨ys, e'⟩ := q
  cases e with
  | some e => exact .inl ⟨by simp, rfl, (h1 e rfl).1, (h1 e rfl).2⟩
  | none =>
    have h3 : contF l sc b (xs, none) = shiftR (ys, e') xs := by
      show linkF l sc b xs = _
      rw [linkF_shift, hq]
    rw [h3]
    cases e' with
    | some e' => exact .inr (.inl ⟨rfl, by simp, rfl, (h2 e' rfl).1, (h2 e' rfl).2⟩)
    | none => exact .inr (.inr ⟨rfl, rfl, rfl⟩)
set_option maxHeartbeats 2000000 in
set_option maxRecDepth 100000 in
theorem PlanBoth_walk (a : Option Addr) (l : List Ob) (c : Nat) (b : Option Addr) (z : List Int) (d : Nat) (g : Option Addr) (y : List Int) (f : Nat) (h : Option Addr) (v : List Int) (k : Nat) (w : World) (hl : RdL w a l) (hm : l.length ≤ maxLen) (hs : Rd w b z.length (i64s z)) (hz : z.length ≤ maxLen) (ho : Rd w g y.length (i64s y)) (hy : y.length ≤ maxLen) (hv : Rd w h v.length (i64s v)) (hvm : v.length ≤ maxLen) :
    Calls Try.prog 9 #[.slice a l.length c, .slice b z.length d, .slice g y.length f, .slice h v.length k] w fun e w' => e = .returned (.bool true) ∧ Below w.heap.size w w' := by
  unfold maxLen at hm hz hy hvm
  have HRI := Lib.hid (fun W (hW : Below w.heap.size w W) => right15_any a b g c d f l z y W (hl.below hW) (by omega) (hs.below hW) (by omega) (ho.below hW) (by omega))
  have HRV := Lib.hid (fun W (hW : Below w.heap.size w W) => right15_any a b h c d k l z v W (hl.below hW) (by omega) (hs.below hW) (by omega) (hv.below hW) (by omega))
  obtain ⟨r1, hr1⟩ : ∃ r, rightP l z y = r := ⟨_, rfl⟩
  obtain ⟨r2, hr2⟩ : ∃ r, rightP l z v = r := ⟨_, rfl⟩
  rw [hr1] at HRI
  rw [hr2] at HRV
  have HR1 := Lib.hid hr1
  have HR2 := Lib.hid hr2
  have HL := Lib.hid hl
  have HS := Lib.hid hs
  have HO := Lib.hid ho
  have HV := Lib.hid hv
  obtain ⟨m, hm1⟩ : ∃ m, l.length = m := ⟨_, rfl⟩
  obtain ⟨n, hn1⟩ : ∃ n, z.length = n := ⟨_, rfl⟩
  obtain ⟨p, hp1⟩ : ∃ p, y.length = p := ⟨_, rfl⟩
  obtain ⟨q, hq1⟩ : ∃ q, v.length = q := ⟨_, rfl⟩
  rw [hm1] at hm HRI HRV ⊢
  rw [hn1] at hz HRI HRV HS ⊢
  rw [hp1] at hy HRI HO ⊢
  rw [hq1] at hvm HRV HV ⊢
  have HM := Lib.hid hm1
  have HN := Lib.hid hn1
  have HP := Lib.hid hp1
  have HQ := Lib.hid hq1
  clear hl hs ho hv hr1 hr2 hm1 hn1 hp1 hq1
  go_enter Try.func9, Try.ntmps9
  go_wp2_with fail
  refine (awake15_any _).mono ?_; rintro e w1 ⟨rfl, hb1⟩
  have B1 := Lib.hid hb1
  clear hb1
  go_wp2_with fail
  refine (HRI.out _ B1.out).mono ?_; rintro e w2 ⟨rfl, hb2⟩
  have B1 := Lib.hid (bTrans B1.out hb2)
  clear hb2
  go_wp2_with fail
  refine (HRV.out _ B1.out).mono ?_; rintro e w2 ⟨rfl, hb2⟩
  have B1 := Lib.hid (bTrans B1.out hb2)
  clear hb2
  cases r1 with
  | false =>
    go_wp2_with fail
    go_ret
    exact ⟨rfl, B1.out⟩
  | true =>
  cases r2 with
  | false =>
    go_wp2_with fail
    go_ret
    exact ⟨rfl, B1.out⟩
  | true =>
  cases d1 : decide ((5 : Int) < (p : Int)) with
  | true =>
    go_wp2_with fail
    go_ret
    exact ⟨rfl, B1.out⟩
  | false =>
  cases d2 : decide ((5 : Int) < (q : Int)) with
  | true =>
    go_wp2_with fail
    go_ret
    exact ⟨rfl, B1.out⟩
  | false =>
    have n1 := of_decide_eq_false d1
    have n2 := of_decide_eq_false d2
    obtain ⟨sc, o1, hz1, hy1, hsc, ho1c, hfw, hrl, h40, -⟩ := plan_ok HR1.out
    obtain ⟨sc', o2, hz2, hy2, -, ho2c, -, -, -, -⟩ := plan_ok HR2.out
    subst hz1
    subst hy1
    subst hy2
    obtain rfl := cast_inj hz2
    have hnn : sc.length = n := by have := HN.out; simpa using this
    have hpp : o1.length = p := by have := HP.out; simpa using this
    have hqq : o2.length = q := by have := HQ.out; simpa using this
    have hs0 := HS.out
    have ho0 := HO.out
    have hv0 := HV.out
    rw [i64s_ord, ← hnn] at hs0
    have ho0' := ho0
    have hv0' := hv0
    rw [i64s_ord, ← hpp] at ho0'
    rw [i64s_ord, ← hqq] at hv0'
    have HLK := Lib.hid (fun W (hW : Below w.heap.size w W) => link_any a b g c d f l sc o1 W (HL.out.below hW) (hs0.below hW) (ho0'.below hW) hsc ho1c hfw hrl (by omega) (by omega))
    have HLV := Lib.hid (fun W (hW : Below w.heap.size w W) => link_any a b h c d k l sc o2 W (HL.out.below hW) (hs0.below hW) (hv0'.below hW) hsc ho2c hfw hrl (by omega) (by omega))
    have HLW := Lib.hid (fun W (hW : Below w.heap.size w W) (x : Option Addr) (u : Nat) (hx : Rd W x (o1 ++ o2).length (ordV (o1 ++ o2))) => link_any a b x c d u l sc (o1 ++ o2) W (HL.out.below hW) (hs0.below hW) hx hsc (fun i hi => by
      rcases List.mem_append.1 hi with hi | hi
      · exact ho1c i hi
      · exact ho2c i hi) hfw hrl (by omega) (by rw [List.length_append]; omega))
    have htwo := link_two l sc o1 o2
    have hl1 := linkF_len l sc hrl o1 [] ho1c
    have hl2 := linkF_len l sc hrl o2 [] ho2c
    obtain ⟨R1, hR1⟩ : ∃ R, linkF l sc o1 [] = R := ⟨_, rfl⟩
    obtain ⟨R2, hR2⟩ : ∃ R, linkF l sc o2 [] = R := ⟨_, rfl⟩
    obtain ⟨R3, hR3⟩ : ∃ R, linkF l sc (o1 ++ o2) [] = R := ⟨_, rfl⟩
    rw [hR1] at HLK htwo hl1
    rw [hR2] at HLV htwo hl2
    rw [hR3] at HLW htwo
    rw [HM.out, hnn, hpp] at HLK
    rw [HM.out, hnn, hqq] at HLV
    rw [HM.out, hnn, List.length_append, hpp, hqq] at HLW
    have hx1 : R1.1.length ≤ 300 := by simp at hl1; omega
    have hx2 : R2.1.length ≤ 300 := by simp at hl2; omega
    have e12 : i64s (o1.map (fun (k : Nat) => (k : Int)) ++ o2.map (fun (k : Nat) => (k : Int))) = ordV (o1 ++ o2) := by rw [show i64s (o1.map (fun (k : Nat) => (k : Int)) ++ o2.map (fun (k : Nat) => (k : Int))) = i64s (o1.map (fun (k : Nat) => (k : Int))) ++ i64s (o2.map (fun (k : Nat) => (k : Int))) by simp [i64s], i64s_ord, i64s_ord]; simp [ordV]
    have HT := Lib.hid htwo
    have HE12 := Lib.hid e12
    have HX := Lib.hid (And.intro hx1 hx2)
    clear htwo e12 hx1 hx2 hl1 hl2 hR1 hR2 hR3 hs0 ho0 hv0 ho0' hv0' hsc ho1c ho2c hnn hpp hqq HN HP HQ HS HL HM HR1 HR2 HRI HRV hfw hrl hz2
    obtain ⟨xs, ea⟩ := R1
    obtain ⟨ys, eb⟩ := R2
    obtain ⟨zs, ez⟩ := R3
    simp only [] at HLK HLV HLW
    obtain ⟨⟨ao, ar, ax, aq⟩, hba⟩ : ∃ x, badL ea = x := ⟨_, rfl⟩
    obtain ⟨⟨bo, br, bt, bs⟩, hbb⟩ : ∃ x, badL eb = x := ⟨_, rfl⟩
    obtain ⟨⟨co, cr, ct, cs⟩, hbc⟩ : ∃ x, badL ez = x := ⟨_, rfl⟩
    obtain ⟨era, hea⟩ : ∃ x, errL ea = x := ⟨_, rfl⟩
    obtain ⟨erb, heb⟩ : ∃ x, errL eb = x := ⟨_, rfl⟩
    obtain ⟨erc, hec⟩ : ∃ x, errL ez = x := ⟨_, rfl⟩
    rw [hba, hea] at HLK
    rw [hbb, heb] at HLV
    rw [hbc, hec] at HLW
    simp only [] at HLK HLV HLW
    have HBE := Lib.hid (And.intro hba (And.intro hbb (And.intro hbc (And.intro hea (And.intro heb hec)))))
    clear hba hbb hbc hea heb hec
    obtain ⟨nx, hnx⟩ : ∃ x, xs.length = x := ⟨_, rfl⟩
    obtain ⟨ny, hny⟩ : ∃ x, ys.length = x := ⟨_, rfl⟩
    obtain ⟨nz, hnz⟩ : ∃ x, zs.length = x := ⟨_, rfl⟩
    rw [hnx] at HLK
    rw [hny] at HLV
    rw [hnz] at HLW
    have HNX := Lib.hid (And.intro hnx (And.intro hny hnz))
    clear hnx hny hnz
    go_wp2_with fail
    refine (HLK.out _ B1.out).mono ?_; rintro e w3 ⟨a1, c1, rfl, hk1, hb3⟩
    have B3 := Lib.hid (bTrans B1.out hb3)
    have HK1 := Lib.hid hk1
    clear hb3 hk1
    go_wp2_with fail
    refine (HLV.out _ (bAlloc B3.out _)).mono ?_; rintro e w4 ⟨a2, c2, rfl, hk2, hb4⟩
    have hb34 := bTrans (bAlloc (Below.refl w3.heap.size w3) (.cells #[.int .i64 ao, .int .i64 ar, .int .i64 ax, .int .i64 aq] 51)) hb4
    have bx1 := (BoxN.new w3 #[.int .i64 ao, .int .i64 ar, .int .i64 ax, .int .i64 aq] 51).below hb4 (by simp)
    obtain ⟨V, hV⟩ : ∃ V, w4.alloc (.cells #[.int .i64 bo, .int .i64 br, .int .i64 bt, .int .i64 bs] 51) = V := ⟨_, rfl⟩
    have hb4v : Below w4.heap.size w4 V := by rw [← hV]; exact bAlloc (Below.refl _ _) _
    have bx2 : BoxN V w4.heap.size #[.int .i64 bo, .int .i64 br, .int .i64 bt, .int .i64 bs] := by rw [← hV]; exact BoxN.new _ _ _
    have BX1 := Lib.hid (bx1.below hb4v bx1.lt)
    have BX2 := Lib.hid bx2
    have BV := Lib.hid (bTrans (bTrans B3.out hb34) hb4v)
    have HK1 := Lib.hid (HK1.out.below (bTrans hb34 hb4v))
    have HK2 := Lib.hid (hk2.below hb4v)
    have HVV := Lib.hid hV
    clear bx1 bx2 hb34 hb4 hk2 hb4v hV
    go_upto_region 8 with fail
    rw [HVV.out]
    have HOV := Lib.hid (HO.out.below BV.out)
    have HVO := Lib.hid (HV.out.below BV.out)
    go_wp2_with (first
      | (at_builtin; refine wpList_app0 _ rfl _ _ rfl V.heap.size V.heap.size rfl (own_empty V 3) g p f (o1.map (fun (k : Nat) => (k : Int))) rfl (HOV.out.alloc _) (by omega) (by simp) ?_; intro a5 c5 w5 hown5 hb5 hat5; have HO5 := Lib.hid hown5; have HB5 := Lib.hid hb5; clear hown5 hb5 hat5)
      | (at_builtin; refine wpList_app _ rfl _ _ rfl V.heap.size (.slice a5 p c5) p (o1.map (fun (k : Nat) => (k : Int))) rfl HO5.out h q k (o2.map (fun (k : Nat) => (k : Int))) rfl ((HVO.out.below (bAlloc (Below.refl _ _) _)).below HB5.out) (by omega) (by have := HB5.out.size; simp at this ⊢; omega) ?_; intro a6 c6 w6 hown6 hgrow6 hat6; have HO6 := Lib.hid hown6; have HG6 := Lib.hid hgrow6; clear hown6 hgrow6 hat6))
    have hbv5 := bTrans (bAlloc (Below.refl V.heap.size V) (.cells #[] 3)) HB5.out
    have hbv6 := grownB hbv5 HG6.out (fun q hq => (HO5.out.lt q hq).1)
    have r6 := Rd.of_own HO6.out
    rw [HE12.out] at r6
    have HB6 := Lib.hid hbv6
    have HR6 := Lib.hid (HLW.out _ (bTrans BV.out hbv6) a6 c6 r6)
    clear hbv5 hbv6 r6 HO5 HB5 HO6 HG6
    refine HR6.out.mono ?_; rintro e w7 ⟨a3, c3, rfl, hk3, hb7⟩
    obtain ⟨U, hU⟩ : ∃ U, w7.alloc (.cells #[.int .i64 co, .int .i64 cr, .int .i64 ct, .int .i64 cs] 51) = U := ⟨_, rfl⟩
    have hb7u : Below w7.heap.size w7 U := by rw [← hU]; exact bAlloc (Below.refl _ _) _
    have hbvu := bTrans (bTrans HB6.out hb7) hb7u
    have bx1 := BX1.out.below hbvu BX1.out.lt
    have bx2 := BX2.out.below hbvu BX2.out.lt
    have bx3 : BoxN U w7.heap.size #[.int .i64 co, .int .i64 cr, .int .i64 ct, .int .i64 cs] := by rw [← hU]; exact BoxN.new _ _ _
    have BU := Lib.hid (bTrans BV.out hbvu)
    have HK1 := Lib.hid (HK1.out.below hbvu)
    have HK2 := Lib.hid (HK2.out.below hbvu)
    have HK3 := Lib.hid (hk3.below hb7u)
    have HUU := Lib.hid hU
    clear hU hb7u hbvu hb7 hk3 HR6 HB6
    go_upto_region 9 with fail
    rw [HUU.out]
    have y0 : U.cell? ⟨w3.heap.size, 0, none⟩ = some (.int .i64 ao) := bx1.cell 0
    have y1 : U.cell? ⟨w3.heap.size, 1, none⟩ = some (.int .i64 ar) := bx1.cell 1
    have y2 : U.cell? ⟨w3.heap.size, 2, none⟩ = some (.int .i64 ax) := bx1.cell 2
    have y3 : U.cell? ⟨w3.heap.size, 3, none⟩ = some (.int .i64 aq) := bx1.cell 3
    have u0 : U.cell? ⟨w4.heap.size, 0, none⟩ = some (.int .i64 bo) := bx2.cell 0
    have u1 : U.cell? ⟨w4.heap.size, 1, none⟩ = some (.int .i64 br) := bx2.cell 1
    have u2 : U.cell? ⟨w4.heap.size, 2, none⟩ = some (.int .i64 bt) := bx2.cell 2
    have u3 : U.cell? ⟨w4.heap.size, 3, none⟩ = some (.int .i64 bs) := bx2.cell 3
    have t0 : U.cell? ⟨w7.heap.size, 0, none⟩ = some (.int .i64 co) := bx3.cell 0
    have t1 : U.cell? ⟨w7.heap.size, 1, none⟩ = some (.int .i64 cr) := bx3.cell 1
    have t2 : U.cell? ⟨w7.heap.size, 2, none⟩ = some (.int .i64 ct) := bx3.cell 2
    have t3 : U.cell? ⟨w7.heap.size, 3, none⟩ = some (.int .i64 cs) := bx3.cell 3
    clear bx1 bx2 bx3
    rcases HT.out with ⟨-, h3, h4, h5⟩ | ⟨h1, -, h3, h4, h5⟩ | ⟨h1, h2, h3⟩
    · obtain ⟨e1, e2, e3, e4, e5, e6⟩ := HBE.out
      obtain ⟨f1, f2, f3⟩ := HNX.out
      have h4 : xs = [] := h4
      have h5 : errL ea ≠ 0 := h5
      cases h3
      subst h4
      rw [e1] at e3
      cases e3
      rw [e4] at h5 e6
      subst e6
      subst f3
      have hne : ¬ (era = 0) := h5
      clear e1 e2 e4 e5 f1 f2 h5 HT HBE HNX
      go_wp2_with fail
      go_ret
      exact ⟨rfl, BU.out⟩
    · obtain ⟨e1, e2, e3, e4, e5, e6⟩ := HBE.out
      obtain ⟨f1, f2, f3⟩ := HNX.out
      have h1 : ea = none := h1
      have h4 : ys = [] := h4
      have h5 : errL eb ≠ 0 := h5
      subst h1
      cases h3
      subst h4
      rw [e2] at e3
      cases e3
      rw [e5] at h5 e6
      subst e6
      subst f3
      have he0 : era = 0 := e4.symm
      subst he0
      have hne : ¬ (erb = 0) := h5
      clear e1 e2 e4 e5 f1 f2 h5 HT HBE HNX
      go_wp2_with fail
      go_ret
      exact ⟨rfl, BU.out⟩
    · obtain ⟨e1, e2, e3, e4, e5, e6⟩ := HBE.out
      obtain ⟨f1, f2, f3⟩ := HNX.out
      have h1 : ea = none := h1
      have h2 : eb = none := h2
      subst h1
      subst h2
      cases h3
      have he0 : era = 0 := e4.symm
      subst he0
      have he1 : erb = 0 := e5.symm
      subst he1
      have he2 : erc = 0 := e6.symm
      subst he2
      have hz3 : nz = nx + ny := by rw [← f3, List.length_append, f1, f2]
      subst hz3
      have hx := HX.out
      simp only [f1, f2] at hx
      obtain ⟨hx1, hx2⟩ := hx
      have F1 := Lib.hid f1
      have F2 := Lib.hid f2
      have F3 := Lib.hid f3
      clear e1 e2 e3 e4 e5 e6 f1 f2 f3 HT HBE HNX HX
      go_wp2_with (first
        | (at_builtin; refine wpList_appL0g _ rfl _ _ rfl U.heap.size U.heap.size rfl (own_emptyL U 51) a1 nx c1 xs rfl (HK1.out.below (bAlloc (Below.refl _ _) _)) F1.out (by omega) (by simp) ?_; intro a8 c8 w8 hown8 hb8 hat8; have HO8 := Lib.hid hown8; have HB8 := Lib.hid hb8; clear hown8 hb8 hat8)
        | (at_builtin; refine wpList_appLg _ rfl _ _ rfl U.heap.size (.slice a8 nx c8) nx xs rfl HO8.out a2 ny c2 ys rfl ((HK2.out.below (bAlloc (Below.refl _ _) _)).below HB8.out) F2.out (by omega) (by have := HB8.out.size; simp at this ⊢; omega) ?_; intro a9 c9 w9 hown9 hgrow9 hat9; have HO9 := Lib.hid hown9; have HG9 := Lib.hid hgrow9; clear hown9 hgrow9 hat9))
      have hbu8 := bTrans (bAlloc (Below.refl U.heap.size U) (.cells #[] 51)) HB8.out
      have hbu9 := grownB hbu8 HG9.out (fun q hq => (HO8.out.lt q hq).1)
      refine (same_any a3 a9 (nx + ny) c3 c9 (xs ++ ys) _ (HK3.out.below hbu9) (RdK.of_own HO9.out).1 F3.out (by omega)).mono ?_; rintro e w10 ⟨rfl, hb10⟩
      have B10 := Lib.hid (bTrans (bTrans BU.out hbu9) hb10)
      clear hbu8 hbu9 hb10
      go_wp2_with fail
      go_ret
      exact ⟨rfl, B10.out⟩
end Go.Proofs.Ythammjpadbbflaa
