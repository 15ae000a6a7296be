/- The document's visit and Begin: contracts. -/
import Derived.Test.YtfneikphgmjfbaaGrL
import Derived.Test.YtfneikphgmjfbaaGrI
namespace Go.Proofs.Ytfneikphgmjfbaa
set_option linter.unusedVariables false
set_option linter.unusedSimpArgs false
open Go.Joins Go.ChangeShapes Go.WideShapes Go.ChangeAt Go.RowKit

def VisAt (w0 W : World) (S : Nat) (l : List Obj) (m o : List Nat) : Prop :=
  (w0.heap.size ≤ S ∧ S < W.heap.size) ∧ (∀ j, W.frozen? ⟨S, j, none⟩ = false) ∧
  (∃ vm vo, W.cell? ⟨S, 0, none⟩ = some vm ∧ W.cell? ⟨S, 1, none⟩ = some vo ∧ W.ownsRow (S + 1) 3 1 vm m.length (i64s (ordZ m)) ∧ W.ownsRow (S + 1) 3 1 vo o.length (i64s (ordZ o)) ∧ ∀ g h, vm.ownBlock = some g → vo.ownBlock = some h → g ≠ h) ∧
  Below w0.heap.size w0 W ∧ GoodO l m o ∧ ∀ k ∈ m, k < l.length
theorem lt_of_own {W : World} {B : Nat} {e : TypeId} {v : Value} {n : Nat} {xs : List Value} (h : W.ownsRow B e 1 v n xs) {g : Nat} (hg : v.ownBlock = some g) : B ≤ g ∧ g < W.heap.size := h.lt g hg
theorem own_kept_own {w w' : World} {base : Nat} {e : TypeId} {size n : Nat} {v : Value} {xs : List Value} (h : w.ownsRow base e size v n xs) (hb : ∀ g, v.ownBlock = some g → w'.heap[g]? = w.heap[g]?) : w'.ownsRow base e size v n xs := by
  obtain ⟨h1, h2⟩ := h
  refine ⟨h1, ?_⟩
  rcases h2 with h2 | ⟨g, cap, cur, hv, hg, hh, r⟩
  · exact Or.inl h2
  · exact Or.inr ⟨g, cap, cur, hv, hg, (hb g (by rw [hv]; rfl)).trans hh, r⟩
theorem VisAt.app0 {w0 W W2 : World} {S : Nat} {l : List Obj} {m o : List Nat} {k : Nat} {v v' : Value} (h : VisAt w0 W S l m o) (ob : Go.Obj) (hv : W.cell? ⟨S, 0, none⟩ = some v) (hgr : (W.alloc ob).grownBy W2 v.ownBlock)
    (hat : v'.ownBlock = v.ownBlock ∨ v'.ownBlock = some (W.alloc ob).heap.size) (ho : W2.ownsRow (S + 1) 3 1 v' (m ++ [k]).length (i64s (ordZ (m ++ [k])))) (hg : GoodO l (m ++ [k]) o) (hk : k < l.length) : VisAt w0 (W2.setCell ⟨S, 0, none⟩ v') S l (m ++ [k]) o := by
  obtain ⟨⟨h1, h2⟩, h3, ⟨vm, vo, c0, c1, om, oo, sep⟩, hb, -, hml⟩ := h
  obtain rfl : vm = v := Option.some.inj (c0.symm.trans hv)
  have old := fun b j (hlt : b < W.heap.size) (hne : vm.ownBlock ≠ some b) => grown_old hgr (b := b) (by omega) (fun e => hne e) j
  have hnS : vm.ownBlock ≠ some S := fun e => by have := lt_of_own om e; omega
  have hsz := hgr.size
  rw [size_alloc] at hsz
  refine ⟨⟨h1, by simp; omega⟩, fun j => by rw [World.frozen?_setCell]; exact (old S j h2 hnS).2.trans (h3 j), ⟨v', vo, World.cell?_setCell_same _ _ _ ((old S 0 h2 hnS).1.trans c0), ?_, own_kept_block ho fun g hg => Below.heap_setCell _ _ _ _ (show g ≠ S by omega), ?_, ?_⟩, ?_, hg, ?_⟩
  · rw [World.cell?_setCell_other _ _ _ _ (by simp)]
    exact (old S 1 h2 hnS).1.trans c1
  · refine own_kept_own oo fun g hg => ?_
    have hlt := lt_of_own oo hg
    rw [Below.heap_setCell _ _ _ _ (show g ≠ S by omega), hgr.block g (by rw [size_alloc]; omega) (fun e => sep _ _ e.symm hg rfl), Below.heap_alloc _ _ _ (by omega)]
  · intro g X hg hX
    exact ownb_far hat (fun g' hg' => sep g' X hg' hX) (by have := lt_of_own oo hX; rw [size_alloc]; omega) g hg
  · exact ((hb.alloc hb.size ob).grown hgr (by rw [size_alloc]; omega) (fun q hq => by have := lt_of_own om hq; omega)).setCell h1 _
  · intro j hj
    rcases List.mem_append.1 hj with hj | hj
    · exact hml j hj
    · simp at hj; omega
theorem VisAt.app1 {w0 W W2 : World} {S : Nat} {l : List Obj} {m o : List Nat} {k : Nat} {v v' : Value} (h : VisAt w0 W S l m o) (ob : Go.Obj) (hv : W.cell? ⟨S, 1, none⟩ = some v) (hgr : (W.alloc ob).grownBy W2 v.ownBlock)
    (hat : v'.ownBlock = v.ownBlock ∨ v'.ownBlock = some (W.alloc ob).heap.size) (ho : W2.ownsRow (S + 1) 3 1 v' (o ++ [k]).length (i64s (ordZ (o ++ [k])))) (hg : GoodO l m (o ++ [k])) : VisAt w0 (W2.setCell ⟨S, 1, none⟩ v') S l m (o ++ [k]) := by
  obtain ⟨⟨h1, h2⟩, h3, ⟨vm, vo, c0, c1, om, oo, sep⟩, hb, -, hml⟩ := h
  obtain rfl : vo = v := Option.some.inj (c1.symm.trans hv)
  have old := fun b j (hlt : b < W.heap.size) (hne : vo.ownBlock ≠ some b) => grown_old hgr (b := b) (by omega) (fun e => hne e) j
  have hnS : vo.ownBlock ≠ some S := fun e => by have := lt_of_own oo e; omega
  have hsz := hgr.size
  rw [size_alloc] at hsz
  refine ⟨⟨h1, by simp; omega⟩, fun j => by rw [World.frozen?_setCell]; exact (old S j h2 hnS).2.trans (h3 j), ⟨vm, v', ?_, World.cell?_setCell_same _ _ _ ((old S 1 h2 hnS).1.trans c1), ?_, own_kept_block ho fun g hg => Below.heap_setCell _ _ _ _ (show g ≠ S by omega), ?_⟩, ?_, hg, hml⟩
  · rw [World.cell?_setCell_other _ _ _ _ (by simp)]
    exact (old S 0 h2 hnS).1.trans c0
  · refine own_kept_own om fun g hg => ?_
    have hlt := lt_of_own om hg
    rw [Below.heap_setCell _ _ _ _ (show g ≠ S by omega), hgr.block g (by rw [size_alloc]; omega) (fun e => sep _ _ hg e.symm rfl), Below.heap_alloc _ _ _ (by omega)]
  · intro X g hX hg
    exact (ownb_far hat (fun g' hg' => (sep X g' hX hg').symm) (by have := lt_of_own om hX; rw [size_alloc]; omega) g hg).symm
  · exact ((hb.alloc hb.size ob).grown hgr (by rw [size_alloc]; omega) (fun q hq => by have := lt_of_own oo hq; omega)).setCell h1 _
theorem wait_in {l : List Obj} {ord m : List Nat} {k : Nat} (hk : k < l.length) : waitB l ord m k = (ord.contains k && !m.contains k) := by
  unfold waitB; rw [decide_eq_true hk, Bool.true_and]
theorem met_le {l : List Obj} {m o : List Nat} (h : GoodO l m o) (hm : ∀ k ∈ m, k < l.length) : m.length ≤ l.length := nodup_le _ _ h.2.1 hm
def VisPost (w0 : World) (S : Nat) (l : List Obj) (ord m o : List Nat) (ks : List (Option Nat)) (e : Ending) (w' : World) : Prop :=
  e = .returned (.tuple #[]) ∧ ∃ m1 o1, Vis l ord m o ks m1 o1 ∧ VisAt w0 w' S l m1 o1
theorem visit_none (w0 : World) (S : Nat) (a b : Option Addr) (c d : Nat) (l : List Obj) (ord m o : List Nat) (W : World) (h : VisAt w0 W S l m o) :
    Calls Try.prog 47 #[.pointer (some ⟨S, 0, none⟩), .slice a l.length c, .slice b ord.length d, .int .i64 (-1)] W (VisPost w0 S l ord m o [none]) := by
  have H := Lib.hid h
  clear h
  generalize l.length = n1
  generalize ord.length = n2
  go_enter Try.func47, Try.ntmps47
  go_wp2_with fail
  exact bodyPost_ret (results_none rfl _ _ _) rfl ⟨rfl, m, o, .none (.nil _ _), H.out⟩
set_option maxHeartbeats 1000000 in
theorem visit_skip (w0 : World) (S : Nat) (a b : Option Addr) (c d : Nat) (l : List Obj) (ord m o : List Nat) (k : Nat) (W : World) (hm : l.length ≤ 1000000) (hol : ord.length ≤ 1000000) (ho : Rd w0 b ord.length (i64s (ordZ ord))) (h : VisAt w0 W S l m o) (hk : k < l.length) (hw : waitB l ord m k = false) :
    Calls Try.prog 47 #[.pointer (some ⟨S, 0, none⟩), .slice a l.length c, .slice b ord.length d, .int .i64 (k : Int)] W (VisPost w0 S l ord m o [some k]) := by
  have H := Lib.hid h
  have HV := Lib.hid (Vis.skip (o := o) hw (Vis.nil m o))
  have hml := met_le h.2.2.2.2.1 h.2.2.2.2.2
  obtain ⟨-, -, ⟨vm, vo, c0, -, om, -, -⟩, hb, -, -⟩ := h
  obtain ⟨am, cm, rfl, -⟩ := own_slice om
  have HH1 := Lib.hid (has_any b (ordZ ord) ord.length d (k : Int) W (ho.below hb) (by omega))
  have HH2 := Lib.hid (has_any am (ordZ m) m.length cm (k : Int) W (Rd.of_own om) (by omega))
  rw [ordZ_contains] at HH1 HH2
  rw [wait_in hk] at hw
  generalize ord.contains k = b1 at HH1 hw
  generalize m.contains k = b2 at HH2 hw
  clear om hb ho
  obtain ⟨n1, hn1⟩ : ∃ n, l.length = n := ⟨_, rfl⟩
  obtain ⟨n2, hn2⟩ : ∃ n, ord.length = n := ⟨_, rfl⟩
  obtain ⟨n3, hn3⟩ : ∃ n, m.length = n := ⟨_, rfl⟩
  rw [hn1] at hm hml ⊢
  rw [hn2] at hol HH1 ⊢
  rw [hn3] at HH2 hml c0
  clear hn1 hn2 hn3 hk
  cases b1 with
  | false =>
    go_enter Try.func47, Try.ntmps47
    go_wp2_with fail
    refine HH1.out.mono ?_; rintro e w1 ⟨rfl, rfl⟩
    go_wp2_with fail
    refine HH2.out.mono ?_; rintro e w1 ⟨rfl, rfl⟩
    go_wp2_with fail
    exact bodyPost_ret (results_none rfl _ _ _) rfl ⟨rfl, m, o, HV.out, H.out⟩
  | true =>
    cases b2 with
    | false => cases hw
    | true =>
      go_enter Try.func47, Try.ntmps47
      go_wp2_with fail
      refine HH1.out.mono ?_; rintro e w1 ⟨rfl, rfl⟩
      go_wp2_with fail
      refine HH2.out.mono ?_; rintro e w1 ⟨rfl, rfl⟩
      go_wp2_with fail
      exact bodyPost_ret (results_none rfl _ _ _) rfl ⟨rfl, m, o, HV.out, H.out⟩
set_option maxRecDepth 100000 in
set_option maxHeartbeats 4000000 in
theorem visit1_any (w0 : World) (S : Nat) (a b : Option Addr) (c d : Nat) (l : List Obj) (ord : List Nat) (hl : RdO w0 a l) (hm : l.length ≤ 1000000) (hnm : Named l) (ho : Rd w0 b ord.length (i64s (ordZ ord))) (hol : ord.length ≤ 1000000) (n : Nat) :
    ∀ (m o : List Nat) (k : Nat) (W : World), VisAt w0 W S l m o → waits l ord m ≤ n → k < l.length →
    Calls Try.prog 47 #[.pointer (some ⟨S, 0, none⟩), .slice a l.length c, .slice b ord.length d, .int .i64 (k : Int)] W (VisPost w0 S l ord m o [some k]) := by
  have HL := Lib.hid hl
  have HN := Lib.hid hnm
  have HO := Lib.hid ho
  clear hl hnm ho
  induction n with
  | zero =>
    intro m o k W h hn hk
    refine visit_skip w0 S a b c d l ord m o k W hm hol HO.out h hk ?_
    rw [Bool.eq_false_iff]
    intro hw
    have := waits_add hw
    omega
  | succ n ih =>
    intro met out k W h hn hk
    by_cases hw : waitB l ord met k = true
    · have hn2 : waits l ord (met ++ [k]) ≤ n := by have := waits_add hw; omega
      have HG0 := Lib.hid h.2.2.2.2.1
      have HIH := Lib.hid ih
      have HW := Lib.hid hw
      have HN2 := Lib.hid hn2
      have HK := Lib.hid hk
      have HAT := Lib.hid h
      have hml := met_le h.2.2.2.2.1 h.2.2.2.2.2
      have hmark := h.2.2.2.2.1.mark hw
      have HMARK := Lib.hid hmark
      rw [wait_in hk] at hw
      obtain ⟨hS, hfz, ⟨vm, vo, c0, -, om, -, -⟩, hb, -, -⟩ := h
      have hf0 := hfz 0
      have hwS := hS.2
      have HLTM := Lib.hid (fun g (hg : vm.ownBlock = some g) => lt_of_own om hg)
      have HC0 := Lib.hid c0
      obtain ⟨am, cm, rfl, -⟩ := own_slice om
      have HH1 := Lib.hid (has_any b (ordZ ord) ord.length d (k : Int) W (HO.out.below hb) (by omega))
      have HH2 := Lib.hid (has_any am (ordZ met) met.length cm (k : Int) W (Rd.of_own om) (by omega))
      rw [ordZ_contains] at HH1 HH2
      have h1 : ord.contains k = true := by cases e : ord.contains k with | true => rfl | false => rw [e] at hw; cases hw
      have h2 : met.contains k = false := by cases e : met.contains k with | false => rfl | true => rw [e] at hw; simp at hw
      rw [h1] at HH1
      rw [h2] at HH2
      have HOM := Lib.hid om
      obtain ⟨B, off, rfl, hc⟩ := (HL.out.below hb).at_ hk
      have hxm := List.getElem_mem hk
      have hnn := HN.out _ hxm
      generalize hx : l[k] = x at hc hnn hxm
      have HX := Lib.hid hx
      have HXM := Lib.hid hxm
      have HNN := Lib.hid hnn
      have hnl := hnn.2.1
      obtain ⟨m, hlm⟩ : ∃ m, l.length = m := ⟨_, rfl⟩
      have HLM := Lib.hid hlm
      rw [hlm] at hk hml
      have hm2 := hm
      rw [hlm] at hm2
      obtain ⟨q, hq⟩ : ∃ q, x.needs.length = q := ⟨_, rfl⟩
      rw [hq] at hnl
      have HQ := Lib.hid hq
      have HFI := Lib.hid (fun n W (hW : RdO W (some ⟨B, off, none⟩) l) => rfind_any (some ⟨B, off, none⟩) l c n W hW hm)
      rw [hlm] at HFI HIH ⊢
      obtain ⟨n2, hn2'⟩ : ∃ n, ord.length = n := ⟨_, rfl⟩
      have HO2 := Lib.hid hn2'
      rw [hn2'] at HH1 HIH ⊢
      obtain ⟨i0', hz⟩ := info_parts infoInt
      have HI := Lib.hid hz
      clear hw hn hn2 hlm hq hx hxm hnn hb om hfz h1 h2 hn2' ih hmark hz hc hS
      go_enter Try.func47, Try.ntmps47
      go_wp2_with fail
      refine HH1.out.mono ?_; rintro e w1 ⟨rfl, rfl⟩
      go_wp2_with fail
      refine HH2.out.mono ?_; rintro e w1 ⟨rfl, rfl⟩
      go_wp2_with (at_builtin; refine wpList_append_own_at _ rfl _ _ 26 rfl (S + 1) 3 i0' (.int .i64 0) 1 8 Try.underlying26 HI.out.1 HI.out.2.1 HI.out.2.2.1 HI.out.2.2.2 rfl (by decide) (.slice am met.length cm) met.length _ rfl (HOM.out.alloc _) ⟨_, 0, none⟩ 1 1 [.int .i64 (k : Int)] rfl rfl (cell_one_new _ _ _) (fun x hx => by simp at hx; subst hx; rfl) (by unfold maxLen; omega) (by omega) (by simp; omega) ?_; intro v' w3 hown' hgrow3 hnil3 hat3; obtain ⟨a', c', rfl, hl'⟩ := own_slice hown'; have hbo := grown_old hgrow3 (b := S) (by omega) (fun e => by have := HLTM.out S e; omega) 0; have hb0 := hbo.1.trans HC0.out; have hb1 := hbo.2.trans hf0; have HOW := Lib.hid hown'; clear hnil3 hown' hbo)
      have HAT1 := Lib.hid (HAT.out.app0 _ HC0.out hgrow3 hat3 (by have := HOW.out; simpa [ordZ, i64s] using this) HMARK.out HK.out)
      clear hat3 hgrow3 hb0 hb1 c0 hf0 HOW HH1 HH2 HOM HLTM HC0 HAT hwS
      go_loopw [10] (fun i wr => ∃ (j : Nat) (m1 o1 : List Nat), i = .int .i64 j ∧ j ≤ q ∧ Hid (Vis l ord (met ++ [k]) out ((needsI l k).take j) m1 o1) ∧ Hid (VisAt w0 wr S l m1 o1)) (fun i _ => q - (intOf i).toNat)
      case atStart => exact ⟨0, met ++ [k], out, rfl, by omega, Lib.hid (by rw [List.take_zero]; exact Vis.nil _ _), HAT1⟩
      case round =>
        obtain ⟨j, m1, o1, rfl, hj, HV, HB⟩ := hrel
        have hb := HB.out.2.2.2.1
        have hlx := HL.out.below hb
        obtain ⟨B', off', e', hc⟩ := hlx.at_ HK.out
        cases e'
        replace hc := Eq.mp (congrArg (Cells7 wr B (off + k * 7)) HX.out) hc
        obtain ⟨-, g1, -⟩ := hc
        rw [HQ.out] at g1
        by_cases hjq : j < q
        · have hjn : j < x.needs.length := by rw [HQ.out]; exact hjq
          obtain ⟨nb, noff, hne, -, hnc⟩ := (hlx.2 x HXM.out).at_ hjn
          rw [txs_get x.needs j hjn] at hnc
          have htk := needsI_take l k x HK.out HX.out j hjn
          generalize x.needs[j] = nm at hnc htk
          have HTK := Lib.hid htk
          have HF := Lib.hid (HFI.out nm wr hlx)
          rw [hne] at g1
          clear htk hlx hb hne
          cases hf : fidx l nm with
          | none =>
            rw [findO_none hf] at HF
            have HV2 := Lib.hid (show Vis l ord (met ++ [k]) out ((needsI l k).take (j + 1)) m1 o1 by rw [HTK.out, hf]; exact HV.out.snoc (.none (.nil _ _)))
            have HC := Lib.hid (visit_none w0 S (some ⟨B, off, none⟩) b c d l ord m1 o1 wr HB.out)
            rw [HLM.out, HO2.out] at HC
            clear hf
            go_wp2_with fail
            refine HF.out.mono ?_; rintro e w2 ⟨rfl, rfl⟩
            go_wp2_with fail
            refine HC.out.mono ?_; rintro e w2 ⟨rfl, m2, o2, hv, hbg⟩
            have HV3 := Lib.hid (show Vis l ord (met ++ [k]) out ((needsI l k).take (j + 1)) m2 o2 by obtain ⟨rfl, rfl⟩ := Vis.det hv (.none (.nil _ _)); exact HV2.out)
            have HB2 := Lib.hid hbg
            clear hv hbg hnc g1
            go_wp2_with fail
            go_roundw
            case rel => exact ⟨j + 1, m2, o2, by go_num, by omega, HV3, HB2⟩
            case measure => simp [intOf]; omega
          | some k1 =>
            rw [findO_some hf] at HF
            have hk1 := fidx_lt hf
            have hwn : waits l ord m1 ≤ n := Nat.le_trans (waits_mono HV.out.sub) HN2.out
            have HC := Lib.hid (HIH.out m1 o1 k1 wr HB.out hwn (by rw [← HLM.out]; exact hk1))
            have HTK2 := Lib.hid (show (needsI l k).take (j + 1) = (needsI l k).take j ++ [some k1] by rw [HTK.out, hf])
            clear hf hk1 hwn
            go_wp2_with fail
            refine HF.out.mono ?_; rintro e w2 ⟨rfl, rfl⟩
            go_wp2_with fail
            refine HC.out.mono ?_; rintro e w2 ⟨rfl, m2, o2, hv, hbg⟩
            have HV3 := Lib.hid (show Vis l ord (met ++ [k]) out ((needsI l k).take (j + 1)) m2 o2 by rw [HTK2.out]; exact HV.out.snoc hv)
            have HB2 := Lib.hid hbg
            clear hv hbg hnc g1
            go_wp2_with fail
            go_roundw
            case rel => exact ⟨j + 1, m2, o2, by go_num, by omega, HV3, HB2⟩
            case measure => simp [intOf]; omega
        · have hall := needsI_all l k x HK.out HX.out j (by rw [HQ.out]; omega)
          have hv := HV.out
          rw [hall] at hv
          have hfin : Vis l ord met out [some k] m1 (o1 ++ [k]) := .go HW.out hv (.nil _ _)
          have HFIN := Lib.hid hfin
          have HG1 := Lib.hid (HG0.out.vis hfin)
          have hol1 := HB.out.2.2.2.2.1.le
          rw [HLM.out] at hol1
          obtain ⟨hS, hfz, ⟨vm, vo, -, c1, -, oo, -⟩, -, -, -⟩ := HB.out
          have hf1 := hfz 1
          have hwS := hS.2
          have HLTO := Lib.hid (fun g (hg : vo.ownBlock = some g) => lt_of_own oo hg)
          have HC1 := Lib.hid c1
          obtain ⟨ao, co, rfl, -⟩ := own_slice oo
          have HOO := Lib.hid oo
          clear hall hv hfin hlx hb hfz oo hS
          go_wp2_with (at_builtin; refine wpList_append_own_at _ rfl _ _ 26 rfl (S + 1) 3 i0' (.int .i64 0) 1 8 Try.underlying26 HI.out.1 HI.out.2.1 HI.out.2.2.1 HI.out.2.2.2 rfl (by decide) (.slice ao o1.length co) o1.length _ rfl (HOO.out.alloc _) ⟨_, 0, none⟩ 1 1 [.int .i64 (k : Int)] rfl rfl (cell_one_new _ _ _) (fun x hx => by simp at hx; subst hx; rfl) (by unfold maxLen; omega) (by omega) (by simp; omega) ?_; intro v' w3 hown' hgrow3 hnil3 hat3; obtain ⟨a', c', rfl, hl'⟩ := own_slice hown'; have hbo := grown_old hgrow3 (b := S) (by omega) (fun e => by have := HLTO.out S e; omega) 1; have hb0 := hbo.1.trans HC1.out; have hb1 := hbo.2.trans hf1; have HOW := Lib.hid hown'; clear hnil3 hown' hbo)
          go_end0
          exact ⟨rfl, m1, o1 ++ [k], HFIN.out, HB.out.app1 _ HC1.out hgrow3 hat3 (by have := HOW.out; simpa [ordZ, i64s] using this) (HG1.out)⟩
    · exact visit_skip w0 S a b c d l ord met out k W hm hol HO.out h hk ((Bool.not_eq_true _).mp hw)
end Go.Proofs.Ytfneikphgmjfbaa
