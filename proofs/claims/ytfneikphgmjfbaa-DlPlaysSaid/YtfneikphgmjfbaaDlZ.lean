/- Scope, the program's and the document's; when two states are the same: contracts. -/
import Derived.Test.YtfneikphgmjfbaaDlV2
namespace Go.Proofs.Ytfneikphgmjfbaa
set_option linter.unusedVariables false
set_option linter.unusedSimpArgs false
open Go.Joins Go.ChangeShapes Go.WideShapes Go.ChangeAt Go.RowKit Go.Deep

theorem closO_lt {l : List Obj} {name : List UInt8} : ∀ k ∈ closO l name, k < l.length := by
  intro k hk
  unfold closO at hk
  cases h : closR l name with
  | inr n => rw [h] at hk; simp at hk
  | inl o =>
    rw [h] at hk
    obtain ⟨s, r, -, -, -, hO, -⟩ := closR_fst h
    exact hO.2 k hk
theorem nameAt_eq {l : List Obj} {k : Nat} (h : k < l.length) : nameAt l k = l[k].name := by
  unfold nameAt
  rw [List.getElem?_eq_getElem h]
theorem OwnSt.app1 {B : Nat} {W W' : World} {v1 v2 v : Value} {n1 n2 n : Nat} {x1 x2 x : List Int} (h : OwnSt B W v1 v2 n1 n2 x1 x2) (hgr : W.grownBy W' v1.ownBlock) (ho : W'.ownsRow B 3 1 v n (i64s x)) (hat : v.ownBlock = v1.ownBlock ∨ v.ownBlock = some W.heap.size) : OwnSt B W' v v2 n n2 x x2 :=
  ⟨ho, kept_ne h.2.1 hgr h.2.2, fun g hg h2 => by
    rcases hat with e | e
    · exact h.2.2 g (e ▸ hg) h2
    · rw [e] at hg; cases hg; have := (h.2.1.lt _ h2).2; omega⟩
theorem once_add (o : List Nat) (k : Nat) : onceL (o ++ [k]) = if (onceL o).contains k = true then onceL o else onceL o ++ [k] := by rw [onceL_snoc]; rfl
/-- the orders of the first k, one behind the other -/
def flatO (l : List Obj) (op : List Nat) (k : Nat) : List Nat := (op.take k).flatMap fun i => closO l (nameAt l i)
theorem flatO_snoc (l : List Obj) (op : List Nat) (k : Nat) (h : k < op.length) : flatO l op (k + 1) = flatO l op k ++ closO l (nameAt l op[k]) := by
  unfold flatO
  rw [List.take_succ_eq_append_getElem h, List.flatMap_append]
  simp
theorem flatO_lt {l : List Obj} {op : List Nat} {k : Nat} : ∀ j ∈ flatO l op k, j < l.length := by
  intro j hj
  unfold flatO at hj
  obtain ⟨i, -, h⟩ := List.mem_flatMap.1 hj
  exact closO_lt j h
theorem flatO_all (l : List Obj) (op : List Nat) : flatO l op op.length = op.flatMap fun i => closO l (nameAt l i) := by unfold flatO; rw [List.take_length]
theorem flatO_le (l : List Obj) (op : List Nat) (k : Nat) (h : k ≤ op.length) : (flatO l op k).length ≤ k * l.length := by
  induction k with
  | zero => simp [flatO]
  | succ k ih =>
    rw [flatO_snoc l op k h, List.length_append, Nat.succ_mul]
    have := ih (by omega)
    have := closO_le l (nameAt l op[k])
    omega
def ScopePost (w : World) (l : List Obj) (op : List Nat) (e : Ending) (w' : World) : Prop :=
  ∃ a' c', e = .returned (.slice a' (scopeL l op).length c') ∧ Rd w' a' (scopeL l op).length (i64s (ordZ (scopeL l op))) ∧ Below w.heap.size w w'
set_option maxHeartbeats 2000000 in
set_option maxRecDepth 100000 in
theorem scope_any (a : Option Addr) (l : List Obj) (c : Nat) (a1 a2 : Option Addr) (n1 c1 c2 : Nat) (op : List Nat) (w : World) (hl : RdO w a l) (hm : l.length ≤ 100) (hnm : Named l) (ho : Rd w a2 op.length (i64s (ordZ op))) (hop : ∀ k ∈ op, k < l.length) (hon : op.length ≤ 100) :
    Calls Try.prog 18 #[.slice a l.length c, .agg #[.slice a1 n1 c1, .slice a2 op.length c2]] w (ScopePost w l op) := by
  have HL := Lib.hid hl
  have HOP := Lib.hid hop
  have HON := Lib.hid (fun W (hW : Below w.heap.size w W) => once_any a2 c2 op W (ho.below hW) (by omega) (fun k hk => by have := hop k hk; omega))
  have HCL := Lib.hid (fun nm W (hW : RdO W a l) (hn : nm.length ≤ maxLen) => closure_any a l c nm W hW (by omega) hnm hn)
  have HNM := Lib.hid (fun k (h : k < l.length) => (hnm _ (List.getElem_mem h)).1)
  have hole := onceL_le op
  clear hl hnm ho hop
  obtain ⟨n2, hn2⟩ : ∃ n, op.length = n := ⟨_, rfl⟩
  obtain ⟨n, hn⟩ : ∃ n, (onceL op).length = n := ⟨_, rfl⟩
  obtain ⟨ml, hml⟩ : ∃ n, l.length = n := ⟨_, rfl⟩
  rw [hn2] at hon hole ⊢
  rw [hn] at hole HON
  rw [hml] at hm HCL ⊢
  have HN := Lib.hid hn
  have HML := Lib.hid hml
  rw [hn2] at HON
  clear hn hml hn2
  go_enter Try.func18, Try.ntmps18
  go_wp2_with fail
  refine (HON.out _ (bAlloc (Below.refl _ _) _)).mono ?_; rintro e w1 ⟨a3, c3, rfl, ho1, hb1⟩
  have R1 := Lib.hid (Rd.of_own ho1)
  have B1 := Lib.hid (bTrans (bAlloc (Below.refl _ _) _) hb1)
  clear ho1 hb1 HON
  go_wp2_with fail
  go_loopw [5, 15] (fun v i wr => ∃ (k : Nat) (a4 : Option Addr) (m4 c4 : Nat), v = .slice a4 m4 c4 ∧ i = .int .i64 k ∧ k ≤ n ∧ Hid ((flatO l (onceL op) k).length = m4) ∧ m4 ≤ k * 100 ∧ Hid (wr.ownsRow w1.heap.size 3 1 (.slice a4 m4 c4) m4 (i64s (ordZ (flatO l (onceL op) k)))) ∧ Hid (Below w1.heap.size w1 wr)) (fun _ i _ => n - (intOf i).toNat)
  case atStart => exact ⟨0, none, 0, 0, rfl, rfl, by omega, Lib.hid rfl, by omega, Lib.hid (World.ownsRow_nil _ _ _ _), Lib.hid (Below.refl _ _)⟩
  case round =>
    obtain ⟨k, a4, m4, c4, rfl, rfl, hk, HM, hmk, HO, HB⟩ := hrel
    by_cases hlt : k < n
    · have hkl : k < (onceL op).length := by rw [HN.out]; exact hlt
      obtain ⟨g, off, rfl, -, hc⟩ := (R1.out.below HB.out).at_ hlt
      rw [ordZ_get _ k hkl] at hc
      have hfs := flatO_snoc l (onceL op) k hkl
      obtain ⟨s, hs⟩ : ∃ s, (onceL op)[k] = s := ⟨_, rfl⟩
      have hsl : s < l.length := by
        have h1 := List.getElem_mem hkl
        rw [hs] at h1
        exact HOP.out s ((mem_onceL op s).1 h1)
      rw [hs, nameAt_eq hsl] at hfs
      rw [hs] at hc
      have HFS := Lib.hid hfs
      have rdl := (HL.out.below B1.out).below HB.out
      obtain ⟨gl, fl, rfl, hcl⟩ := rdl.at_ hsl
      have hnl := HNM.out s hsl
      have HC := Lib.hid (HCL.out l[s].name wr rdl hnl)
      obtain ⟨x0, -⟩ := hcl
      generalize l[s].name = nm at *
      have hsm : s < ml := by rw [← HML.out]; exact hsl
      have s0 : decide ((0 : Int) ≤ (s : Int)) = true := decide_eq_true (by omega)
      have s1 : decide ((s : Int) < (ml : Int)) = true := decide_eq_true (by omega)
      have ss0 : (0 : Int) ≤ (s : Int) := by omega
      have ss1 : (s : Int) < (ml : Int) := by omega
      have hbs := HB.out.size
      have hmul : k * 100 ≤ n * 100 := Nat.mul_le_mul_right _ hk
      clear hfs hs hkl rdl hsl
      go_wp2_with fail
      refine HC.out.mono ?_; rintro e w3 hp
      obtain ⟨a5, c5, rfl, hr5, hb5⟩ := clos_vals hp
      have hle5 := closO_le l nm
      rw [HML.out] at hle5
      obtain ⟨co, hco⟩ : ∃ o, closO l nm = o := ⟨_, rfl⟩
      rw [hco] at HFS hr5 hle5 ⊢
      obtain ⟨n5, hn5⟩ : ∃ n, co.length = n := ⟨_, rfl⟩
      rw [hn5] at hr5 hle5 ⊢
      have HN5 := Lib.hid hn5
      have R5 := Lib.hid hr5
      have B5 := Lib.hid hb5
      have HO5 := Lib.hid (own_below HO.out hb5)
      have hz5 := hb5.size
      clear hp hr5 hb5 hn5 hco
      go_wp2_with (at_builtin; refine wpList_app _ rfl _ _ rfl w1.heap.size (.slice a4 m4 c4) m4 (ordZ (flatO l (onceL op) k)) rfl HO5.out a5 n5 c5 (ordZ co) rfl R5.out (by omega) (by omega) ?_; intro a' c' w4 hown4 hgrow4 hat4; have HO4 := Lib.hid hown4; have HB4 := Lib.hid (grownB (bTrans HB.out B5.out) hgrow4 (fun q hq => (HO5.out.lt q hq).1)); clear hown4 hgrow4 hat4)
      go_roundw
      case rel => exact ⟨k + 1, a', m4 + n5, c', rfl, by go_num, by omega, Lib.hid (by rw [HFS.out, List.length_append, HM.out, HN5.out]), by omega, Lib.hid (by rw [HFS.out, ordZ_append]; exact HO4.out), HB4⟩
      case measure => simp [intOf]; omega
    · have hke : k = (onceL op).length := by rw [HN.out]; omega
      have hfa := flatO_all l (onceL op)
      rw [← hke] at hfa
      have hsc : onceL (flatO l (onceL op) k) = scopeL l op := by rw [hfa]; exact once_flat _ op
      have hmul : k * 100 ≤ n * 100 := Nat.mul_le_mul_right _ hk
      have HO2 := Lib.hid (once_any a4 c4 (flatO l (onceL op) k) wr (by rw [HM.out]; exact Rd.of_own HO.out) (by rw [HM.out]; omega) (fun j hj => by have := flatO_lt (l := l) j hj; have := HML.out; omega))
      rw [hsc, HM.out] at HO2
      clear hfa hsc hke
      go_wp2_with fail
      refine HO2.out.mono ?_; rintro e w5 ⟨a5, c5, rfl, ho5, hb5⟩
      have HB5 := Lib.hid (bTrans (bTrans B1.out HB.out) hb5)
      have R5 := Lib.hid (Rd.of_own ho5)
      clear ho5 hb5
      go_wp2_with fail
      go_ret
      exact ⟨a5, c5, rfl, R5.out, HB5.out⟩
set_option maxHeartbeats 2000000 in
set_option maxRecDepth 100000 in
theorem rscope_any (a : Option Addr) (l : List Obj) (c : Nat) (a2 : Option Addr) (c2 : Nat) (op : List Nat) (w : World) (hl : RdO w a l) (hm : l.length ≤ 100) (hnm : Named l) (ho : Rd w a2 op.length (i64s (ordZ op))) (hop : ∀ k ∈ op, k < l.length) (hon : op.length ≤ 100) :
    Calls Try.prog 20 #[.slice a l.length c, .slice a2 op.length c2] w (ScopePost w l op) := by
  have HL := Lib.hid hl
  have HOP := Lib.hid hop
  have HO2 := Lib.hid ho
  have HCL := Lib.hid (fun nm W (hW : RdO W a l) => rclosure_own a l c nm W hW (by omega) hnm)
  clear hl hnm ho hop
  obtain ⟨n2, hn2⟩ : ∃ n, op.length = n := ⟨_, rfl⟩
  obtain ⟨ml, hml⟩ : ∃ n, l.length = n := ⟨_, rfl⟩
  rw [hn2] at hon HO2 ⊢
  rw [hml] at hm HCL ⊢
  have HN := Lib.hid hn2
  have HML := Lib.hid hml
  clear hml hn2
  go_enter Try.func20, Try.ntmps20
  go_wp2_with fail
  go_loopw [5, 6] (fun v i wr => ∃ (k : Nat) (a4 : Option Addr) (m4 c4 : Nat), v = .slice a4 m4 c4 ∧ i = .int .i64 k ∧ k ≤ n2 ∧ Hid ((onceL (flatO l op k)).length = m4) ∧ m4 ≤ k * 100 ∧ Hid (wr.ownsRow w.heap.size 3 1 (.slice a4 m4 c4) m4 (i64s (ordZ (onceL (flatO l op k))))) ∧ Hid (Below w.heap.size w wr)) (fun _ i _ => n2 - (intOf i).toNat)
  case atStart => exact ⟨0, none, 0, 0, rfl, rfl, by omega, Lib.hid rfl, by omega, Lib.hid (World.ownsRow_nil _ _ _ _), Lib.hid (Below.refl _ _)⟩
  case round =>
    obtain ⟨k, a4, m4, c4, rfl, rfl, hk, HM, hmk, HO, HB⟩ := hrel
    by_cases hlt : k < n2
    · have hkl : k < op.length := by rw [HN.out]; exact hlt
      obtain ⟨g, off, rfl, -, hc⟩ := (HO2.out.below HB.out).at_ hlt
      rw [ordZ_get _ k hkl] at hc
      have hfs := flatO_snoc l op k hkl
      obtain ⟨s, hs⟩ : ∃ s, op[k] = s := ⟨_, rfl⟩
      have hsl : s < l.length := by
        have h1 := List.getElem_mem hkl
        rw [hs] at h1
        exact HOP.out s h1
      rw [hs, nameAt_eq hsl] at hfs
      rw [hs] at hc
      have HFS := Lib.hid hfs
      have rdl := HL.out.below HB.out
      obtain ⟨gl, fl, rfl, hcl⟩ := rdl.at_ hsl
      have HC := Lib.hid (HCL.out l[s].name wr rdl)
      obtain ⟨x0, -⟩ := hcl
      generalize l[s].name = nm at *
      have hsm : s < ml := by rw [← HML.out]; exact hsl
      have ss0 : (0 : Int) ≤ (s : Int) := by omega
      have ss1 : (s : Int) < (ml : Int) := by omega
      have hbs := HB.out.size
      have hmul : k * 100 ≤ n2 * 100 := Nat.mul_le_mul_right _ hk
      clear hfs hs hkl rdl hsl
      go_wp2_with fail
      refine HC.out.mono ?_; rintro e w3 hp
      obtain ⟨a5, c5, rfl, hr5, hb5⟩ := closO_valsO hp
      have hle5 := closO_le l nm
      rw [HML.out] at hle5
      obtain ⟨co, hco⟩ : ∃ o, closO l nm = o := ⟨_, rfl⟩
      rw [hco] at HFS hr5 hle5 ⊢
      obtain ⟨n5, hn5⟩ : ∃ n, co.length = n := ⟨_, rfl⟩
      rw [hn5] at hr5 hle5 ⊢
      have HN5 := Lib.hid hn5
      have HB5 := Lib.hid (bTrans HB.out hb5)
      have HO5 := Lib.hid (show OwnSt w.heap.size w3 (.slice a4 m4 c4) (.slice a5 n5 c5) m4 n5 (ordZ (onceL (flatO l op k))) (ordZ co) from own_apart HB.out.size HO.out hb5 hr5)
      have hz5 := HB5.out.size
      clear hp hr5 hb5 hn5 hco HO HB
      go_wp2_with fail
      go_loopw [5, 10] (fun v i wr => ∃ (q : Nat) (a6 : Option Addr) (m6 c6 : Nat), v = .slice a6 m6 c6 ∧ i = .int .i64 q ∧ q ≤ n5 ∧ Hid ((onceL (flatO l op k ++ co.take q)).length = m6) ∧ m6 ≤ k * 100 + q ∧ Hid (OwnSt w.heap.size wr (.slice a6 m6 c6) (.slice a5 n5 c5) m6 n5 (ordZ (onceL (flatO l op k ++ co.take q))) (ordZ co)) ∧ Hid (Below w.heap.size w wr)) (fun _ i _ => n5 - (intOf i).toNat)
      case atStart => exact ⟨0, a4, m4, c4, rfl, rfl, by omega, Lib.hid (by simpa using HM.out), by omega, Lib.hid (by simpa using HO5.out), HB5⟩
      case round =>
        obtain ⟨q, a6, m6, c6, rfl, rfl, hq, HM6, hmq, HO6, HB6⟩ := hrel
        by_cases hql : q < n5
        · have hqc : q < co.length := by rw [HN5.out]; exact hql
          have r5 := Rd.of_own HO6.out.2.1
          obtain ⟨g5, f5, rfl, -, hc5⟩ := r5.at_ hql
          rw [ordZ_get co q hqc] at hc5
          have htk := List.take_succ_eq_append_getElem hqc
          generalize co[q] = y at hc5 htk
          have hon := once_add (flatO l op k ++ co.take q) y
          rw [List.append_assoc, ← htk] at hon
          have HHA := Lib.hid (has_any a6 (ordZ (onceL (flatO l op k ++ co.take q))) m6 c6 (y : Int) wr (Rd.of_own HO6.out.1) (by omega))
          rw [ordZ_contains] at HHA
          have hz6 := HB6.out.size
          have qq0 : (0 : Int) ≤ (q : Int) := by omega
          have qq1 : (q : Int) < (n5 : Int) := by omega
          cases hin : (onceL (flatO l op k ++ co.take q)).contains y with
          | true =>
            rw [hin] at HHA hon
            rw [if_pos rfl] at hon
            have HON := Lib.hid hon
            clear hon htk r5 hin
            go_wp2_with fail
            refine HHA.out.mono ?_; rintro e w7 ⟨rfl, rfl⟩
            go_wp2_with fail
            go_roundw
            case rel => exact ⟨q + 1, a6, m6, c6, rfl, by go_num, by omega, Lib.hid (by rw [HON.out]; exact HM6.out), by omega, Lib.hid (by rw [HON.out]; exact HO6.out), HB6⟩
            case measure => simp [intOf]; omega
          | false =>
            rw [hin] at HHA hon
            rw [if_neg (by simp)] at hon
            have HON := Lib.hid hon
            clear hon htk r5 hin
            go_wp2_with fail
            refine HHA.out.mono ?_; rintro e w7 ⟨rfl, rfl⟩
            obtain ⟨xs, hxs⟩ : ∃ xs, onceL (flatO l op k ++ co.take q) = xs := ⟨_, rfl⟩
            rw [hxs] at HON HO6 HM6
            have HO7 := Lib.hid (HO6.out.below (bAlloc (Below.refl _ _) (.cells #[.int .i64 (y : Int)] 3)))
            go_wp2_with (at_builtin; refine wpList_app _ rfl _ _ rfl w.heap.size (.slice a6 m6 c6) m6 (ordZ xs) rfl HO7.out.1 _ 1 1 [(y : Int)] rfl (rd_one _ (y : Int) 3) (by omega) (by simp; omega) ?_; intro a8 c8 w8 hown8 hgrow8 hat8; have HB8 := Lib.hid (grownB (bAlloc HB6.out (.cells #[.int .i64 (y : Int)] 3)) hgrow8 (fun g hg => (HO7.out.1.lt g hg).1)); have HO8 := Lib.hid (OwnSt.app1 HO7.out hgrow8 hown8 hat8); clear hown8 hgrow8 hat8)
            go_roundw
            case rel => exact ⟨q + 1, a8, m6 + 1, c8, rfl, by go_num, by omega, Lib.hid (by rw [HON.out, List.length_append, HM6.out]; rfl), by omega, Lib.hid (by rw [HON.out, ordZ_append]; exact HO8.out), HB8⟩
            case measure => simp [intOf]; omega
        · have hqe : co.take q = co := List.take_of_length_le (by rw [HN5.out]; omega)
          have HQ := Lib.hid (show flatO l op k ++ co.take q = flatO l op (k + 1) by rw [hqe, HFS.out])
          clear hqe
          go_wp2_with fail
          go_roundw
          case rel => exact ⟨k + 1, a6, m6, c6, rfl, by go_num, by omega, Lib.hid (by rw [← HQ.out]; exact HM6.out), by omega, Lib.hid (by rw [← HQ.out]; exact HO6.out.1), HB6⟩
          case measure => simp [intOf]; omega
    · have hke : k = op.length := by rw [HN.out]; omega
      have hfa := flatO_all l op
      rw [← hke] at hfa
      have HSC := Lib.hid (show onceL (flatO l op k) = scopeL l op by rw [hfa]; rfl)
      clear hfa hke
      go_wp2_with fail
      go_ret
      have hm4 := HM.out
      rw [HSC.out] at hm4
      subst hm4
      exact ⟨a4, c4, rfl, Rd.of_own (HSC.out ▸ HO.out), HB.out⟩
set_option maxHeartbeats 2000000 in
theorem same_self (a1 a2 b1 b2 : Option Addr) (c1 c2 d1 d2 : Nat) (s : St) (w : World) (hs : RdSt w a1 a2 s) (ht : RdSt w b1 b2 s) (h1 : s.ld.length ≤ 1000) (h2 : s.op.length ≤ 1000) :
    Calls Try.prog 13 #[.agg #[.slice a1 s.ld.length c1, .slice a2 s.op.length c2], .agg #[.slice b1 s.ld.length d1, .slice b2 s.op.length d2]] w fun e w' => e = .returned (.bool true) ∧ Below w.heap.size w w' := by
  have HA := Lib.hid (fun W (hW : Below w.heap.size w W) => numbers_self a1 b1 s.ld.length c1 s.ld.length d1 (ordZ s.ld) W (hs.1.below hW) (ht.1.below hW) (by omega) (by omega))
  have HB := Lib.hid (fun W (hW : Below w.heap.size w W) => numbers_self a2 b2 s.op.length c2 s.op.length d2 (ordZ s.op) W (hs.2.below hW) (ht.2.below hW) (by omega) (by omega))
  obtain ⟨n1, hn1⟩ : ∃ n, s.ld.length = n := ⟨_, rfl⟩
  obtain ⟨n2, hn2⟩ : ∃ n, s.op.length = n := ⟨_, rfl⟩
  rw [hn1] at h1 HA ⊢
  rw [hn2] at h2 HB ⊢
  clear hs ht hn1 hn2
  go_enter Try.func13, Try.ntmps13
  go_wp2_with fail
  refine (HA.out _ (bAlloc (bAlloc (Below.refl _ _) _) _)).mono ?_; rintro e w1 ⟨rfl, hb1⟩
  obtain ⟨⟨x1, x2⟩, ⟨x3, x4⟩, -, -, -, hbw⟩ := two_new (w := w) (W := w1) (x1 := .slice a1 n1 c1) (x2 := .slice a2 n2 c2) (y1 := .slice b1 n1 d1) (y2 := .slice b2 n2 d2) (t := 28) (t' := 32) hb1
  have BW := Lib.hid hbw
  clear hb1 hbw
  go_wp2_with fail
  refine (HB.out _ BW.out).mono ?_; rintro e w2 ⟨rfl, hb2⟩
  have BW2 := Lib.hid (bTrans BW.out hb2)
  clear hb2
  go_wp2_with fail
  go_ret
  exact ⟨rfl, BW2.out⟩
end Go.Proofs.Ytfneikphgmjfbaa
