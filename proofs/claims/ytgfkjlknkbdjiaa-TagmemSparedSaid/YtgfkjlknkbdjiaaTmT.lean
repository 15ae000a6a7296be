/- The document's memory: a byte is set: contract. -/
import Derived.Test.YtgfkjlknkbdjiaaTmS
namespace Go.Proofs.Ytgfkjlknkbdjiaa
set_option linter.unusedVariables false
set_option linter.unusedSimpArgs false
open Go.Joins Go.ChangeShapes Go.WideShapes Go.ChangeAt Go.RowKit Go.Deep

theorem infoCell : (Try.prog.info? 89).map (fun i => (i.zero, i.size, i.bytes)) = some (some (.agg #[.int .u64 0, .int .u8 0]), 2, 16) := by kernel_rfl
theorem cellsC_snoc (l : List (Nat × Nat)) (x y : Nat) : cellsC (l ++ [(x, y)]) = cellsC l ++ [.int .u64 (x : Int), .int .u8 (y : Int)] := by unfold cellsC; rw [List.flatMap_append]; rfl
theorem mks_filter (l : List Nat) (g : Nat) : (l.map (32 * ·)).filter (· != 32 * g) = (l.filter (· != g)).map (32 * ·) := by
  induction l with
  | nil => rfl
  | cons x r ih =>
    rw [List.map_cons]
    by_cases e : x = g
    · subst e
      rw [List.filter_cons_of_neg (by simp), List.filter_cons_of_neg (by simp), ih]
    · rw [List.filter_cons_of_pos (by simp; omega), List.filter_cons_of_pos (by simpa using e), List.map_cons, ih]
/-- the cells behind a byte's setting -/
def setC (cs : List (Nat × Nat)) (a b : Nat) : List (Nat × Nat) := if b = 0 then cs.filter (fun p => p.1 != a) else cs.filter (fun p => p.1 != a) ++ [(a, b)]
theorem look_filter (cs : List (Nat × Nat)) (a x : Nat) : lookF (cs.filter (fun p => p.1 != a)) x = if x = a then 0 else lookF cs x := by
  induction cs with
  | nil => simp [lookF]
  | cons p r ih =>
    by_cases e : p.1 = a
    · rw [List.filter_cons_of_neg (by simpa using e), ih]
      by_cases hx : x = a
      · rw [if_pos hx, if_pos hx]
      · rw [if_neg hx, if_neg hx]
        conv => rhs; unfold lookF
        rw [if_neg (by omega)]
    · rw [List.filter_cons_of_pos (by simpa using e)]
      conv => lhs; unfold lookF
      rw [ih]
      by_cases hx : x = a
      · rw [if_pos hx, if_neg (by omega), if_pos hx]
      · rw [if_neg hx, if_neg hx]
        conv => rhs; unfold lookF
theorem look_append (cs : List (Nat × Nat)) (a b x : Nat) (h : lookF cs x = 0 ∨ x ≠ a) (hn : x = a → ∀ p ∈ cs, p.1 ≠ a) : lookF (cs ++ [(a, b)]) x = if x = a then b else lookF cs x := by
  induction cs with
  | nil =>
    show (if a = x then b else 0) = if x = a then b else 0
    by_cases e : x = a
    · rw [if_pos e, if_pos e.symm]
    · rw [if_neg e, if_neg (fun q => e q.symm)]
  | cons p r ih =>
    rw [List.cons_append]
    conv => lhs; unfold lookF
    by_cases e : x = a
    · have h1 := hn e p List.mem_cons_self
      rw [if_neg (by rw [e]; exact h1), ih (h.imp (fun h => by unfold lookF at h; rwa [if_neg (by rw [e]; exact h1)] at h) id) (fun q y hy => hn q y (List.mem_cons_of_mem _ hy)), if_pos e, if_pos e]
    · rw [ih (Or.inr e) (fun q => absurd q e), if_neg e, if_neg e]
      conv => rhs; unfold lookF
theorem CellsOk.set {cs : List (Nat × Nat)} {m : Mm} (h : CellsOk cs m) {a b : Nat} (ha : a / 256 ∈ m.pgs) (hb : b < 256) : CellsOk (setC cs a b) (wr1 m a b) := by
  have hne : ∀ p ∈ cs.filter (fun p => p.1 != a), p ∈ cs ∧ p.1 ≠ a := fun p hp => by have := List.mem_filter.1 hp; exact ⟨this.1, by simpa using this.2⟩
  have hnd : ((cs.filter (fun p => p.1 != a)).map Prod.fst).Nodup := List.Nodup.sublist (List.Sublist.map _ List.filter_sublist) h.nd
  unfold setC
  by_cases h0 : b = 0
  · rw [if_pos h0]
    refine ⟨fun x => ?_, fun p hp => h.in_ p (hne p hp).1, hnd⟩
    rw [look_filter, h.look]
    show _ = if x = a then b else m.by_ x
    rw [h0]
  · rw [if_neg h0]
    refine ⟨fun x => ?_, fun p hp => ?_, ?_⟩
    · rw [look_append _ a b x (if e : x = a then Or.inl (by rw [look_filter, if_pos e]) else Or.inr e) (fun _ p hp => (hne p hp).2), look_filter, h.look]
      show _ = if x = a then b else m.by_ x
      by_cases e : x = a
      · rw [if_pos e, if_pos e]
      · rw [if_neg e, if_neg e, if_neg e]
    · rcases List.mem_append.1 hp with q | q
      · exact h.in_ p (hne p q).1
      · rw [List.mem_singleton] at q
        subst q
        exact ⟨ha, hb⟩
    · rw [List.map_append]
      refine List.nodup_append.2 ⟨hnd, by simp, fun x hx y hy e => ?_⟩
      obtain ⟨p, hp, rfl⟩ := List.mem_map.1 hx
      simp at hy
      exact (hne p hp).2 (e.trans hy)
theorem own_kp2 {W W' : World} {B k n : Nat} {e : TypeId} {S : Nat → Prop} {v : Value} {xs : List Value} (h : W.ownsRow B e k v n xs) (hk : KP W.heap.size S W W') (hS : ∀ q, B ≤ q → ¬ S q) : W'.ownsRow B e k v n xs := by
  refine ⟨h.1, ?_⟩
  rcases h.2 with h0 | ⟨g, cap, cur, e1, hg, hb, r⟩
  · exact Or.inl h0
  · refine Or.inr ⟨g, cap, cur, e1, hg, ?_, r⟩
    have hl : g < W.heap.size := (Array.getElem?_eq_some_iff.1 hb).1
    exact (hk.block g hl (hS g hg)).trans hb
theorem own_rd {w : World} {B k n c : Nat} {e : TypeId} {a : Option Addr} {xs : List Value} (h : w.ownsRow B e k (.slice a n c) n xs) : Rd w a (n * k) xs := by
  refine ⟨h.1, fun hn => ?_⟩
  rcases h.2 with ⟨e, h0⟩ | ⟨g, cap, cur, hv, _, hg, hnc, _, hs, htake⟩
  · subst h0; simp at hn
  · cases hv
    refine ⟨g, 0, rfl, (Array.getElem?_eq_some_iff.1 hg).1, fun j hj => ?_⟩
    rw [Nat.zero_add]
    exact h.cellAt j hj
theorem rdF_own {W0 W' : World} {F : Nat → Prop} {R B k n c : Nat} {e : TypeId} {a : Option Addr} {xs : List Value} (h : W'.ownsRow B e k (.slice a n c) n xs) (hB : W0.heap.size ≤ B) (hR : R < W0.heap.size) : RdF W' (fun q => F q ∨ (W0.heap.size ≤ q ∧ q < W'.heap.size)) R a (n * k) xs :=
  ⟨own_rd h, fun hn => by
    rcases h.2 with ⟨e, h0⟩ | ⟨g, cap, cur, hv, hg1, hg, -⟩
    · subst h0; simp at hn
    · cases hv
      have hl : g < W'.heap.size := (Array.getElem?_eq_some_iff.1 hg).1
      exact ⟨g, 0, rfl, Or.inr ⟨by omega, hl⟩, by omega⟩⟩
theorem own_base {W : World} {B B' k n : Nat} {e : TypeId} {v : Value} {xs : List Value} (h : W.ownsRow B e k v n xs) (hB : B' ≤ B) : W.ownsRow B' e k v n xs := by
  refine ⟨h.1, ?_⟩
  rcases h.2 with h0 | ⟨g, cap, cur, e1, hg, r⟩
  · exact Or.inl h0
  · exact Or.inr ⟨g, cap, cur, e1, Nat.le_trans hB hg, r⟩
theorem gran_len (l : List Nat) : (l.flatMap fun p => (List.range 8).map fun j => 8 * p + j).length = l.length * 8 := by
  induction l with
  | nil => rfl
  | cons x r ih => rw [List.flatMap_cons, List.length_append, ih, List.length_cons, List.length_map, List.length_range]; omega
theorem mks_len {m : Mm} (h : Okm m) : m.mks.length ≤ 2048 := by
  have h1 := nodup_len (xs := m.mks) (ys := m.pgs.flatMap fun p => (List.range 8).map fun j => 8 * p + j) (h.mr.imp (fun hab e => by omega)) (fun x hx => by
    exact List.mem_flatMap.2 ⟨x / 8, h.ml x hx, List.mem_map.2 ⟨x % 8, List.mem_range.2 (by omega), by omega⟩⟩)
  rw [gran_len] at h1
  have := h.len
  have := h.bud
  omega
/-- what is behind a byte's setting -/
theorem rset_fin {W : World} {R : Nat} {F : Nat → Prop} {m : Mm} {na ca ka : Option Addr} {nc cc kc : Nat} {cs : List (Nat × Nat)} (h : RmO W R F m na ca ka nc cc kc cs) {a b : Nat} (ha : a / 256 ∈ m.pgs) (hb : b < 256)
    (U : World) (xs : List (Nat × Nat)) (va : Option Addr) (vc : Nat) (ra : Option Addr) (rcc : Nat) (hk : KP W.heap.size (· = R) W U) (hxs : xs = setC cs a b)
    (hbx : BoxN U R #[.slice na m.pgs.length nc, .slice va xs.length vc, .slice ra (m.mks.filter (· != a / 32)).length rcc, .int .i64 (m.bud : Int)])
    (ho : U.ownsRow W.heap.size 89 2 (.slice va xs.length vc) xs.length (cellsC xs))
    (hm : U.ownsRow W.heap.size 39 1 (.slice ra (m.mks.filter (· != a / 32)).length rcc) (m.mks.filter (· != a / 32)).length (u64s ((m.mks.filter (· != a / 32)).map (32 * ·)))) :
    RmAt U R (fun q => F q ∨ (W.heap.size ≤ q ∧ q < U.heap.size)) (wr1 m a b) ∧ KP W.heap.size F W U := by
  have hR : R < W.heap.size := h.lt _ h.fr
  refine ⟨⟨na, va, ra, nc, vc, rcc, xs, okm_wr1 h.ok ha hb, hbx, ?_, rdF_own ho (Nat.le_refl _) hR, ?_, by rw [hxs]; exact h.co.set ha hb, Or.inl h.fr, fun q hq => ?_⟩, hk.mono (Nat.le_refl _) (fun q _ e => by rw [show q = R from e]; exact h.fr)⟩
  · exact (h.rn.blocks (fun q hf hne => hk.block q (h.lt q hf) hne) hk.size).mono (fun q hf => Or.inl hf)
  · have := rdF_own (F := F) (R := R) hm (Nat.le_refl _) hR
    rw [Nat.mul_one] at this
    exact this
  · rcases hq with hq | hq
    · exact Nat.lt_of_lt_of_le (h.lt q hq) hk.size
    · exact hq.2
set_option maxRecDepth 20000 in
set_option maxHeartbeats 1000000 in
theorem rset_any (W : World) (R : Nat) (F : Nat → Prop) (m : Mm) (h : RmAt W R F m) (a b : Nat) (ha : a / 256 ∈ m.pgs) (hb : b < 256) :
    Calls Try.prog 67 #[.pointer (some ⟨R, 0, none⟩), .int .u64 (a : Int), .int .u8 (b : Int)] W fun e W' => e = .returned (.tuple #[]) ∧ RmAt W' R (fun q => F q ∨ (W.heap.size ≤ q ∧ q < W'.heap.size)) (wr1 m a b) ∧ KP W.heap.size F W W' := by
  obtain ⟨na, ca, ka, nc, cc, kc, cs, h⟩ := h
  have HFIN := Lib.hid (rset_fin h ha hb)
  have hlen := h.co.len h.ok
  have hnk : m.mks.length ≤ 100000 := Nat.le_trans (mks_len h.ok) (by decide)
  have hal := h.ok.pl _ ha
  have HBOX := Lib.hid h.box
  have HRC := Lib.hid h.rc.1
  have HRK := Lib.hid h.rk
  have HRL := Lib.hid (h.lt _ h.fr)
  have HFL := Lib.hid h.lt
  obtain ⟨n, hn⟩ : ∃ n, cs.length = n := ⟨_, rfl⟩
  obtain ⟨np, hnp⟩ : ∃ n, m.pgs.length = n := ⟨_, rfl⟩
  obtain ⟨nk, hnk0⟩ : ∃ n, m.mks.length = n := ⟨_, rfl⟩
  obtain ⟨bd, hbd⟩ : ∃ n, m.bud = n := ⟨_, rfl⟩
  rw [hn, hnp, hnk0, hbd] at HBOX
  rw [hnp, hbd] at HFIN
  rw [hnk0] at HRK hnk
  rw [hn] at hlen
  have HN := Lib.hid hn
  have hp32 : ((32 * (a / 32) : Nat) : Int) = (a : Int) - (a : Int) % 32 := by omega
  have w1 : IntKind.u64.wrap ((a : Int) - (a : Int) % 32) = (a : Int) - (a : Int) % 32 := by rw [IntKind.wrap_u64]; omega
  clear h hn hnp hnk0 hbd ha
  go_enter Try.func67, Try.ntmps67
  go_wp2_with fail
  go_loopw [6, 7] (fun ov i wr => ∃ (k : Nat) (xs : List (Nat × Nat)) (v : Value), ov = v ∧ i = .int .i64 k ∧ k ≤ n ∧ xs.length ≤ k ∧ Hid (xs = (cs.take k).filter (fun p => p.1 != a)) ∧ Hid (wr.ownsRow W.heap.size 89 2 v xs.length (cellsC xs)) ∧ Hid (Below W.heap.size W wr)) (fun _ i _ => n - (intOf i).toNat)
  case atStart => exact ⟨0, [], _, rfl, rfl, by omega, by simp, Lib.hid (by simp), Lib.hid (World.ownsRow_nil _ _ _ _), Lib.hid (Below.refl _ _)⟩
  case round =>
    obtain ⟨k, xs, v, rfl, rfl, hk, hxk, HX, HO, HB⟩ := hrel
    have hsz := HB.out.size
    obtain ⟨va, vc, rfl, -⟩ := own_slice HO.out
    have cR : wr.cell? ⟨R, 1, none⟩ = some (.slice ca n cc) := (boxN_below HBOX.out HB.out).cell 1
    by_cases hlt : k < n
    · have hkl : k < cs.length := by rw [HN.out]; exact hlt
      obtain ⟨b1, o1, e1, d0, d1⟩ := rd_cell (HRC.out.below HB.out) hkl
      subst e1
      have htk : (cs.take (k + 1)).filter (fun p => p.1 != a) = (cs.take k).filter (fun p => p.1 != a) ++ (if cs[k].1 = a then [] else [cs[k]]) := by
        rw [List.take_succ_eq_append_getElem hkl, List.filter_append]
        congr 1
        by_cases e : cs[k].1 = a
        · rw [if_pos e]; simp [e]
        · rw [if_neg e]; simp [e]
      obtain ⟨⟨x, y⟩, hx⟩ : ∃ x, cs[k] = x := ⟨_, rfl⟩
      rw [hx] at d0 d1 htk
      simp only [] at d0 d1 htk
      have kk0 : (0 : Int) ≤ (k : Int) := by omega
      have kk1 : (k : Int) < (n : Int) := by omega
      have HTK := Lib.hid htk
      clear hx hkl htk
      by_cases hxp : x = a
      · have hxi : ((x : Int) != (a : Int)) = false := by simp [hxp]
        have hxi2 : (x : Int) = (a : Int) := by omega
        have HX2 : Hid (xs = (cs.take (k + 1)).filter (fun p => p.1 != a)) := Lib.hid (by rw [HTK.out, if_pos hxp, List.append_nil]; exact HX.out)
        clear hxp
        go_wp2_with fail
        go_roundw
        case rel => exact ⟨k + 1, xs, _, rfl, by go_num, by omega, by omega, HX2, HO, HB⟩
        case measure => simp [intOf]; omega
      · have hxi : ((x : Int) != (a : Int)) = true := by simp; omega
        have hxi2 : ¬ (x : Int) = (a : Int) := by omega
        have HX2 : Hid (xs ++ [(x, y)] = (cs.take (k + 1)).filter (fun p => p.1 != a)) := Lib.hid (by rw [HTK.out, if_neg hxp, HX.out])
        have hlen2 : (xs ++ [(x, y)]).length = xs.length + 1 := by simp
        have HLEN := Lib.hid hlen2
        clear hxp hlen2
        go_wp2_with (at_builtin; refine wpList_appE 35 89 (.agg #[.int .u64 0, .int .u8 0]) 2 16 Try.underlying35 infoCell rfl (by decide) (by decide) _ rfl _ _ rfl W.heap.size (.slice va xs.length vc) xs.length (cellsC xs) rfl (HO.out.alloc _) (some ⟨wr.heap.size, 0, none⟩) 1 1 [.int .u64 (x : Int), .int .u8 (y : Int)] rfl (Rd.lit wr #[.int .u64 (x : Int), .int .u8 (y : Int)] 89 (by show 2 ≤ maxLen; decide)) (fun u hu => by simp at hu; rcases hu with hu | hu <;> (subst hu; rfl)) (by omega) (by rw [size_alloc]; exact Nat.le_succ_of_le hsz) ?_; intro a1 c1 W1 hown1 hgrow1 hat1)
        have HO1 := Lib.hid (show W1.ownsRow W.heap.size 89 2 (.slice a1 (xs.length + 1) c1) (xs.length + 1) (cellsC (xs ++ [(x, y)])) by rw [cellsC_snoc]; exact hown1)
        have HB1 := Lib.hid (grownB (bTrans HB.out (bAlloc (Below.refl _ _) (.cells #[.int .u64 (x : Int), .int .u8 (y : Int)] 89))) hgrow1 (fun r e => (HO.out.lt r e).1))
        clear hown1 hgrow1 hat1
        go_wp2_with fail
        go_roundw
        case rel => exact ⟨k + 1, xs ++ [(x, y)], _, rfl, by go_num, by omega, by rw [HLEN.out]; omega, HX2, by rw [HLEN.out]; exact HO1, HB1⟩
        case measure => simp [intOf]; omega
    · obtain rfl : n = k := by omega
      have hxl : xs = cs.filter (fun p => p.1 != a) := by
        rw [HX.out, List.take_of_length_le (by rw [HN.out]; exact Nat.le_refl _)]
      have HXL := Lib.hid hxl
      clear hxl
      by_cases hb0 : b = 0
      · subst hb0
        have HSC : Hid (xs = setC cs a 0) := Lib.hid (by unfold setC; rw [if_pos rfl]; exact HXL.out)
        have HBX7 := Lib.hid (boxN_below HBOX.out HB.out)
        have t1 : wr.cell? ⟨R, 1, none⟩ = some (.slice ca n cc) := HBX7.out.cell 1
        have z1 : wr.frozen? ⟨R, 1, none⟩ = false := HBX7.out.frozen 1
        have hRs : R < wr.heap.size := HBX7.out.lt
        go_upto_region 9 with fail
        have HBX5 := Lib.hid (show BoxN _ _ #[.slice na np nc, .slice va xs.length vc, .slice ka nk kc, .int .i64 (bd : Int)] from HBX7.out.set 1 (.slice va xs.length vc))
        have HK5 : Hid (KP W.heap.size (· = R) W (wr.setCell ⟨R, 1, none⟩ (.slice va xs.length vc))) := Lib.hid ((KP.of_below (· = R) HB.out).set ⟨R, 1, none⟩ (Or.inr rfl) _)
        have HO5 := Lib.hid (own_kp2 HO.out (KP.set1 wr R 1 (.slice va xs.length vc)) (by intro q hq e; have h1 : q = R := e; have := HRL.out; omega))
        obtain ⟨U5, hU5⟩ : ∃ U, wr.setCell ⟨R, 1, none⟩ (.slice va xs.length vc) = U := ⟨_, rfl⟩
        rw [hU5] at HBX5 HK5 HO5 ⊢
        clear hU5 t1 z1
        have hs5 := HK5.out.size
        have HRK5 := Lib.hid (HRK.out.blocks (W' := U5) (fun q hf hne => HK5.out.block q (HFL.out q hf) hne) hs5)
        have k2 : U5.cell? ⟨R, 2, none⟩ = some (.slice ka nk kc) := HBX5.out.cell 2
        have HT := Lib.hid (take_any ka nk kc (m.mks.map (32 * ·)) (32 * (a / 32)) U5 HRK5.out.1 hnk)
        rw [mks_filter, List.length_map, hp32] at HT
        obtain ⟨nk', hnk'⟩ : ∃ z, (m.mks.filter (· != a / 32)).length = z := ⟨_, rfl⟩
        rw [hnk'] at HT
        have HNK' := Lib.hid hnk'
        clear hnk'
        go_wp2_with fail
        refine HT.out.mono ?_; rintro e U6 ⟨⟨ra, rcc, rfl, hown⟩, hb6⟩
        have HBX6 := Lib.hid (boxN_below HBX5.out hb6)
        have hs6 := hb6.size
        have t2 : U6.cell? ⟨R, 2, none⟩ = some (.slice ka nk kc) := HBX6.out.cell 2
        have z2 : U6.frozen? ⟨R, 2, none⟩ = false := HBX6.out.frozen 2
        have HK6 : Hid (KP W.heap.size (· = R) W U6) := Lib.hid (HK5.out.below hb6 hs5)
        have HO6 := Lib.hid (own_kp2 HO5.out (KP.of_below (fun _ => False) hb6) (fun _ _ => id))
        have HM6 := Lib.hid hown
        clear hown hb6 k2
        go_wp2_with fail
        have HK7 : Hid (KP W.heap.size (· = R) W (U6.setCell ⟨R, 2, none⟩ (.slice ra nk' rcc))) := Lib.hid (HK6.out.set ⟨R, 2, none⟩ (Or.inr rfl) _)
        have HBX8 := Lib.hid (show BoxN (U6.setCell ⟨R, 2, none⟩ (.slice ra nk' rcc)) R #[.slice na np nc, .slice va xs.length vc, .slice ra nk' rcc, .int .i64 (bd : Int)] from HBX6.out.set 2 (.slice ra nk' rcc))
        have HO7 := Lib.hid (own_kp2 HO6.out (KP.set1 U6 R 2 (.slice ra nk' rcc)) (by intro q hq e; have h1 : q = R := e; have := HRL.out; omega))
        have HM7 := Lib.hid (own_kp2 HM6.out (KP.set1 U6 R 2 (.slice ra nk' rcc)) (by intro q hq e; have h1 : q = R := e; have := HRL.out; omega))
        obtain ⟨U7, hU7⟩ : ∃ U, U6.setCell ⟨R, 2, none⟩ (.slice ra nk' rcc) = U := ⟨_, rfl⟩
        rw [hU7] at HK7 HBX8 HO7 HM7 ⊢
        clear hU7 t2 z2
        go_end0
        exact ⟨rfl, HFIN.out U7 xs va vc ra rcc HK7.out HSC.out (by rw [HNK'.out]; exact HBX8.out) HO7.out (by rw [HNK'.out]; exact (own_base HM7.out (by omega)))⟩
      · have hbi : ¬ (b : Int) = 0 := by omega
        have hbi2 : ((b : Int) != 0) = true := by simp; omega
        have HSC : Hid (xs ++ [(a, b)] = setC cs a b) := Lib.hid (by unfold setC; rw [if_neg hb0, HXL.out])
        have hlen2 : (xs ++ [(a, b)]).length = xs.length + 1 := by simp
        have HLEN := Lib.hid hlen2
        clear hlen2
        go_upto_region 8 with (at_builtin; refine wpList_appE 35 89 (.agg #[.int .u64 0, .int .u8 0]) 2 16 Try.underlying35 infoCell rfl (by decide) (by decide) _ rfl _ _ rfl W.heap.size (.slice va xs.length vc) xs.length (cellsC xs) rfl (HO.out.alloc _) (some ⟨wr.heap.size, 0, none⟩) 1 1 [.int .u64 (a : Int), .int .u8 (b : Int)] rfl (Rd.lit wr #[.int .u64 (a : Int), .int .u8 (b : Int)] 89 (by show 2 ≤ maxLen; decide)) (fun u hu => by simp at hu; rcases hu with hu | hu <;> (subst hu; rfl)) (by omega) (by rw [size_alloc]; exact Nat.le_succ_of_le hsz) ?_; intro a2 c2 W2 hown2 hgrow2 hat2)
        have HO2 := Lib.hid (show W2.ownsRow W.heap.size 89 2 (.slice a2 (xs.length + 1) c2) (xs.length + 1) (cellsC (xs ++ [(a, b)])) by rw [cellsC_snoc]; exact hown2)
        have HB2 := Lib.hid (grownB (bTrans HB.out (bAlloc (Below.refl _ _) (.cells #[.int .u64 (a : Int), .int .u8 (b : Int)] 89))) hgrow2 (fun r e => (HO.out.lt r e).1))
        clear hown2 hgrow2 hat2
        have HBX7 := Lib.hid (boxN_below HBOX.out HB2.out)
        have t1 : W2.cell? ⟨R, 1, none⟩ = some (.slice ca n cc) := HBX7.out.cell 1
        have z1 : W2.frozen? ⟨R, 1, none⟩ = false := HBX7.out.frozen 1
        have hRs : R < W2.heap.size := HBX7.out.lt
        go_upto_region 9 with fail
        have HBX5 := Lib.hid (show BoxN _ _ #[.slice na np nc, .slice a2 (xs.length + 1) c2, .slice ka nk kc, .int .i64 (bd : Int)] from HBX7.out.set 1 (.slice a2 (xs.length + 1) c2))
        have HK5 : Hid (KP W.heap.size (· = R) W (W2.setCell ⟨R, 1, none⟩ (.slice a2 (xs.length + 1) c2))) := Lib.hid ((KP.of_below (· = R) HB2.out).set ⟨R, 1, none⟩ (Or.inr rfl) _)
        have HO5 := Lib.hid (own_kp2 HO2.out (KP.set1 W2 R 1 (.slice a2 (xs.length + 1) c2)) (by intro q hq e; have h1 : q = R := e; have := HRL.out; omega))
        obtain ⟨U5, hU5⟩ : ∃ U, W2.setCell ⟨R, 1, none⟩ (.slice a2 (xs.length + 1) c2) = U := ⟨_, rfl⟩
        rw [hU5] at HBX5 HK5 HO5 ⊢
        clear hU5 t1 z1
        have hs5 := HK5.out.size
        have HRK5 := Lib.hid (HRK.out.blocks (W' := U5) (fun q hf hne => HK5.out.block q (HFL.out q hf) hne) hs5)
        have k2 : U5.cell? ⟨R, 2, none⟩ = some (.slice ka nk kc) := HBX5.out.cell 2
        have HT := Lib.hid (take_any ka nk kc (m.mks.map (32 * ·)) (32 * (a / 32)) U5 HRK5.out.1 hnk)
        rw [mks_filter, List.length_map, hp32] at HT
        obtain ⟨nk', hnk'⟩ : ∃ z, (m.mks.filter (· != a / 32)).length = z := ⟨_, rfl⟩
        rw [hnk'] at HT
        have HNK' := Lib.hid hnk'
        clear hnk'
        go_wp2_with fail
        refine HT.out.mono ?_; rintro e U6 ⟨⟨ra, rcc, rfl, hown⟩, hb6⟩
        have HBX6 := Lib.hid (boxN_below HBX5.out hb6)
        have hs6 := hb6.size
        have t2 : U6.cell? ⟨R, 2, none⟩ = some (.slice ka nk kc) := HBX6.out.cell 2
        have z2 : U6.frozen? ⟨R, 2, none⟩ = false := HBX6.out.frozen 2
        have HK6 : Hid (KP W.heap.size (· = R) W U6) := Lib.hid (HK5.out.below hb6 hs5)
        have HO6 := Lib.hid (own_kp2 HO5.out (KP.of_below (fun _ => False) hb6) (fun _ _ => id))
        have HM6 := Lib.hid hown
        clear hown hb6 k2
        go_wp2_with fail
        have HK7 : Hid (KP W.heap.size (· = R) W (U6.setCell ⟨R, 2, none⟩ (.slice ra nk' rcc))) := Lib.hid (HK6.out.set ⟨R, 2, none⟩ (Or.inr rfl) _)
        have HBX8 := Lib.hid (show BoxN (U6.setCell ⟨R, 2, none⟩ (.slice ra nk' rcc)) R #[.slice na np nc, .slice a2 (xs.length + 1) c2, .slice ra nk' rcc, .int .i64 (bd : Int)] from HBX6.out.set 2 (.slice ra nk' rcc))
        have HO7 := Lib.hid (own_kp2 HO6.out (KP.set1 U6 R 2 (.slice ra nk' rcc)) (by intro q hq e; have h1 : q = R := e; have := HRL.out; omega))
        have HM7 := Lib.hid (own_kp2 HM6.out (KP.set1 U6 R 2 (.slice ra nk' rcc)) (by intro q hq e; have h1 : q = R := e; have := HRL.out; omega))
        obtain ⟨U7, hU7⟩ : ∃ U, U6.setCell ⟨R, 2, none⟩ (.slice ra nk' rcc) = U := ⟨_, rfl⟩
        rw [hU7] at HK7 HBX8 HO7 HM7 ⊢
        clear hU7 t2 z2
        go_end0
        exact ⟨rfl, HFIN.out U7 (xs ++ [(a, b)]) a2 c2 ra rcc HK7.out HSC.out (by rw [HNK'.out, HLEN.out]; exact HBX8.out) (by rw [HLEN.out]; exact HO7.out) (by rw [HNK'.out]; exact (own_base HM7.out (by omega)))⟩
end Go.Proofs.Ytgfkjlknkbdjiaa
