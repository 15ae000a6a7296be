/- The document's Buckets and Chain: contracts. -/
import Derived.Test.YtniefpdibmpngaaHasE
import Derived.Test.YtniefpdibmpngaaHasN
import Derived.OwnWalk
import Derived.Laws.OwnMore
import Derived.Maps.AppendAt
namespace Go.Proofs.Ytniefpdibmpngaa
set_option linter.unusedVariables false
set_option linter.unusedSimpArgs false
open Go.Joins Go.ChangeShapes Go.WideShapes Go.ChangeAt Go.RowKit

theorem infoInt : (Try.prog.info? 3).map (fun i => (i.zero, i.size, i.bytes)) = some (some (.int .i64 0), 1, 8) := by kernel_rfl
/-- the first k buckets' numbers, and the first k chains' -/
def bucketsZ (l : List Sym) (n k : Nat) : List Int := (List.range k).map fun b => ((nextN l n b 0 : Nat) : Int)
def chainZ (l : List Sym) (n k : Nat) : List Int := (List.range k).map fun j => ((chainN l n j : Nat) : Int)
theorem bucketsZ_len (l : List Sym) (n k : Nat) : (bucketsZ l n k).length = k := by simp [bucketsZ]
theorem chainZ_len (l : List Sym) (n k : Nat) : (chainZ l n k).length = k := by simp [chainZ]
theorem bucketsZ_snoc (l : List Sym) (n k : Nat) : i64s (bucketsZ l n (k + 1)) = i64s (bucketsZ l n k) ++ [.int .i64 ((nextN l n k 0 : Nat) : Int)] := by simp [bucketsZ, i64s, List.range_succ]
theorem chainZ_snoc (l : List Sym) (n k : Nat) : i64s (chainZ l n (k + 1)) = i64s (chainZ l n k) ++ [.int .i64 ((chainN l n k : Nat) : Int)] := by simp [chainZ, i64s, List.range_succ]
theorem bucketsL_z (l : List Sym) (n : Nat) : bucketsL l n 0 = i64s (bucketsZ l n n) := by simp [bucketsL, bucketsZ, i64s]
theorem chainL_z (l : List Sym) (n : Nat) : chainL l n 0 = i64s (chainZ l n l.length) := by simp [chainL, chainZ, i64s]

theorem own_below {w w' : World} {base : Nat} {e : TypeId} {size n : Nat} {v : Value} {xs : List Value} (h : w.ownsRow base e size v n xs) (hb : Below w.heap.size w w') : w'.ownsRow base e size v n xs := by
  obtain ⟨h1, h2⟩ := h
  refine ⟨h1, ?_⟩
  rcases h2 with h2 | ⟨g, cap, cur, hv, hg, hh, r⟩
  · exact Or.inl h2
  · refine Or.inr ⟨g, cap, cur, hv, hg, ?_, r⟩
    have hlt : g < w.heap.size := by
      rcases Nat.lt_or_ge g w.heap.size with h | h
      · exact h
      · rw [Array.getElem?_eq_none h] at hh; cases hh
    rw [hb.block g hlt]; exact hh
set_option maxHeartbeats 1000000 in
theorem buckets_any (a : Option Addr) (l : List Sym) (c n : Nat) (w : World) (hl : RdS w a l) (hm : l.length ≤ 1000000) (hnm : ∀ s ∈ l, s.name.length < 9223372036854775808) (hn : 0 < n) (hn2 : n ≤ 64) :
    Calls Try.prog 17 #[.slice a l.length c, .int .i64 (n : Int)] w fun e w' => ∃ v, e = .returned v ∧ w'.ownsRow w.heap.size 3 1 v n (i64s (bucketsZ l n n)) ∧ Below w.heap.size w w' := by
  have HL := Lib.hid hl
  have HNX := Lib.hid fun k wx (hx : RdS wx a l) => next_any a l c n k 0 wx hx hm hnm hn (by omega) (by omega)
  clear hl hnm
  generalize hlm : l.length = m at *
  have HLM := Lib.hid hlm
  clear hlm
  obtain ⟨i0, hz⟩ := info_parts infoInt
  have HI := Lib.hid hz
  clear hz
  go_enter Try.func17, Try.ntmps17
  go_wp2_with fail
  go_loopw [5, 6] (fun v i wr => ∃ k : Nat, k ≤ n ∧ i = .int .i64 k ∧ Hid (wr.ownsRow w.heap.size 3 1 v k (i64s (bucketsZ l n k))) ∧ Hid (Below w.heap.size w wr)) (fun _ i _ => n - (intOf i).toNat)
  case atStart => exact ⟨0, by omega, rfl, Lib.hid (World.ownsRow_nil _ _ _ _), Lib.hid (Below.refl _ _)⟩
  case round =>
    obtain ⟨k, hk, rfl, HO, HB⟩ := hrel
    by_cases hlt : k < n
    · have hsn := bucketsZ_snoc l n k
      have HSN := Lib.hid hsn
      clear hsn
      go_wp2_with fail
      refine (HNX.out k _ (HL.out.below HB.out)).mono ?_; rintro e w1 ⟨rfl, hb1⟩
      have HB1 := Lib.hid (bTrans HB.out hb1)
      have hown := own_below HO.out hb1
      have hsz := HB1.out.size
      clear hb1
      go_wp2_with ((at_builtin; refine wpList_append_own _ rfl _ _ 31 rfl w.heap.size 3 i0 (.int .i64 0) 1 8 Try.underlying31 HI.out.1 HI.out.2.1 HI.out.2.2.1 HI.out.2.2.2 rfl (by decide) _ _ _ rfl (hown.alloc _) ⟨w1.heap.size, 0, none⟩ 1 1 [.int .i64 ((nextN l n k 0 : Nat) : Int)] rfl rfl (cell_one_new _ _ _) (fun x hx => by simp at hx; subst hx; rfl) (by unfold maxLen; omega) (by omega) (by simp; omega) ?_; intro v' w3 hown' hgrow3 hnil3))
      go_roundw
      case rel => exact ⟨k + 1, by omega, by go_num, Lib.hid (by rw [HSN.out]; simpa [i64s] using hown'), Lib.hid ((HB1.out.alloc hsz _).grown hgrow3 (by simp; omega) (fun g hg => by have := (hown.lt g hg).1; omega))⟩
      case measure => simp [intOf]; try omega
    · obtain rfl : k = n := by omega
      go_wp2_with fail
      go_ret
      exact ⟨_, rfl, HO.out, HB.out⟩
theorem chainN_yes (l : List Sym) (n k : Nat) (h : k < l.length) (hs : shownB l[k] = true) : chainN l n k = nextN l n (ofH l[k].name % n) (k + 1) := by
  unfold chainN; rw [List.getElem?_eq_getElem h]; simp only []; rw [if_pos hs]
theorem chainN_no (l : List Sym) (n k : Nat) (h : k < l.length) (hs : shownB l[k] = false) : chainN l n k = 0 := by
  unfold chainN; rw [List.getElem?_eq_getElem h]; simp only []; rw [if_neg (by rw [hs]; decide)]
theorem wrap_mod_ (q n : Nat) (hn : 0 < n) (hn2 : n < 4294967296) : wrap64 ((q : Int) % (n : Int)) = ((q % n : Nat) : Int) := by
  have h1 : ((q : Int) % (n : Int)) = ((q % n : Nat) : Int) := by simp
  have h2 := Nat.mod_lt q hn
  rw [h1]
  unfold wrap64
  omega
set_option maxHeartbeats 1000000 in
theorem chain_any (a : Option Addr) (l : List Sym) (c n : Nat) (w : World) (hl : RdS w a l) (hm : l.length ≤ 1000000) (hnm : ∀ s ∈ l, s.name.length < 9223372036854775808) (hn : 0 < n) (hn2 : n ≤ 64) :
    Calls Try.prog 18 #[.slice a l.length c, .int .i64 (n : Int)] w fun e w' => ∃ v, e = .returned v ∧ w'.ownsRow w.heap.size 3 1 v l.length (i64s (chainZ l n l.length)) ∧ Below w.heap.size w w' := by
  have HL := Lib.hid hl
  have HNM := Lib.hid hnm
  have HNX := Lib.hid fun b k wx (hx : RdS wx a l) (hk : k ≤ l.length) => next_any a l c n b k wx hx hm hnm hn (by omega) hk
  clear hl hnm
  generalize hlm : l.length = m at *
  have HLM := Lib.hid hlm
  clear hlm
  obtain ⟨i0, hz⟩ := info_parts infoInt
  have HI := Lib.hid hz
  clear hz
  go_enter Try.func18, Try.ntmps18
  go_wp2_with fail
  go_loopw [5, 6] (fun v i wr => ∃ k : Nat, k ≤ m ∧ i = .int .i64 k ∧ Hid (wr.ownsRow w.heap.size 3 1 v k (i64s (chainZ l n k))) ∧ Hid (Below w.heap.size w wr)) (fun _ i _ => m - (intOf i).toNat)
  case atStart => exact ⟨0, by omega, rfl, Lib.hid (World.ownsRow_nil _ _ _ _), Lib.hid (Below.refl _ _)⟩
  case round =>
    obtain ⟨k, hk, rfl, HO, HB⟩ := hrel
    by_cases h : k < m
    · have hkl : k < l.length := by rw [HLM.out]; exact h
      have hsn := chainZ_snoc l n k
      have HSN := Lib.hid hsn
      clear hsn
      obtain ⟨B, o, rfl, hBl, hc⟩ := (HL.out.below HB.out).at_ hkl
      have hlen := HNM.out _ (List.getElem_mem hkl)
      obtain ⟨s, hs⟩ : ∃ s, l[k] = s := ⟨_, rfl⟩
      rw [hs] at hc hlen
      have HS := Lib.hid hs
      have HC := Lib.hid hc
      obtain ⟨h0, h1, h2, h3, h4, h5, h6, h7⟩ := hc
      clear hs
      by_cases hsh : shownB s = true
      · have hcn := chainN_yes l n k hkl (by rw [HS.out]; exact hsh)
        rw [HS.out] at hcn
        go_wp2_with fail
        refine (rshown_sym s _).mono ?_; rintro e w1 ⟨rfl, hb1⟩
        rw [hsh]
        have c1 := HC.out.below hb1
        have HB1 := Lib.hid (bTrans HB.out hb1)
        have hown := own_below HO.out hb1
        have HO1 := Lib.hid hown
        obtain ⟨g0, g1, g2, g3, g4, g5, g6, g7⟩ := c1
        clear h0 h1 h2 h3 h4 h5 h6 h7 hb1 HB HO hown
        have hn4 : ¬ (n : Int) % 4294967296 = 0 := by omega
        go_wp2_with fail
        refine (rof_any s.name _ hlen).mono ?_; rintro e w' ⟨rfl, rfl⟩
        have hlt := ofH_lt s.name
        have hm1 : ((n : Int) % 4294967296) = (n : Int) := by omega
        have wq := wrap_mod_ (ofH s.name) n hn (by omega)
        have WQ := Lib.hid wq
        have HCN := Lib.hid hcn
        clear hcn wq
        generalize ofH s.name = q at *
        go_wp2_with fail
        rw [WQ.out, show ((k : Int) + 1) = ((k + 1 : Nat) : Int) by omega]
        refine (HNX.out (q % n) (k + 1) _ (HL.out.below HB1.out) (by omega)).mono ?_; rintro e w2 ⟨rfl, hb2⟩
        rw [← HCN.out]
        have HB2 := Lib.hid (bTrans HB1.out hb2)
        have hown := own_below HO1.out hb2
        have hsz := HB2.out.size
        clear hb2 HO1 g0 g1 g2 g3 g4 g5 g6 g7 hm1 hn4
        go_wp2_with ((at_builtin; refine wpList_append_own _ rfl _ _ 31 rfl w.heap.size 3 i0 (.int .i64 0) 1 8 Try.underlying31 HI.out.1 HI.out.2.1 HI.out.2.2.1 HI.out.2.2.2 rfl (by decide) _ _ _ rfl (hown.alloc _) ⟨w2.heap.size, 0, none⟩ 1 1 [.int .i64 ((chainN l n k : Nat) : Int)] rfl rfl (cell_one_new _ _ _) (fun x hx => by simp at hx; subst hx; rfl) (by unfold maxLen; omega) (by omega) (by simp; omega) ?_; intro v' w3 hown' hgrow3 hnil3))
        go_roundw
        case rel => exact ⟨k + 1, by omega, by go_num, Lib.hid (by rw [HSN.out]; simpa [i64s] using hown'), Lib.hid ((HB2.out.alloc hsz _).grown hgrow3 (by simp; omega) (fun g hg => by have := (hown.lt g hg).1; omega))⟩
        case measure => simp [intOf]; try omega
      · rw [Bool.not_eq_true] at hsh
        have hcn := chainN_no l n k hkl (by rw [HS.out]; exact hsh)
        have HCN := Lib.hid hcn
        go_wp2_with fail
        refine (rshown_sym s _).mono ?_; rintro e w1 ⟨rfl, hb1⟩
        rw [hsh]
        have HB1 := Lib.hid (bTrans HB.out hb1)
        have hown := own_below HO.out hb1
        have hsz := HB1.out.size
        clear h0 h1 h2 h3 h4 h5 h6 h7 hb1 HB HO hcn
        go_wp2_with ((at_builtin; refine wpList_append_own _ rfl _ _ 31 rfl w.heap.size 3 i0 (.int .i64 0) 1 8 Try.underlying31 HI.out.1 HI.out.2.1 HI.out.2.2.1 HI.out.2.2.2 rfl (by decide) _ _ _ rfl (hown.alloc _) ⟨w1.heap.size, 0, none⟩ 1 1 [.int .i64 0] rfl rfl (cell_one_new _ _ _) (fun x hx => by simp at hx; subst hx; rfl) (by unfold maxLen; omega) (by omega) (by simp; omega) ?_; intro v' w3 hown' hgrow3 hnil3))
        go_roundw
        case rel => exact ⟨k + 1, by omega, by go_num, Lib.hid (by rw [HSN.out, HCN.out]; simpa [i64s] using hown'), Lib.hid ((HB1.out.alloc hsz _).grown hgrow3 (by simp; omega) (fun g hg => by have := (hown.lt g hg).1; omega))⟩
        case measure => simp [intOf]; try omega
    · obtain rfl : k = m := by omega
      go_wp2_with fail
      go_ret
      exact ⟨_, rfl, HO.out, HB.out⟩
end Go.Proofs.Ytniefpdibmpngaa
