/- lookup.All: what is gathered, sorted, compacted: contract. -/
import Derived.Test.YthammjpadbbflaaLkV
import Derived.Test.YthammjpadbbflaaLkU
import Derived.Ground.NamesProg
import Derived.Shelf.Lay
import Derived.Shelf.Sort.Plain
import Derived.Shelf.Slices.CompactS
import Derived.Shelf.Slices.In.SortNone
import Derived.Sort.OwnSorted
namespace Go.Proofs.Ythammjpadbbflaa
set_option linter.unusedVariables false
set_option linter.unusedSimpArgs false
open Go.Proofs Go.Shelf
shelf_lay Lays.n190 Nm 190 at Try as Lk.lays190
shelf_lay Lays.n194 Nm 194 at Try as Lk.lays194
end Go.Proofs.Ythammjpadbbflaa
namespace Go.Proofs.Ythammjpadbbflaa
open Go.Joins Go.ChangeShapes Go.WideShapes Go.ChangeAt Go.RowKit Go.Deep Go.Sort Go.Shelf

def namesO (l : List Sym) : List (List UInt8) := (l.filter shownB).map Sym.name
def namesL (l : List Ob) (sc : List Nat) : List (List UInt8) := sc.flatMap fun k => namesO (symsAt l k)
def sortL (z : List (List UInt8)) : List (List UInt8) := z.mergeSort fun x y => decide (x ≤ y)
def allL (l : List Ob) (sc : List Nat) : List (List UInt8) := Lib.compact (sortL (namesL l sc))
theorem infoStr : (Try.prog.info? 9).map (fun i => (i.zero, i.size, i.bytes)) = some (some (.string ⟨#[]⟩), 1, 16) := by kernel_rfl
theorem namesO_len (l : List Sym) : (namesO l).length ≤ l.length := by
  unfold namesO
  rw [List.length_map]
  exact List.length_filter_le _ _
theorem namesO_take (l : List Sym) (k : Nat) (h : k < l.length) : namesO (l.take (k + 1)) = namesO (l.take k) ++ (if shownB l[k] = true then [l[k].name] else []) := by
  unfold namesO
  rw [List.take_add_one, List.getElem?_eq_getElem h, Option.toList_some, List.filter_append, List.map_append]
  congr 1
  by_cases hs : shownB l[k] = true <;> simp [hs]
theorem namesL_take (l : List Ob) (sc : List Nat) (i : Nat) (h : i < sc.length) : namesL l (sc.take (i + 1)) = namesL l (sc.take i) ++ namesO (symsAt l sc[i]) := by
  unfold namesL
  rw [List.take_add_one, List.getElem?_eq_getElem h, Option.toList_some, List.flatMap_append]
  simp
theorem compact_len (z : List (List UInt8)) : (Lib.compact z).length ≤ z.length := by
  unfold Lib.compact Lib.compactUpTo
  rw [List.length_map]
  exact Nat.le_trans (List.length_filter_le _ _) (by simp)
theorem own_raise {w : World} {B B' : Nat} {e : TypeId} {size n : Nat} {v : Value} {xs : List Value} (h : w.ownsRow B e size v n xs) (hb : B' ≤ B) : w.ownsRow B' e size v n xs := by
  obtain ⟨h1, h2⟩ := h
  refine ⟨h1, ?_⟩
  rcases h2 with h2 | ⟨g, cap, cur, hv, hg, r⟩
  · exact Or.inl h2
  · exact Or.inr ⟨g, cap, cur, hv, Nat.le_trans hb hg, r⟩
theorem sortS_any (B : Nat) (a : Option Addr) (n c : Nat) (z : List (List UInt8)) (w : World) (ho : w.ownsRow B 9 1 (.slice a n c) n (z.map encStr)) (hn : n ≤ 1000000) :
    Calls Try.prog 35 #[.slice a n c] w fun e w' => e = .returned (.tuple #[]) ∧ w'.ownsRow B 9 1 (.slice a n c) n ((sortL z).map encStr) ∧ w.grownBy w' (Value.slice a n c).ownBlock := by
  have hz : z.length = n := by have := ho.1; simpa using this
  have hlen : (sortL z).length = n := by unfold sortL; rw [List.length_mergeSort]; exact hz
  rcases ho.2 with ⟨h1, h2⟩ | ⟨g, cap, cur, h1, hB, hh, hnc, hcm, hcs, ht⟩
  · subst h2
    cases h1
    have hz0 : z = [] := List.eq_nil_of_length_eq_zero hz
    subst hz0
    refine (Any.slices_Sort_string_none Lk.lays190 none 0 w).mono ?_
    rintro e w' ⟨rfl, rfl⟩
    exact ⟨rfl, by simpa [sortL] using ho, ⟨rfl, rfl, rfl, Nat.le_refl _, fun _ _ _ => rfl⟩⟩
  · cases h1
    subst hz
    have hgl : g < w.heap.size := (Array.getElem?_eq_some_iff.1 hh).1
    have hH : Holds encStr w g 0 z.toArray := holds_of_block hh (by simpa using ht)
    refine (Any.slices_Sort_string Lk.lays190 g 0 c z w hH hgl (by omega)).mono ?_
    rintro e w' ⟨rfl, k, os, rfl⟩
    refine ⟨rfl, ⟨by simp [hlen], .inr ⟨g, c, _, rfl, hB, heap_sorted (n := k) (os := os) (sortL z).toArray hh, hnc, hcm, by simp [putCells, hcs], ?_⟩⟩, grownBy_sorted (sortL z).toArray⟩
    have := take_putCells cur (sortL z) (by rw [hcs, hlen]; omega)
    rw [hlen] at this
    rw [Nat.mul_one]
    exact this
theorem compactS_any (B : Nat) (a : Option Addr) (n c : Nat) (z : List (List UInt8)) (w : World) (ho : w.ownsRow B 9 1 (.slice a n c) n (z.map encStr)) (hn : n ≤ 1000000) :
    Calls Try.prog 36 #[.slice a n c] w fun e w' => e = .returned (.slice a (Lib.compact z).length c) ∧ w'.ownsRow B 9 1 (.slice a (Lib.compact z).length c) (Lib.compact z).length ((Lib.compact z).map encStr) ∧ w.grownBy w' (Value.slice a n c).ownBlock := by
  have hz : z.length = n := by have := ho.1; simpa using this
  have hlen := compact_len z
  rcases ho.2 with ⟨h1, h2⟩ | ⟨g, cap, cur, h1, hB, hh, hnc, hcm, hcs, ht⟩
  · subst h2
    cases h1
    have hz0 : z = [] := List.eq_nil_of_length_eq_zero hz
    subst hz0
    refine (Any.slices_Compact_string_empty Lk.lays194 none 0 w).mono ?_
    rintro e w' ⟨rfl, rfl⟩
    exact ⟨rfl, ho, ⟨rfl, rfl, rfl, Nat.le_refl _, fun _ _ _ => rfl⟩⟩
  · cases h1
    subst hz
    have hH : Holds encStr w g 0 z.toArray := holds_of_block hh (by simpa using ht)
    refine (Any.slices_Compact_string Lk.lays194 g 0 c z w hH (by omega) hnc).mono ?_
    rintro e w' ⟨rfl, k, rfl⟩
    have hgr : w.grownBy (putRow encStr (Sort.ahead w k) g 0 (Lib.compact z ++ List.replicate (z.length - (Lib.compact z).length) []).toArray) (some g) := by
      have := grownBy_sorted (w := w) (g := g) (n := k) (os := #[]) (Lib.compact z ++ List.replicate (z.length - (Lib.compact z).length) []).toArray
      rwa [grow_empty] at this
    have hh2 := heap_sorted (n := k) (os := #[]) (Lib.compact z ++ List.replicate (z.length - (Lib.compact z).length) []).toArray hh
    rw [grow_empty] at hh2
    refine ⟨rfl, ⟨by simp, .inr ⟨g, c, _, rfl, hB, hh2, by omega, hcm, by simp [putCells, hcs], ?_⟩⟩, hgr⟩
    have ht := take_putCells cur (Lib.compact z ++ List.replicate (z.length - (Lib.compact z).length) []) (by rw [List.length_append, List.length_replicate, hcs]; omega)
    have := congrArg (List.take (Lib.compact z).length) ht
    rw [List.take_take, Nat.min_eq_left (by simp)] at this
    rw [Nat.mul_one, this, List.map_append, List.take_left' (by simp)]
set_option maxHeartbeats 2000000 in
set_option maxRecDepth 100000 in
/-- what is gathered, and what the sort and the compacting make of it -/
theorem all_any (a b : Option Addr) (c d : Nat) (l : List Ob) (sc : List Nat) (w : World) (hl : RdL w a l) (hs : Rd w b sc.length (ordV sc)) (hsc : ∀ k ∈ sc, k < l.length) (hf : FewO l) (hn : sc.length ≤ 100) :
    Calls Try.prog 17 #[.slice a l.length c, .slice b sc.length d] w fun e w' => ∃ a' c', e = .returned (.slice a' (allL l sc).length c') ∧ w'.ownsRow w.heap.size 9 1 (.slice a' (allL l sc).length c') (allL l sc).length ((allL l sc).map encStr) ∧ Below w.heap.size w w' := by
  have hm10 := hf.1
  obtain ⟨i0, hi1, hi2, hi3, hi4⟩ := info_parts infoStr
  have HI := Lib.hid (And.intro hi1 (And.intro hi2 (And.intro hi3 hi4)))
  have HO := Lib.hid (open_any a b c d l sc w hl hs hsc hn (by omega))
  have HFW := Lib.hid hf
  obtain ⟨n, hn1⟩ : ∃ n, sc.length = n := ⟨_, rfl⟩
  obtain ⟨m, hm1⟩ : ∃ m, l.length = m := ⟨_, rfl⟩
  rw [hn1, hm1] at HO ⊢
  rw [hn1] at hn
  have HN := Lib.hid hn1
  clear hl hs hf hsc hi1 hi2 hi3 hi4 hn1 hm1 hm10
  go_enter Try.func17, Try.ntmps17
  go_wp2_with fail
  refine HO.out.mono ?_; rintro e w1 ⟨a1, c1, Bs, rfl, hp, hb1⟩
  have HP := Lib.hid hp
  have HB1 := Lib.hid hb1
  clear hp hb1 HO
  go_wp2_with fail
  go_loopw [5, 14] (fun v iv wr => ∃ (i n5 : Nat) (a5 : Option Addr) (c5 : Nat), v = .slice a5 n5 c5 ∧ iv = .int .i64 i ∧ i ≤ n ∧ n5 ≤ 40 * i ∧ Hid (wr.ownsRow w1.heap.size 9 1 (.slice a5 n5 c5) n5 ((namesL l (sc.take i)).map encStr)) ∧ Hid (Below w1.heap.size w1 wr)) (fun _ iv _ => n - (intOf iv).toNat)
  case atStart => exact ⟨0, 0, none, 0, rfl, rfl, by omega, by omega, Lib.hid (World.ownsRow_nil _ _ _ _), Lib.hid (Below.refl _ _)⟩
  case round =>
    obtain ⟨i, n5, a5, c5, rfl, rfl, hi, h5, HR, HB⟩ := hrel
    by_cases hlt : i < n
    · have hil : i < sc.length := by rw [HN.out]; exact hlt
      have hp := HP.out.below HB.out
      have hbl : i < Bs.length := by rw [HP.out.len]; exact hil
      obtain ⟨gr, fr, hgr, -, hc⟩ := hp.rd.at_ hil
      rw [ptrV_get Bs i hbl] at hc
      obtain ⟨dd, hd1, hd2, sa, s2, tb, hbx, hsy, hd3, hd4, hd5⟩ := HP.out.pl i hil
      subst hgr
      have hnt := namesL_take l sc i hil
      have h40 := (HFW.out.at_ sc[i]).1
      obtain ⟨o, ho⟩ : ∃ o, sc[i] = o := ⟨_, rfl⟩
      rw [ho] at hnt h40 hbx hsy
      obtain ⟨PB, hPB⟩ : ∃ B, Bs[i] = B := ⟨_, rfl⟩
      rw [hPB] at hc hbx
      obtain ⟨ls, hls⟩ : ∃ ls, symsAt l o = ls := ⟨_, rfl⟩
      rw [hls] at hnt h40 hbx hsy
      obtain ⟨q, hq⟩ : ∃ q, ls.length = q := ⟨_, rfl⟩
      rw [hq] at h40 hbx
      have y1 : wr.cell? ⟨PB, 1, none⟩ = some (.slice sa q s2) := (HB.out.cell (p := ⟨PB, 1, none⟩) hbx.lt).trans (hbx.cell 1)
      have HSY := Lib.hid hsy
      have HNT := Lib.hid hnt
      have HQ := Lib.hid hq
      have HR0 := Lib.hid (show wr.ownsRow w1.heap.size 9 1 (.slice a5 n5 c5) n5 ((namesL l (sc.take i) ++ namesO (ls.take 0)).map encStr) by simpa [namesO] using HR.out)
      have kk0 : (0 : Int) ≤ (i : Int) := by omega
      have kk1 : (i : Int) < (n : Int) := by omega
      clear hd1 hd2 hd3 hd4 hd5
      clear hil hp hbl hbx hsy hnt ho hPB hls hq HR
      go_wp2_with fail
      clear y1 hc
      go_loopw [5, 23] (fun v kv w2 => ∃ (k n5 : Nat) (a5 : Option Addr) (c5 : Nat), v = .slice a5 n5 c5 ∧ kv = .int .i64 k ∧ k ≤ q ∧ n5 ≤ 40 * i + k ∧ Hid (w2.ownsRow w1.heap.size 9 1 (.slice a5 n5 c5) n5 ((namesL l (sc.take i) ++ namesO (ls.take k)).map encStr)) ∧ Hid (Below w1.heap.size w1 w2)) (fun _ kv _ => q - (intOf kv).toNat)
      case atStart => exact ⟨0, n5, a5, c5, rfl, rfl, by omega, by omega, HR0, HB⟩
      case round =>
        clear HR0 HB h5
        obtain ⟨k, n6, a6, c6, rfl, rfl, hk, h6, HR, HB⟩ := hrel
        by_cases hkq : k < q
        · have hkl : k < ls.length := by rw [HQ.out]; exact hkq
          obtain ⟨gs, fs, hgs, -, h8⟩ := (HSY.out.below HB.out).at_ hkl
          subst hgs
          have hot := namesO_take ls k hkl
          obtain ⟨s, hs⟩ : ∃ s, ls[k] = s := ⟨_, rfl⟩
          rw [hs] at h8 hot
          have HSH := Lib.hid (shown_sym s)
          obtain ⟨sh, hsh⟩ : ∃ sh, shownB s = sh := ⟨_, rfl⟩
          rw [hsh] at hot HSH
          obtain ⟨nm, vr, pl, sz, kd, bd, sn, df⟩ := s
          obtain ⟨z0, z1, z2, z3, z4, z5, z6, z7⟩ := h8
          simp only [] at z0 z1 z2 z3 z4 z5 z6 z7 hot HSH
          have HOT := Lib.hid hot
          have jj0 : (0 : Int) ≤ (k : Int) := by omega
          have jj1 : (k : Int) < (q : Int) := by omega
          have hsz := HB.out.size
          clear hs hsh hot hkl
          go_wp2_with fail
          refine (HSH.out _).mono ?_; rintro e w3 ⟨rfl, hb3⟩
          have hb3' := bTrans (bAlloc (Below.refl wr.heap.size wr) (.cells #[.string ⟨nm.toArray⟩, .string ⟨vr.toArray⟩, .int .u64 pl, .int .u64 sz, .int .i64 kd, .int .i64 bd, .int .i64 sn, .bool df] 45)) hb3
          have bx := (BoxN.new wr #[.string ⟨nm.toArray⟩, .string ⟨vr.toArray⟩, .int .u64 pl, .int .u64 sz, .int .i64 kd, .int .i64 bd, .int .i64 sn, .bool df] 45).below hb3 (by simp)
          have u0 : w3.cell? ⟨wr.heap.size, 0, none⟩ = some (.string ⟨nm.toArray⟩) := bx.cell 0
          have HB3 := Lib.hid (bTrans HB.out hb3')
          have HR3 := Lib.hid (own_below HR.out hb3')
          have hsz3 := HB3.out.size
          clear bx hb3 hb3' z0 z1 z2 z3 z4 z5 z6 z7 HR HB
          cases sh with
          | false =>
            have HRN := Lib.hid (show w3.ownsRow w1.heap.size 9 1 (.slice a6 n6 c6) n6 ((namesL l (sc.take i) ++ namesO (ls.take (k + 1))).map encStr) by rw [HOT.out]; simpa using HR3.out)
            go_wp2_with fail
            go_roundw
            case rel => exact ⟨k + 1, n6, a6, c6, rfl, by go_num, by omega, by omega, HRN, HB3⟩
            case measure => simp [intOf]; omega
          | true =>
            have HCN := Lib.hid (cell_one_new w3 (.string ⟨nm.toArray⟩) 9)
            go_wp2_with (at_builtin; refine wpList_append_own_at _ rfl _ _ 30 rfl w1.heap.size 9 i0 (.string ⟨#[]⟩) 1 16 Try.underlying30 HI.out.1 HI.out.2.1 HI.out.2.2.1 HI.out.2.2.2 rfl (by decide) (.slice a6 n6 c6) n6 ((namesL l (sc.take i) ++ namesO (ls.take k)).map encStr) rfl (HR3.out.alloc _) ⟨w3.heap.size, 0, none⟩ 1 1 [.string ⟨nm.toArray⟩] rfl rfl HCN.out (fun x hx => by simp at hx; subst hx; rfl) (by unfold maxLen; omega) (by omega) (by simp; omega) ?_; intro v' w5 hown' hgrow3 hnil3 hat3; obtain ⟨a', c', rfl, -⟩ := own_slice hown'; have HOW := Lib.hid hown'; have HGR := Lib.hid hgrow3; clear hown' hgrow3 hnil3 hat3)
            go_roundw
            case rel =>
              refine ⟨k + 1, n6 + 1, a', c', rfl, by go_num, by omega, by omega, Lib.hid ?_, Lib.hid ?_⟩
              · rw [HOT.out, if_pos trivial, ← List.append_assoc, List.map_append]
                exact HOW.out
              · exact (bAlloc HB3.out _).grown HGR.out (by simp; omega) (fun r hr => (HR3.out.lt r hr).1)
            case measure => simp [intOf]; omega
        · have hkq2 : k = q := by omega
          subst hkq2
          have HRN := Lib.hid (show wr.ownsRow w1.heap.size 9 1 (.slice a6 n6 c6) n6 ((namesL l (sc.take (i + 1))).map encStr) by rw [HNT.out]; have := HR.out; rwa [List.take_of_length_le (l := ls) (i := k) (by have := HQ.out; omega)] at this)
          go_wp2_with fail
          go_roundw
          case rel => exact ⟨i + 1, n6, a6, c6, rfl, by go_num, by omega, by omega, HRN, HB⟩
          case measure => simp [intOf]; omega
    · have hkn : i = n := by omega
      subst hkn
      have hr := HR.out
      rw [List.take_of_length_le (l := sc) (i := i) (by have := HN.out; omega)] at hr
      have HR := Lib.hid hr
      clear hr
      go_wp2_with fail
      refine (sortS_any w1.heap.size a5 n5 c5 _ _ HR.out (by omega)).mono ?_; rintro e w2 ⟨rfl, ho2, hg2⟩
      have HO2 := Lib.hid ho2
      have HB2 := Lib.hid (HB.out.grown hg2 HB.out.size (fun r hr => (HR.out.lt r hr).1))
      clear ho2 hg2
      go_wp2_with fail
      refine (compactS_any w1.heap.size a5 n5 c5 _ _ HO2.out (by omega)).mono ?_; rintro e w3 ⟨rfl, ho3, hg3⟩
      have HB3 := Lib.hid (HB2.out.grown hg3 HB2.out.size (fun r hr => (HO2.out.lt r hr).1))
      have HO3 := Lib.hid ho3
      clear ho3 hg3
      go_wp2_with fail
      go_ret
      exact ⟨a5, c5, rfl, own_raise HO3.out HB1.out.size, bTrans HB1.out HB3.out⟩
end Go.Proofs.Ythammjpadbbflaa
