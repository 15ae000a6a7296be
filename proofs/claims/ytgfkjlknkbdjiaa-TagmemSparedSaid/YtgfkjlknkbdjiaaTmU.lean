/- The document's memory: bytes are written and read; what is wrong with a place: contracts. -/
import Derived.Test.YtgfkjlknkbdjiaaTmT
namespace Go.Proofs.Ytgfkjlknkbdjiaa
set_option linter.unusedVariables false
set_option linter.unusedSimpArgs false
open Go.Joins Go.ChangeShapes Go.WideShapes Go.ChangeAt Go.RowKit Go.Deep

theorem RmAt.mono {W : World} {R : Nat} {F F' : Nat → Prop} {m : Mm} (h : RmAt W R F m) (hf : ∀ b, F b → F' b) (hl : ∀ b, F' b → b < W.heap.size) : RmAt W R F' m := by
  obtain ⟨na, ca, ka, nc, cc, kc, cs, h⟩ := h
  exact ⟨na, ca, ka, nc, cc, kc, cs, h.ok, h.box, h.rn.mono hf, h.rc.mono hf, h.rk.mono hf, h.co, hf _ h.fr, hl⟩
/-- F, and what is new between two worlds -/
def FN (F : Nat → Prop) (W W' : World) : Nat → Prop := fun q => F q ∨ (W.heap.size ≤ q ∧ q < W'.heap.size)
theorem rnew_any (b : Int) (W : World) :
    Calls Try.prog 12 #[.int .i64 b] W fun e W' => (badB b = true ∧ e = .returned (.tuple #[.pointer none, .int .i64 1]) ∧ W = W') ∨ (badB b = false ∧ ∃ R, e = .returned (.tuple #[.pointer (some ⟨R, 0, none⟩), .int .i64 0]) ∧ W.heap.size ≤ R ∧ RmAt W' R (fun q => W.heap.size ≤ q ∧ q < W'.heap.size) (emptyM b.toNat) ∧ Below W.heap.size W W') := by
  by_cases h1 : b < 0
  · have hb : badB b = true := by unfold badB; rw [decide_eq_true h1]; rfl
    have HB := Lib.hid hb
    clear hb
    go_enter Try.func12, Try.ntmps12
    go_wp2_with fail
    go_ret2
    exact Or.inl ⟨HB.out, rfl, rfl⟩
  · by_cases h2 : 256 < b
    · have hb : badB b = true := by unfold badB; rw [decide_eq_true h2]; simp
      have HB := Lib.hid hb
      clear hb
      go_enter Try.func12, Try.ntmps12
      go_wp2_with fail
      go_ret2
      exact Or.inl ⟨HB.out, rfl, rfl⟩
    · have hb : badB b = false := by unfold badB; rw [decide_eq_false h1, decide_eq_false h2]; rfl
      have HB := Lib.hid hb
      have HN : Hid (0 ≤ b ∧ b ≤ 256) := Lib.hid (by omega)
      clear hb
      go_enter Try.func12, Try.ntmps12
      go_wp2_with fail
      go_ret2
      refine Or.inr ⟨HB.out, _, rfl, Nat.le_refl _, ⟨none, none, none, 0, 0, 0, [], okm_empty _ (by have := HN.out; omega), ?_, ⟨Rd.nil _ _, fun h => absurd h (by simp [emptyM])⟩, ⟨Rd.nil _ _, fun h => absurd h (by simp)⟩, ⟨Rd.nil _ _, fun h => absurd h (by simp [emptyM])⟩, ⟨fun a => rfl, by simp, by simp⟩, by simp, fun q hq => hq.2⟩, bAlloc (Below.refl _ _) _⟩
      have h := BoxN.new W #[.slice none 0 0, .slice none 0 0, .slice none 0 0, .int .i64 b] 37
      show BoxN _ _ #[.slice none 0 0, .slice none 0 0, .slice none 0 0, .int .i64 ((b.toNat : Nat) : Int)]
      rw [show ((b.toNat : Nat) : Int) = b by have := HN.out; omega]
      exact h
set_option maxRecDepth 20000 in
theorem rwrite_any (W : World) (R : Nat) (F : Nat → Prop) (m : Mm) (h : RmAt W R F m) (x n c : Nat) (sa : Option Addr) (l : List Nat) (hln : l.length = n) (hin : ∀ i, i < n → (x + i) / 256 ∈ m.pgs) (hn : n ≤ 100000) (hb : ∀ b ∈ l, b < 256) (hs : Rd W sa n (u8s l)) (hne : ∀ g off, sa = some ⟨g, off, none⟩ → ¬ F g) :
    Calls Try.prog 57 #[.pointer (some ⟨R, 0, none⟩), .int .u64 (x : Int), .slice sa n c] W fun e W' => e = .returned (.tuple #[]) ∧ RmAt W' R (FN F W W') (wrL m x l) ∧ KP W.heap.size F W W' := by
  have HIN := Lib.hid hin
  have HLN := Lib.hid hln
  have HBL := Lib.hid hb
  have HS := Lib.hid hs
  have HNE := Lib.hid hne
  have HOK := Lib.hid h.ok
  have HM0 : Hid (RmAt W R (FN F W W) m) := Lib.hid (h.mono (fun b hb => Or.inl hb) (fun b hb => by rcases hb with hb | hb; exact h.lt b hb; exact hb.2))
  have HFL := Lib.hid h.lt
  clear h hln hin hb hs hne
  go_enter Try.func57, Try.ntmps57
  go_wp2_with fail
  go_loopw [6] (fun i wr => ∃ k : Nat, i = .int .i64 k ∧ k ≤ n ∧ Hid (RmAt wr R (FN F W wr) (wrL m x (l.take k))) ∧ Hid (KP W.heap.size F W wr)) (fun i _ => n - (intOf i).toNat)
  case atStart => exact ⟨0, rfl, by omega, HM0, Lib.hid (KP.refl _ _ _)⟩
  case round =>
    clear HM0
    obtain ⟨k, rfl, hk, HM, HK⟩ := hrel
    by_cases hlt : k < n
    · have hkl : k < l.length := by rw [HLN.out]; exact hlt
      have hsr : Rd wr sa n (u8s l) := HK.out.rd HS.out (fun b off h0 e => ⟨by obtain ⟨b', off', e', hl', -⟩ := HS.out.2 h0; rw [e] at e'; cases e'; exact hl', HNE.out b off e⟩)
      obtain ⟨b1, o1, e1, hb1, d0⟩ := hsr.at_ hlt
      subst e1
      rw [u8s_get l k hkl] at d0
      have hpg := HIN.out k hlt
      have hx24 := HOK.out.pl _ hpg
      have hbk := HBL.out _ (List.getElem_mem hkl)
      have htk : wrL m x (l.take (k + 1)) = wr1 (wrL m x (l.take k)) (x + k) l[k] := by
        rw [List.take_succ_eq_append_getElem hkl, wrL_append, List.length_take, HLN.out, show min k n = k by omega]
        rfl
      obtain ⟨y, hy⟩ : ∃ y, l[k] = y := ⟨_, rfl⟩
      rw [hy] at d0 htk hbk
      have HC := Lib.hid (rset_any wr R _ _ HM.out (x + k) y (by rw [(wrL_pgs m x _).1]; exact hpg) hbk)
      rw [← htk] at HC
      have w1 : IntKind.u64.wrap (k : Int) = (k : Int) := by rw [IntKind.wrap_u64]; omega
      have w2 : IntKind.u64.wrap ((x : Int) + (k : Int)) = (x : Int) + (k : Int) := by rw [IntKind.wrap_u64]; omega
      rw [show ((x + k : Nat) : Int) = (x : Int) + (k : Int) by omega] at HC
      have kk0 : (0 : Int) ≤ (k : Int) := by omega
      have kk1 : (k : Int) < (n : Int) := by omega
      have hsz := HK.out.size
      clear hy hpg htk hsr hx24 hbk
      go_wp2_with fail
      refine HC.out.mono ?_; rintro e W3 ⟨rfl, hm3, hk3⟩
      have hs3 := hk3.size
      have HM3 : Hid (RmAt W3 R (FN F W W3) (wrL m x (l.take (k + 1)))) := Lib.hid (hm3.mono (fun q hq => by
        rcases hq with (hq | hq) | hq
        · exact Or.inl hq
        · exact Or.inr ⟨hq.1, by omega⟩
        · exact Or.inr ⟨by omega, hq.2⟩) (fun q hq => by
        rcases hq with hq | hq
        · have := HFL.out q hq; omega
        · exact hq.2))
      have HK3 : Hid (KP W.heap.size F W W3) := Lib.hid (HK.out.trans (hk3.mono hsz (fun q hq e => by
        rcases e with e | e
        · exact e
        · omega)))
      clear hm3 hk3 HM HK
      go_wp2_with fail
      go_roundw
      case rel => exact ⟨k + 1, by go_num, by omega, HM3, HK3⟩
      case measure => simp [intOf]; omega
    · obtain rfl : n = k := by omega
      have hm := HM.out
      rw [List.take_of_length_le (by rw [HLN.out]; exact Nat.le_refl _)] at hm
      have HM3 := Lib.hid hm
      clear hm
      go_wp2_with fail
      go_end0
      exact ⟨rfl, HM3.out, HK.out⟩
theorem u8s_snoc (l : List Nat) (x : Nat) : u8s (l ++ [x]) = u8s l ++ [.int .u8 (x : Int)] := by simp [u8s]
theorem manyB_succ (m : Mm) (x k : Nat) : manyB m x (k + 1) = manyB m x k ++ [m.by_ (x + k)] := by rw [manyB_add]; rfl
set_option maxRecDepth 20000 in
theorem rmany_any (W : World) (R : Nat) (F : Nat → Prop) (m : Mm) (h : RmAt W R F m) (x n : Nat) (hx : x + n ≤ 16777216) (hn : n ≤ 65536) :
    Calls Try.prog 62 #[.pointer (some ⟨R, 0, none⟩), .int .u64 (x : Int), .int .i64 (n : Int)] W fun e W' => (∃ ra rc, e = .returned (.slice ra n rc) ∧ W'.ownsRow W.heap.size 5 1 (.slice ra n rc) n (u8s (manyB m x n))) ∧ Below W.heap.size W W' := by
  have HM := Lib.hid h
  clear h
  go_enter Try.func62, Try.ntmps62
  go_wp2_with fail
  go_loopw [7, 8] (fun ov i wr => ∃ (k : Nat) (v : Value), ov = v ∧ i = .int .i64 k ∧ k ≤ n ∧ Hid (wr.ownsRow W.heap.size 5 1 v k (u8s (manyB m x k))) ∧ Hid (Below W.heap.size W wr)) (fun _ i _ => n - (intOf i).toNat)
  case atStart => exact ⟨0, _, rfl, rfl, by omega, Lib.hid (World.ownsRow_nil _ _ _ _), Lib.hid (Below.refl _ _)⟩
  case round =>
    obtain ⟨k, v, rfl, rfl, hk, HO, HB⟩ := hrel
    have hsz := HB.out.size
    obtain ⟨va, vc, rfl, -⟩ := own_slice HO.out
    by_cases hlt : k < n
    · have HC := Lib.hid (rbyte_any wr R F m (HM.out.below HB.out) (x + k))
      obtain ⟨y, hy⟩ : ∃ y, m.by_ (x + k) = y := ⟨_, rfl⟩
      have hsn := manyB_succ m x k
      rw [hy] at HC hsn
      have HSN := Lib.hid hsn
      have w1 : IntKind.u64.wrap (k : Int) = (k : Int) := by rw [IntKind.wrap_u64]; omega
      have w2 : IntKind.u64.wrap ((x : Int) + (k : Int)) = (x : Int) + (k : Int) := by rw [IntKind.wrap_u64]; omega
      rw [show ((x + k : Nat) : Int) = (x : Int) + (k : Int) by omega] at HC
      have kk1 : (k : Int) < (n : Int) := by omega
      clear hy hsn
      go_wp2_with fail
      refine HC.out.mono ?_; rintro e W1 ⟨rfl, rfl⟩
      go_wp2_with (at_builtin; refine wpList_appE 51 5 (.int .u8 0) 1 1 Try.underlying51 infoU8m rfl (by decide) (by decide) _ rfl _ _ rfl W.heap.size (.slice va k vc) k (u8s (manyB m x k)) rfl (HO.out.alloc _) (some ⟨wr.heap.size, 0, none⟩) 1 1 [.int .u8 (y : Int)] rfl (Rd.lit wr #[.int .u8 (y : Int)] 5 (by show 1 ≤ maxLen; decide)) (fun u hu => by simp at hu; subst hu; rfl) (by omega) (by rw [size_alloc]; exact Nat.le_succ_of_le hsz) ?_; intro a3 c3 W3 hown3 hgrow3 hat3)
      have HO3 := Lib.hid (show W3.ownsRow W.heap.size 5 1 (.slice a3 (k + 1) c3) (k + 1) (u8s (manyB m x (k + 1))) by rw [HSN.out, u8s_snoc]; exact hown3)
      have HB3 := Lib.hid (grownB (bTrans HB.out (bAlloc (Below.refl _ _) (.cells #[.int .u8 (y : Int)] 5))) hgrow3 (fun r e => (HO.out.lt r e).1))
      clear hown3 hgrow3 hat3
      go_wp2_with fail
      go_roundw
      case rel => exact ⟨k + 1, _, rfl, by go_num, by omega, HO3, HB3⟩
      case measure => simp [intOf]; omega
    · obtain rfl : n = k := by omega
      go_wp2_with fail
      go_ret
      exact ⟨⟨_, _, rfl, HO.out⟩, HB.out⟩
set_option maxRecDepth 100000 in
set_option maxHeartbeats 2000000 in
theorem rall_any (W : World) (R : Nat) (F : Nat → Prop) (m : Mm) (h : RmAt W R F m) (x n : Nat) (hx : x < 18446744073709551616) (hn : n ≤ 65536) :
    Calls Try.prog 60 #[.pointer (some ⟨R, 0, none⟩), .int .u64 (x : Int), .int .i64 (n : Int)] W fun e W' => e = .returned (.bool (allB m x n)) ∧ W = W' := by
  obtain ⟨r, hr⟩ : ∃ r, allB m x n = r := ⟨_, rfl⟩
  rw [hr]
  have HR := Lib.hid hr
  have HM := Lib.hid h
  have w0 : IntKind.u64.wrap (n : Int) = (n : Int) := by rw [IntKind.wrap_u64]; omega
  have w1 : IntKind.u64.wrap (18446744073709551615 - (x : Int)) = 18446744073709551615 - (x : Int) := by rw [IntKind.wrap_u64]; omega
  clear hr h
  by_cases hov : 18446744073709551616 < x + n
  · have hx0 : (0 : Int) < (x : Int) := by omega
    have w2 : IntKind.u64.wrap (18446744073709551615 - (x : Int) + 1) = 18446744073709551616 - (x : Int) := by rw [IntKind.wrap_u64]; omega
    have hlt : 18446744073709551616 - (x : Int) < (n : Int) := by omega
    have hrf : false = r := by
      rw [← HR.out]
      symm
      rw [Bool.eq_false_iff]
      intro hh
      have := allB_small HM.out.ok (by omega) hh
      omega
    subst hrf
    go_enter Try.func60, Try.ntmps60
    go_wp2_with fail
    go_ret
    exact ⟨rfl, rfl⟩
  · by_cases hx0 : x = 0
    · have w2 : IntKind.u64.wrap (18446744073709551615 - (x : Int) + 1) = 0 := by rw [IntKind.wrap_u64]; omega
      have hxn : ¬ (0 : Int) < (x : Int) := by omega
      by_cases hn0 : n = 0
      · subst hn0
        have hrt : true = r := by rw [← HR.out]; rfl
        subst hrt
        go_enter Try.func60, Try.ntmps60
        go_wp2_with fail
        go_loop [7, 8] (fun i _ => i = .int .i64 0) (fun _ _ => 0)
        case atStart => exact rfl
        case round =>
          subst hrel
          go_wp2_with fail
          go_ret
          exact ⟨rfl, rfl⟩
      · have hnn : (0 : Int) < (n : Int) := by omega
        clear hn0 hx0
        go_enter Try.func60, Try.ntmps60
        go_wp2_with fail
        go_loop [7, 8] (fun i _ => ∃ k : Nat, i = .int .i64 k ∧ k ≤ n ∧ Hid (∀ j, j < k → (x + j) / 256 ∈ m.pgs)) (fun i _ => n - (intOf i).toNat)
        case atStart => exact ⟨0, rfl, by omega, Lib.hid (fun j hj => by omega)⟩
        case round =>
          obtain ⟨k, rfl, hk, HT⟩ := hrel
          by_cases hlt : k < n
          · have HC := Lib.hid (rin_any W R F m HM.out (x + k) (by omega))
            have hii : isIn m ((x + k : Nat) : Int) = decide ((x + k) / 256 ∈ m.pgs) := by unfold isIn; rw [show (((x + k : Nat) : Int) / 256).toNat = (x + k) / 256 by omega]
            rw [hii] at HC
            have w5 : IntKind.u64.wrap (k : Int) = (k : Int) := by rw [IntKind.wrap_u64]; omega
            have w6 : IntKind.u64.wrap ((x : Int) + (k : Int)) = (x : Int) + (k : Int) := by rw [IntKind.wrap_u64]; omega
            rw [show ((x + k : Nat) : Int) = (x : Int) + (k : Int) by omega] at HC
            have kk1 : (k : Int) < (n : Int) := by omega
            clear hii
            by_cases hin : (x + k) / 256 ∈ m.pgs
            · rw [decide_eq_true hin] at HC
              have HT2 : Hid (∀ j, j < k + 1 → (x + j) / 256 ∈ m.pgs) := Lib.hid (fun j hj => by
                by_cases e : j = k
                · rw [e]; exact hin
                · exact HT.out j (by omega))
              clear hin
              go_wp2_with fail
              refine HC.out.mono ?_; rintro e W1 ⟨rfl, rfl⟩
              go_wp2_with fail
              go_round
              case rel => exact ⟨k + 1, by go_num, by omega, HT2⟩
              case measure => simp [intOf]; omega
            · rw [decide_eq_false hin] at HC
              have hrf : false = r := by
                rw [← HR.out]
                symm
                rw [Bool.eq_false_iff]
                intro hh
                exact hin (of_decide_eq_true (List.all_eq_true.1 hh k (List.mem_range.2 hlt)))
              subst hrf
              clear hin
              go_wp2_with fail
              refine HC.out.mono ?_; rintro e W1 ⟨rfl, rfl⟩
              go_wp2_with fail
              go_ret
              exact ⟨rfl, rfl⟩
          · obtain rfl : n = k := by omega
            have hrt : true = r := by
              rw [← HR.out]
              symm
              exact List.all_eq_true.2 (fun j hj => decide_eq_true (HT.out j (List.mem_range.1 hj)))
            subst hrt
            go_wp2_with fail
            go_ret
            exact ⟨rfl, rfl⟩
    · have w2 : IntKind.u64.wrap (18446744073709551615 - (x : Int) + 1) = 18446744073709551616 - (x : Int) := by rw [IntKind.wrap_u64]; omega
      have hlt2 : ¬ 18446744073709551616 - (x : Int) < (n : Int) := by omega
      go_enter Try.func60, Try.ntmps60
      go_wp2_with fail
      go_loop [7, 8] (fun i _ => ∃ k : Nat, i = .int .i64 k ∧ k ≤ n ∧ Hid (∀ j, j < k → (x + j) / 256 ∈ m.pgs)) (fun i _ => n - (intOf i).toNat)
      case atStart => exact ⟨0, rfl, by omega, Lib.hid (fun j hj => by omega)⟩
      case round =>
        obtain ⟨k, rfl, hk, HT⟩ := hrel
        by_cases hlt : k < n
        · have HC := Lib.hid (rin_any W R F m HM.out (x + k) (by omega))
          have hii : isIn m ((x + k : Nat) : Int) = decide ((x + k) / 256 ∈ m.pgs) := by unfold isIn; rw [show (((x + k : Nat) : Int) / 256).toNat = (x + k) / 256 by omega]
          rw [hii] at HC
          have w5 : IntKind.u64.wrap (k : Int) = (k : Int) := by rw [IntKind.wrap_u64]; omega
          have w6 : IntKind.u64.wrap ((x : Int) + (k : Int)) = (x : Int) + (k : Int) := by rw [IntKind.wrap_u64]; omega
          rw [show ((x + k : Nat) : Int) = (x : Int) + (k : Int) by omega] at HC
          have kk1 : (k : Int) < (n : Int) := by omega
          clear hii
          by_cases hin : (x + k) / 256 ∈ m.pgs
          · rw [decide_eq_true hin] at HC
            have HT2 : Hid (∀ j, j < k + 1 → (x + j) / 256 ∈ m.pgs) := Lib.hid (fun j hj => by
              by_cases e : j = k
              · rw [e]; exact hin
              · exact HT.out j (by omega))
            clear hin
            go_wp2_with fail
            refine HC.out.mono ?_; rintro e W1 ⟨rfl, rfl⟩
            go_wp2_with fail
            go_round
            case rel => exact ⟨k + 1, by go_num, by omega, HT2⟩
            case measure => simp [intOf]; omega
          · rw [decide_eq_false hin] at HC
            have hrf : false = r := by
              rw [← HR.out]
              symm
              rw [Bool.eq_false_iff]
              intro hh
              exact hin (of_decide_eq_true (List.all_eq_true.1 hh k (List.mem_range.2 hlt)))
            subst hrf
            clear hin
            go_wp2_with fail
            refine HC.out.mono ?_; rintro e W1 ⟨rfl, rfl⟩
            go_wp2_with fail
            go_ret
            exact ⟨rfl, rfl⟩
        · obtain rfl : n = k := by omega
          have hrt : true = r := by
            rw [← HR.out]
            symm
            exact List.all_eq_true.2 (fun j hj => decide_eq_true (HT.out j (List.mem_range.1 hj)))
          subst hrt
          go_wp2_with fail
          go_ret
          exact ⟨rfl, rfl⟩
theorem rspot_any (W : World) (R : Nat) (F : Nat → Prop) (m : Mm) (h : RmAt W R F m) (a : Nat) (ha : a < 18446744073709551616) :
    Calls Try.prog 59 #[.pointer (some ⟨R, 0, none⟩), .int .u64 (a : Int)] W fun e W' => e = .returned (.int .i64 (spotE m a)) ∧ W = W' := by
  have HI := Lib.hid (rin_any W R F m h a ha)
  clear h
  by_cases hal : (a : Int) % 32 = 0
  · have hp : spotE m a = if isIn m a then 0 else 30 := by unfold spotE; rw [if_neg (by omega)]
    rw [hp]
    clear hp
    cases hi : isIn m a with
    | true =>
      rw [hi] at HI
      rw [if_pos rfl]
      clear hi
      go_enter Try.func59, Try.ntmps59
      go_wp2_with fail
      refine HI.out.mono ?_; rintro e W1 ⟨rfl, rfl⟩
      go_wp2_with fail
      go_ret
      exact ⟨rfl, rfl⟩
    | false =>
      rw [hi] at HI
      rw [if_neg (by decide)]
      clear hi
      go_enter Try.func59, Try.ntmps59
      go_wp2_with fail
      refine HI.out.mono ?_; rintro e W1 ⟨rfl, rfl⟩
      go_wp2_with fail
      go_ret
      exact ⟨rfl, rfl⟩
  · have hp : spotE m a = 31 := by unfold spotE; rw [if_pos hal]
    rw [hp]
    clear hp HI
    go_enter Try.func59, Try.ntmps59
    go_wp2_with fail
    go_ret
    exact ⟨rfl, rfl⟩
end Go.Proofs.Ytgfkjlknkbdjiaa
