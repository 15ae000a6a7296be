/- Numbers' texts, and what is read of them; pieces of a text. Plain mathematics: no program is named here. -/
import Derived.Lib.ItoaNum
import Derived.Lib.ItoaLen
import Derived.Lib.ParseIntBTie
import Derived.Lib.SplitLaws
import Derived.Lib.CutLaws
import Derived.Lib.Join
import Derived.Lib.TrimByte
import Derived.Lib.LastIndexLaws
namespace Go.Proofs.YtdpmihlmfephiaaGreatDoor
set_option linter.unusedVariables false
set_option linter.unusedSimpArgs false
open Go

def isDg (c : UInt8) : Bool := decide (48 ≤ c.toNat) && decide (c.toNat ≤ 57)
theorem dg_ofNat (d : Nat) (h : d < 10) : (UInt8.ofNat (48 + d)).toNat = 48 + d := by
  rw [UInt8.toNat_ofNat']; omega
theorem dec_step (u : Nat) (h : ¬ u < 10) : Lib.decDigits u = Lib.decDigits (u / 10) ++ [UInt8.ofNat (48 + u % 10)] := by rw [Lib.decDigits, dif_neg h]
theorem dec_dg (u : Nat) : ∀ c ∈ Lib.decDigits u, isDg c = true := by
  induction u using Nat.strongRecOn with
  | _ u ih =>
    by_cases h : u < 10
    · rw [Lib.decDigits_one h]
      intro c hc
      rw [List.mem_singleton] at hc
      subst hc
      unfold isDg
      rw [dg_ofNat u h]
      simp; omega
    · rw [dec_step u h]
      intro c hc
      rcases List.mem_append.1 hc with hc | hc
      · exact ih (u / 10) (by omega) c hc
      · rw [List.mem_singleton] at hc
        subst hc
        unfold isDg
        rw [dg_ofNat _ (Nat.mod_lt _ (by decide))]
        have := Nat.mod_lt u (show 0 < 10 by decide)
        simp; omega
theorem dec_ne (u : Nat) : Lib.decDigits u ≠ [] := by
  intro h
  have := Lib.decDigits_length u
  rw [h] at this
  have := Lib.nDigits_pos u
  simp at *
  omega
theorem itoa_nat (u : Nat) : Lib.itoa (u : Int) = Lib.decDigits u := by
  unfold Lib.itoa
  rw [if_neg (by omega)]
  simp
theorem itoa_neg (u : Nat) (h : 0 < u) : Lib.itoa (-(u : Int)) = 45 :: Lib.decDigits u := by
  unfold Lib.itoa
  rw [if_pos (by omega)]
  simp
theorem itoa_cases (n : Int) : (∃ u : Nat, n = u ∧ Lib.itoa n = Lib.decDigits u) ∨ (∃ u : Nat, 0 < u ∧ n = -(u : Int) ∧ Lib.itoa n = 45 :: Lib.decDigits u) := by
  rcases (show n < 0 ∨ 0 ≤ n by omega) with h | h
  · exact .inr ⟨n.natAbs, by omega, by omega, by unfold Lib.itoa; rw [if_pos h]⟩
  · exact .inl ⟨n.toNat, by omega, by unfold Lib.itoa; rw [if_neg (by omega)]⟩
theorem itoa_ne (n : Int) : Lib.itoa n ≠ [] := by
  rcases itoa_cases n with ⟨u, _, h⟩ | ⟨u, _, _, h⟩ <;> rw [h]
  · exact dec_ne u
  · simp
/-- bytes of a number's text -/
def isNb (c : UInt8) : Bool := c == 45 || isDg c
theorem itoa_nb (n : Int) : ∀ c ∈ Lib.itoa n, isNb c = true := by
  rcases itoa_cases n with ⟨u, _, h⟩ | ⟨u, _, _, h⟩ <;> rw [h]
  · intro c hc
    unfold isNb
    rw [dec_dg u c hc]; simp
  · intro c hc
    unfold isNb
    rcases List.mem_cons.1 hc with rfl | hc
    · rfl
    · rw [dec_dg u c hc]; simp
theorem itoa_not (n : Int) (c : UInt8) (h : isNb c = false) : c ∉ Lib.itoa n := fun hc => by rw [itoa_nb n c hc] at h; exact absurd h (by decide)
theorem parse_snoc (c : UInt8) : ∀ (l : List UInt8) (acc v : Nat), Lib.parseUint10 acc l = .ok v → Lib.parseUint10 acc (l ++ [c]) = Lib.parseUint10 v [c]
  | [], acc, v, h => by
    simp only [Lib.parseUint10] at h
    injection h with h
    subst h
    rfl
  | b :: r, acc, v, h => by
    rw [List.cons_append]
    unfold Lib.parseUint10 at h ⊢
    split at h
    · rename_i hb
      rw [if_pos hb]
      split at h
      · cases h
      · rename_i h1
        rw [if_neg h1]
        split at h
        · cases h
        · rename_i h2
          rw [if_neg h2]
          exact parse_snoc c r _ v h
    · cases h
theorem parse_dec (u : Nat) (h : u < 18446744073709551616) : Lib.parseUint10 0 (Lib.decDigits u) = .ok u := by
  induction u using Nat.strongRecOn with
  | _ u ih =>
    by_cases hu : u < 10
    · rw [Lib.decDigits_one hu]
      simp only [Lib.parseUint10]
      rw [dg_ofNat u hu, if_pos (by omega), if_neg (by omega), if_neg (by omega)]
      congr 1; omega
    · rw [dec_step u hu, parse_snoc _ _ _ _ (ih (u / 10) (by omega) (by omega))]
      simp only [Lib.parseUint10]
      have := Nat.mod_lt u (show 0 < 10 by decide)
      rw [dg_ofNat _ this, if_pos (by omega), if_neg (by omega), if_neg (by omega)]
      congr 1; omega
/-- the number that a text says; 0: none -/
def numB (s : List UInt8) : Int := match Lib.parseIntB 64 s with
  | .ok v => v
  | _ => 0
theorem numB_itoa (n : Int) (h0 : -9223372036854775808 ≤ n) (h1 : n ≤ 9223372036854775807) : numB (Lib.itoa n) = n := by
  unfold numB
  rw [Lib.parseIntB_64]
  rcases itoa_cases n with ⟨u, e, h⟩ | ⟨u, hu, e, h⟩ <;> rw [h]
  · have hp := parse_dec u (by omega)
    have hm : Lib.parseMag (Lib.decDigits u) = .ok u := by unfold Lib.parseMag; rw [if_neg (dec_ne u), hp]
    cases hl : Lib.decDigits u with
    | nil => exact absurd hl (dec_ne u)
    | cons c r =>
      have hc := dec_dg u c (by rw [hl]; exact List.mem_cons_self)
      unfold isDg at hc
      simp at hc
      rw [hl] at hm
      simp only [Lib.atoiAll]
      rw [if_neg (by omega), hm]
      simp only []
      rw [if_neg (by omega), if_neg (by omega), if_neg (by omega)]
      simp only []
      omega
  · have hp := parse_dec u (by omega)
    have hm : Lib.parseMag (Lib.decDigits u) = .ok u := by unfold Lib.parseMag; rw [if_neg (dec_ne u), hp]
    simp only [Lib.atoiAll]
    rw [if_pos (by decide), hm]
    simp only []
    rw [if_neg (by intro hh; exact hh.1 (by decide)), if_neg (by omega), if_pos (by decide)]
    simp only []
    omega
theorem numB_in (s : List UInt8) : -9223372036854775808 ≤ numB s ∧ numB s ≤ 9223372036854775807 := by
  unfold numB
  cases h : Lib.parseIntB 64 s with
  | ok v =>
    have := Lib.parseIntB_bounds h
    simp only []
    rw [show (2 : Nat) ^ (64 - 1) = 9223372036854775808 by decide] at this
    omega
  | «syntax» => simp only []; decide
  | range => simp only []; decide

/-! Pieces. -/
theorem prefix_no {b : UInt8} {p : List UInt8} {s : List UInt8} {j : Nat} (h : s[j]? ≠ some b) : Lib.occAt s (b :: p) j = false := by
  rw [Bool.eq_false_iff]
  intro h'
  exact h (Lib.occAt_head rfl h')
theorem asIndex_at (b : UInt8) (p a r : List UInt8) (h : b ∉ a) : Lib.index (a ++ (b :: p) ++ r) (b :: p) = a.length := by
  refine Lib.index_first (by simp) ?_ (fun j hj => prefix_no ?_)
  · unfold Lib.occAt
    rw [List.append_assoc, List.drop_left]
    exact List.isPrefixOf_iff_prefix.2 (List.prefix_append _ _)
  · rw [List.append_assoc, List.getElem?_append_left hj]
    intro he
    exact h (List.mem_of_getElem? he)
theorem index_no (b : UInt8) (p a : List UInt8) (h : b ∉ a) : Lib.index a (b :: p) = -1 := by
  refine Lib.index_none (fun j _ => prefix_no fun he => h (List.mem_of_getElem? he))
theorem cut_at (b : UInt8) (a r : List UInt8) (h : b ∉ a) : Lib.cut (a ++ b :: r) [b] = (a, r, true) := by
  have hi := asIndex_at b [] a r h
  rw [List.append_assoc] at hi
  unfold Lib.cut
  rw [show a ++ b :: r = a ++ ([b] ++ r) from rfl, hi, if_pos (by omega)]
  simp
theorem cut_no (b : UInt8) (a : List UInt8) (h : b ∉ a) : Lib.cut a [b] = (a, [], false) := by
  unfold Lib.cut
  rw [index_no b [] a h, if_neg (by decide)]
theorem split_one (b : UInt8) (p a : List UInt8) (h : b ∉ a) : Lib.split a (b :: p) = [a] := by
  unfold Lib.split
  rw [Lib.count_miss (index_no b p a h)]
  rfl
theorem split_at (b : UInt8) (p a r : List UInt8) (h : b ∉ a) : Lib.split (a ++ (b :: p) ++ r) (b :: p) = a :: Lib.split r (b :: p) := by
  have hi := asIndex_at b p a r h
  unfold Lib.split
  rw [Lib.count_hit (by simp) hi]
  have hd : (a ++ (b :: p) ++ r).drop (a.length + (b :: p).length) = r := by
    rw [List.append_assoc, ← List.drop_drop, List.drop_left, List.drop_left]
  rw [hd, Nat.add_comm 1, Lib.splitK]
  rw [if_neg (by rw [hi]; simp), hi]
  have hd' : (a ++ (b :: p) ++ r).drop ((a.length : Int).toNat + (b :: p).length) = r := hd
  rw [hd']
  congr 1
  rw [List.append_assoc]
  simp
theorem split_join (b : UInt8) (p : List UInt8) : ∀ (x : List UInt8) (l : List (List UInt8)), (∀ y ∈ x :: l, b ∉ y) → Lib.split (Lib.join (x :: l) (b :: p)) (b :: p) = x :: l
  | x, [], h => by rw [Lib.join_one]; exact split_one b p x (h x (by simp))
  | x, y :: l, h => by
    have e : Lib.join (x :: y :: l) (b :: p) = x ++ (b :: p) ++ Lib.join (y :: l) (b :: p) := by
      rw [Lib.join_cons, Lib.join_cons]
      simp [Lib.joinTail]
    rw [e, split_at b p x _ (h x (by simp)), split_join b p y l (fun z hz => h z (List.mem_cons_of_mem _ hz))]
theorem trimP (b : UInt8) (r : List UInt8) : Lib.trimPrefix (b :: r) [b] = r := by
  unfold Lib.trimPrefix Lib.hasPrefix
  rw [if_pos (by simp)]
  rfl
theorem trimS (b : UInt8) (r : List UInt8) : Lib.trimSuffix (r ++ [b]) [b] = r := by
  unfold Lib.trimSuffix Lib.hasSuffix
  rw [if_pos (by rw [List.isSuffixOf_iff_suffix]; exact List.suffix_append _ _)]
  simp
end Go.Proofs.YtdpmihlmfephiaaGreatDoor
