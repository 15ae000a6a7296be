/- AbiBuilds, plain mathematics: the document lays no 0 behind a text: on fresh pages that is the same. -/
import Derived.Test.YtjefkhieihigiaaGreatAbA
namespace Go.Proofs.YtjefkhieihigiaaGreat
set_option linter.unusedVariables false
set_option linter.unusedSimpArgs false

/-- the document's: a text without the 0 -/
def layD (m : Mm) (x : Nat) : List (List UInt8) → Mm
  | [] => m
  | s :: r => layD (putF m x (s.map UInt8.toNat)).1 (x + (s.length + 1)) r
theorem layD_app : ∀ (a e : List (List UInt8)) (m : Mm) (x : Nat), layD m x (a ++ e) = layD (layD m x a) (x + lensN a) e
  | [], e, m, x => by simp [layD, lensN_nil]
  | s :: r, e, m, x => by
    rw [List.cons_append, layD, layD_app r, lensN_cons, layD]
    rw [show x + (s.length + 1) + lensN r = x + (s.length + 1 + lensN r) by omega]
theorem capsT_app : ∀ (a e : List (List UInt8)) (x : Nat), capsT x (a ++ e) = capsT x a ++ capsT (x + lensN a) e
  | [], e, x => by simp [capsT, lensN_nil]
  | s :: r, e, x => by
    rw [List.cons_append, capsT, capsT_app r, lensN_cons, capsT]
    rw [show x + (s.length + 1) + lensN r = x + (s.length + 1 + lensN r) by omega]
    rfl
/-- bytes that are 0, on pages that are there, with no tags -/
structure Fresh (m : Mm) (x n : Nat) : Prop where
  pg : ∀ i, i < n → (x + i) / 256 ∈ m.pgs
  zero : ∀ i, i < n → m.by_ (x + i) = 0
  mks : ∀ i, i < n → (x + i) / 32 ∉ m.mks
theorem Fresh.le {m : Mm} {x n k : Nat} (h : Fresh m x n) (hk : k ≤ n) : Fresh m x k := ⟨fun i hi => h.pg i (by omega), fun i hi => h.zero i (by omega), fun i hi => h.mks i (by omega)⟩
theorem wr1_zero (m : Mm) (a : Nat) (h0 : m.by_ a = 0) (hk : a / 32 ∉ m.mks) : wr1 m a 0 = m := by
  have e1 : (fun x => if x = a then 0 else m.by_ x) = m.by_ := by
    funext x
    by_cases e : x = a
    · rw [if_pos e, e, h0]
    · rw [if_neg e]
  have e2 : m.mks.filter (· != a / 32) = m.mks := List.filter_eq_self.2 (fun g hg => by
    simp only [bne_iff_ne, ne_eq]
    exact fun e => hk (e ▸ hg))
  show (Mm.mk m.pgs (fun x => if x = a then 0 else m.by_ x) (m.mks.filter (· != a / 32)) m.bud) = m
  rw [e1, e2]
theorem wrL_sub (m : Mm) (a : Nat) (l : List Nat) : ∀ g ∈ (wrL m a l).mks, g ∈ m.mks := fun g hg => by
  by_cases hl : l = []
  · subst hl; exact hg
  · rw [wrL_mk m a l hl] at hg
    exact (List.mem_filter.1 hg).1
theorem putF_on {m : Mm} {x : Nat} {l : List Nat} (h : ∀ i, i < l.length → (x + i) / 256 ∈ m.pgs) : (putF m (x : Int) l).1 = wrL m x l := by
  unfold putF
  rw [if_pos (by
    unfold allB
    rw [List.all_eq_true]
    intro i hi
    exact decide_eq_true (h i (List.mem_range.1 hi)))]
  rfl
theorem Fresh.wrL {m : Mm} {x n : Nat} {l : List Nat} (h : Fresh m x n) (k : Nat) (hk : l.length ≤ k) (hn : k ≤ n) : Fresh (Go.Proofs.YtjefkhieihigiaaGreat.wrL m x l) (x + k) (n - k) :=
  ⟨fun i hi => by rw [(wrL_pgs m x l).1, Nat.add_assoc]; exact h.pg _ (by omega),
   fun i hi => by rw [wrL_by, dif_neg (by omega), Nat.add_assoc]; exact h.zero _ (by omega),
   fun i hi hg => by
     have := wrL_sub m x l _ hg
     rw [Nat.add_assoc] at this
     exact h.mks _ (by omega) this⟩
theorem layT_doc : ∀ (l : List (List UInt8)) (m : Mm) (x : Nat), Fresh m x (lensN l) → layT m x l = layD m x l ∧ ∀ n, Fresh m x n → lensN l ≤ n → Fresh (layD m x l) (x + lensN l) (n - lensN l)
  | [], m, x, _ => ⟨rfl, fun n hn _ => by rw [lensN_nil]; exact hn⟩
  | s :: r, m, x, h => by
    have hl : lensN (s :: r) = s.length + 1 + lensN r := lensN_cons s r
    rw [hl] at h
    have hm : (s.map UInt8.toNat).length = s.length := by simp
    have e1 : (putF m (x : Int) (byteS s)).1 = Go.Proofs.YtjefkhieihigiaaGreat.wrL m x (byteS s) := putF_on (fun i hi => h.pg i (by rw [byteS_len] at hi; omega))
    have e2 : (putF m (x : Int) (s.map UInt8.toNat)).1 = Go.Proofs.YtjefkhieihigiaaGreat.wrL m x (s.map UInt8.toNat) := putF_on (fun i hi => h.pg i (by omega))
    have e3 : Go.Proofs.YtjefkhieihigiaaGreat.wrL m x (byteS s) = Go.Proofs.YtjefkhieihigiaaGreat.wrL m x (s.map UInt8.toNat) := by
      unfold byteS
      rw [wrL_append, hm]
      refine wr1_zero _ _ ?_ ?_
      · rw [wrL_by, dif_neg (by omega)]
        exact h.zero _ (by omega)
      · intro hg
        exact h.mks _ (by omega) (wrL_sub _ _ _ _ hg)
    rw [layT, layD, e1, e2, e3, hl]
    have hf : Fresh (Go.Proofs.YtjefkhieihigiaaGreat.wrL m x (s.map UInt8.toNat)) (x + (s.length + 1)) (lensN r) := by
      have := h.wrL (l := s.map UInt8.toNat) (s.length + 1) (by omega) (by omega)
      rwa [Nat.add_sub_cancel_left] at this
    obtain ⟨h1, h2⟩ := layT_doc r _ _ hf
    refine ⟨h1, fun n hn hle => ?_⟩
    have := h2 (n - (s.length + 1)) (hn.wrL (l := s.map UInt8.toNat) (s.length + 1) (by omega) (by omega)) (by omega)
    rwa [Nat.sub_sub, Nat.add_assoc] at this
/-- pages that are mapped are fresh -/
theorem map_fresh {m : Mm} (h : Okm m) {f p : Int} (hf : 0 ≤ f) (he : (mapF m f p).2 = 0) : 1 ≤ p ∧ p ≤ 65536 ∧ Fresh (mapF m f p).1 (f.toNat * 256) (p.toNat * 256) := by
  unfold mapF at he ⊢
  by_cases hb : badP f p = true
  · rw [if_pos hb] at he; cases he
  · rw [if_neg hb] at he ⊢
    by_cases ha : anyIn m f.toNat p.toNat = true
    · rw [if_pos ha] at he; cases he
    · rw [if_neg ha] at he ⊢
      by_cases hc : m.bud < m.pgs.length + p.toNat
      · rw [if_pos hc] at he; cases he
      · rw [if_neg hc] at he ⊢
        have hb : badP f p = false := by simpa using hb
        unfold badP at hb
        simp only [Bool.or_eq_false_iff, decide_eq_false_iff_not] at hb
        have hno : ∀ i, i < p.toNat → f.toNat + i ∉ m.pgs := fun i hi hin => ha (by
          unfold anyIn
          rw [List.any_eq_true]
          exact ⟨i, List.mem_range.2 hi, decide_eq_true hin⟩)
        have hpn : ∀ i, i < p.toNat * 256 → (f.toNat * 256 + i) / 256 ∉ m.pgs := fun i hi hin => hno (i / 256) (by omega) (by
          rwa [show f.toNat + i / 256 = (f.toNat * 256 + i) / 256 by omega])
        obtain ⟨a1, a2, a3, a4⟩ := addN_len m f.toNat p.toNat
        refine ⟨by omega, by omega, fun i hi => ?_, fun i hi => ?_, fun i hi hg => ?_⟩
        · exact (addN_mem m f.toNat p.toNat _).2 (Or.inl ⟨by omega, by omega⟩)
        · show (addN m f.toNat p.toNat).by_ _ = 0
          rw [a3]
          exact h.off _ (hpn i hi)
        · have hg : (f.toNat * 256 + i) / 32 ∈ (addN m f.toNat p.toNat).mks := hg
          rw [a4] at hg
          have := h.ml _ hg
          rw [Nat.div_div_eq_div_mul] at this
          exact hpn i hi this
/-- the document's lists, one behind the other, and where they begin -/
def layDm (m : Mm) (x : Nat) (a e : List (List UInt8)) (k : List Cp) : Mm :=
  layC (layC (layC (layD m x (a ++ e)) (listN x a e) (capsT x a ++ [nullC])) (listN x a e + 32 * (a.length + 1)) (capsT (x + lensN a) e ++ [nullC])) (listN x a e + 32 * (a.length + 1) + 32 * (e.length + 1)) (k ++ [nullC])
theorem layM_doc {m : Mm} {x n : Nat} (h : Fresh m x n) (a e : List (List UInt8)) (k : List Cp) (hn : lensN a + lensN e ≤ n) : layM m x a e k = layDm m x a e k := by
  unfold layM layDm
  obtain ⟨h1, h2⟩ := layT_doc a m x (h.le (by omega))
  have h3 := h2 n h (by omega)
  obtain ⟨h4, -⟩ := layT_doc e _ _ (h3.le (show lensN e ≤ n - lensN a by omega))
  rw [layD_app, h1, h4]
/-- what the document builds -/
def buildD (m : Mm) (f p : Int) (a e : List (List UInt8)) (k : List Cp) : Mm × St × Int :=
  if !(textsB a && (textsB e && auxB k)) then (m, noSt, 1)
  else if decide (p ≤ 65536) && decide (256 * p < (needN a e k.length : Int) + 64) then (m, noSt, 190)
  else if (mapF m f p).2 ≠ 0 then ((mapF m f p).1, noSt, (mapF m f p).2)
  else (layDm (mapF m f p).1 (f.toNat * 256) a e k, startS (f.toNat * 256) ((f + p).toNat * 256) a e k, 0)
theorem needN_ge (a e : List (List UInt8)) (k : Nat) : lensN a + lensN e + 96 ≤ needN a e k := by
  unfold needN upN
  omega
theorem room_doc (n : Nat) (p : Int) (hn : 96 ≤ n) : (!roomB (n : Int) p) = (decide (p ≤ 65536) && decide (256 * p < (n : Int) + 64)) := by
  unfold roomB
  rw [Bool.eq_iff_iff]
  simp only [Bool.not_eq_true', Bool.or_eq_false_iff, Bool.and_eq_false_iff, decide_eq_false_iff_not, Bool.and_eq_true, decide_eq_true_eq]
  omega
/-- the program's and the document's are one -/
theorem build_doc {m : Mm} (h : Okm m) {f p : Int} (hf : 0 ≤ f) (a e : List (List UInt8)) (k : List Cp) : buildF m f p a e k = buildD m f p a e k := by
  unfold buildF buildD
  have hg := needN_ge a e k.length
  rw [room_doc _ p (by omega)]
  by_cases h1 : (!(textsB a && (textsB e && auxB k))) = true
  · rw [if_pos h1, if_pos h1]
  · rw [if_neg h1, if_neg h1]
    by_cases h2 : (decide (p ≤ 65536) && decide (256 * p < (needN a e k.length : Int) + 64)) = true
    · rw [if_pos h2, if_pos h2]
    · rw [if_neg h2, if_neg h2]
      by_cases h3 : (mapF m f p).2 ≠ 0
      · rw [if_pos h3, if_pos h3]
      · rw [if_neg h3, if_neg h3]
        obtain ⟨p0, p1, hfr⟩ := map_fresh h hf (Decidable.of_not_not h3)
        rw [layM_doc hfr a e k (by
          simp only [Bool.and_eq_true, decide_eq_true_eq, not_and] at h2
          have := h2 p1
          omega)]
end Go.Proofs.YtjefkhieihigiaaGreat
