/- TmA -/
import Derived.Test.YtegoddghfjfibaaGreatDoorZ01
namespace Go.Proofs.YtegoddghfjfibaaGreatDoor
set_option linter.unusedVariables false
set_option linter.unusedSimpArgs false

/-- the mapped pages, rising; the byte at each address; the granules with a tag, rising; how many pages there may be -/
structure Mm where
  pgs : List Nat
  by_ : Nat → Nat
  mks : List Nat
  bud : Nat
def Rise (l : List Nat) : Prop := l.Pairwise (· < ·)
structure Okm (m : Mm) : Prop where
  pr : Rise m.pgs
  pl : ∀ p ∈ m.pgs, p < 65536
  len : m.pgs.length ≤ m.bud
  bud : m.bud ≤ 256
  by_ : ∀ a, m.by_ a < 256
  off : ∀ a, a / 256 ∉ m.pgs → m.by_ a = 0
  mr : Rise m.mks
  ml : ∀ g ∈ m.mks, g / 8 ∈ m.pgs
/-- a number put among others, rising -/
def ins (p : Nat) : List Nat → List Nat
  | [] => [p]
  | q :: r => if p < q then p :: q :: r else q :: ins p r
theorem mem_ins (p x : Nat) (l : List Nat) : x ∈ ins p l ↔ x = p ∨ x ∈ l := by
  induction l with
  | nil => simp [ins]
  | cons q r ih =>
    unfold ins
    split
    · simp
    · rw [List.mem_cons, List.mem_cons, ih]
      constructor
      · rintro (h | h | h)
        · exact Or.inr (Or.inl h)
        · exact Or.inl h
        · exact Or.inr (Or.inr h)
      · rintro (h | h | h)
        · exact Or.inr (Or.inl h)
        · exact Or.inl h
        · exact Or.inr (Or.inr h)
theorem length_ins (p : Nat) (l : List Nat) : (ins p l).length = l.length + 1 := by
  induction l with
  | nil => rfl
  | cons q r ih => unfold ins; split <;> simp [ih]
theorem rise_ins (p : Nat) (l : List Nat) (h : Rise l) (hp : p ∉ l) : Rise (ins p l) := by
  induction l with
  | nil => exact List.pairwise_singleton _ _
  | cons q r ih =>
    unfold ins
    have hq := List.pairwise_cons.1 h
    have hn : p ≠ q := fun e => hp (by rw [e]; exact List.mem_cons_self)
    split
    · rename_i hlt
      refine List.pairwise_cons.2 ⟨fun x hx => ?_, h⟩
      rcases List.mem_cons.1 hx with rfl | hx
      · exact hlt
      · exact Nat.lt_trans hlt (hq.1 x hx)
    · rename_i hlt
      refine List.pairwise_cons.2 ⟨fun x hx => ?_, ih hq.2 (fun e => hp (List.mem_cons_of_mem _ e))⟩
      rcases (mem_ins p x r).1 hx with rfl | hx
      · omega
      · exact hq.1 x hx
theorem rise_filter (f : Nat → Bool) {l : List Nat} (h : Rise l) : Rise (l.filter f) := List.Pairwise.filter f h
/-! What is done to one. -/
def addP (m : Mm) (p : Nat) : Mm := { m with pgs := ins p m.pgs }
def addN (m : Mm) (f : Nat) : Nat → Mm
  | 0 => m
  | n + 1 => addP (addN m f n) (f + n)
def wr1 (m : Mm) (a b : Nat) : Mm := { m with by_ := fun x => if x = a then b else m.by_ x, mks := m.mks.filter (· != a / 32) }
def wrL (m : Mm) (a : Nat) : List Nat → Mm
  | [] => m
  | b :: r => wrL (wr1 m a b) (a + 1) r
def tagP (m : Mm) (g : Nat) : Mm := { m with mks := ins g m.mks }
theorem wrL_append (m : Mm) (a : Nat) (x y : List Nat) : wrL m a (x ++ y) = wrL (wrL m a x) (a + x.length) y := by
  induction x generalizing m a with
  | nil => rfl
  | cons b r ih =>
    show wrL (wr1 m a b) (a + 1) (r ++ y) = _
    rw [ih, List.length_cons, show a + 1 + r.length = a + (r.length + 1) by omega]
    rfl
theorem wrL_pgs (m : Mm) (a : Nat) (l : List Nat) : (wrL m a l).pgs = m.pgs ∧ (wrL m a l).bud = m.bud := by
  induction l generalizing m a with
  | nil => exact ⟨rfl, rfl⟩
  | cons b r ih => exact ih (wr1 m a b) (a + 1)
theorem wrL_by (m : Mm) (a : Nat) (l : List Nat) (x : Nat) : (wrL m a l).by_ x = if h : a ≤ x ∧ x < a + l.length then l[x - a]'(by omega) else m.by_ x := by
  induction l generalizing m a with
  | nil => rw [dif_neg (by simp)]; rfl
  | cons b r ih =>
    show (wrL (wr1 m a b) (a + 1) r).by_ x = _
    rw [ih]
    by_cases h1 : a + 1 ≤ x ∧ x < a + 1 + r.length
    · rw [dif_pos h1, dif_pos (by rw [List.length_cons]; omega)]
      obtain ⟨j, rfl⟩ : ∃ j, x = a + 1 + j := ⟨x - (a + 1), by omega⟩
      simp only [show a + 1 + j - (a + 1) = j by omega, show a + 1 + j - a = j + 1 by omega, List.getElem_cons_succ]
    · rw [dif_neg h1]
      by_cases h2 : x = a
      · subst h2
        rw [dif_pos (by rw [List.length_cons]; omega)]
        simp [wr1]
      · rw [dif_neg (by rw [List.length_cons]; omega)]
        simp [wr1, h2]
/-- does granule g have one of n bytes from a on? -/
def inGr (a n g : Nat) : Bool := decide (a ≤ 32 * g + 31) && decide (32 * g < a + n)
theorem wrL_mk (m : Mm) (a : Nat) (l : List Nat) (hl : l ≠ []) : (wrL m a l).mks = m.mks.filter (fun g => !inGr a l.length g) := by
  induction l generalizing m a with
  | nil => exact absurd rfl hl
  | cons b r ih =>
    show (wrL (wr1 m a b) (a + 1) r).mks = _
    by_cases hr : r = []
    · subst hr
      show m.mks.filter (· != a / 32) = _
      congr 1
      funext g
      unfold inGr
      rw [Bool.eq_iff_iff]
      simp only [bne_iff_ne, Bool.not_eq_true', Bool.and_eq_false_iff, decide_eq_false_iff_not, List.length_singleton]
      omega
    · rw [ih _ _ hr]
      show (m.mks.filter (· != a / 32)).filter _ = _
      rw [List.filter_filter]
      congr 1
      funext g
      unfold inGr
      rw [Bool.eq_iff_iff]
      have : 0 < r.length := List.length_pos_iff.2 hr
      simp only [Bool.and_eq_true, bne_iff_ne, Bool.not_eq_true', Bool.and_eq_false_iff, decide_eq_false_iff_not, List.length_cons]
      omega
/-! It stays one. -/
theorem okm_addP {m : Mm} (h : Okm m) {p : Nat} (hp : p ∉ m.pgs) (h1 : p < 65536) (h2 : m.pgs.length < m.bud) : Okm (addP m p) :=
  ⟨rise_ins p _ h.pr hp, fun q hq => by rcases (mem_ins p q _).1 hq with rfl | hq; exact h1; exact h.pl q hq, by show (ins p m.pgs).length ≤ _; rw [length_ins]; exact h2, h.bud, h.by_,
    fun a ha => h.off a (fun e => ha ((mem_ins p _ _).2 (Or.inr e))), h.mr, fun g hg => (mem_ins p _ _).2 (Or.inr (h.ml g hg))⟩
theorem okm_wr1 {m : Mm} (h : Okm m) {a b : Nat} (ha : a / 256 ∈ m.pgs) (hb : b < 256) : Okm (wr1 m a b) :=
  ⟨h.pr, h.pl, h.len, h.bud, fun x => by show (if _ then _ else _) < _; split; exact hb; exact h.by_ x,
    fun x hx => by
      show (if _ then _ else _) = _
      split
      · rename_i e; subst e; exact absurd ha hx
      · exact h.off x hx, rise_filter _ h.mr, fun g hg => h.ml g (List.mem_filter.1 hg).1⟩
theorem okm_wrL {m : Mm} (h : Okm m) {a : Nat} {l : List Nat} (ha : ∀ i, i < l.length → (a + i) / 256 ∈ m.pgs) (hb : ∀ b ∈ l, b < 256) : Okm (wrL m a l) := by
  induction l generalizing m a with
  | nil => exact h
  | cons b r ih =>
    refine ih (okm_wr1 h (ha 0 (by simp)) (hb b List.mem_cons_self)) (fun i hi => ?_) (fun x hx => hb x (List.mem_cons_of_mem _ hx))
    have := ha (i + 1) (by simpa using hi)
    rwa [show a + 1 + i = a + (i + 1) by omega]
theorem okm_tagP {m : Mm} (h : Okm m) {g : Nat} (hg : g ∉ m.mks) (hp : g / 8 ∈ m.pgs) : Okm (tagP m g) :=
  ⟨h.pr, h.pl, h.len, h.bud, h.by_, h.off, rise_ins g _ h.mr hg, fun x hx => by rcases (mem_ins g x _).1 hx with rfl | hx; exact hp; exact h.ml x hx⟩
/-! What each call answers. -/
def badP (f n : Int) : Bool := decide (n < 1) || (decide (65536 < n) || (decide (65536 ≤ f) || decide (65536 < f + n)))
def anyIn (m : Mm) (f n : Nat) : Bool := (List.range n).any fun i => decide (f + i ∈ m.pgs)
def mapF (m : Mm) (f n : Int) : Mm × Int := if badP f n then (m, 1) else if anyIn m f.toNat n.toNat then (m, 32) else if m.bud < m.pgs.length + n.toNat then (m, 33) else (addN m f.toNat n.toNat, 0)
def isIn (m : Mm) (a : Int) : Bool := decide ((a / 256).toNat ∈ m.pgs)
def numE (m : Mm) (a n : Int) : Int := if n ≠ 1 ∧ n ≠ 2 ∧ n ≠ 4 ∧ n ≠ 8 then 1 else if a % n ≠ 0 then 31 else if isIn m a then 0 else 30
def spotE (m : Mm) (a : Int) : Int := if a % 32 ≠ 0 then 31 else if isIn m a then 0 else 30
def manyB (m : Mm) (a n : Nat) : List Nat := (List.range n).map fun i => m.by_ (a + i)
def loadF (m : Mm) (a n : Int) : Int × Int := if numE m a n = 0 then ((ofB (manyB m a.toNat n.toNat) : Nat), 0) else (0, numE m a n)
def storeF (m : Mm) (a n w : Int) : Mm × Int := if numE m a n = 0 then (wrL m a.toNat (littleN w.toNat n.toNat), 0) else (m, numE m a n)
structure Cp where
  b : Int
  t : Int
  a : Int
  p : Int
  y : Int
  g : Bool
def capC (c : Cp) : List Value := [.int .u64 c.b, .int .u64 c.t, .int .u64 c.a, .int .i64 c.p, .int .i64 c.y, .bool c.g]
def noCp : Cp := ⟨0, 0, 0, 0, 0, false⟩
def typeB (y : Int) : Nat := if 0 ≤ y then (y % 256).toNat else 255
def capB (c : Cp) : List Nat := littleN c.b.toNat 8 ++ (littleN c.t.toNat 8 ++ (littleN c.a.toNat 8 ++ [(c.p % 256).toNat, typeB c.y, 0, 0, 0, 0, 0, 0]))
def typeOf (n : Nat) : Int := if n ≤ 63 then n else -1
def capOf (m : Mm) (a : Nat) : Cp := ⟨(ofB (manyB m a 8) : Nat), (ofB (manyB m (a + 8) 8) : Nat), (ofB (manyB m (a + 16) 8) : Nat), (m.by_ (a + 24) : Nat), typeOf (m.by_ (a + 25)), decide (a / 32 ∈ m.mks)⟩
def loadC (m : Mm) (a : Int) : Cp × Int := if spotE m a = 0 then (capOf m a.toNat, 0) else (noCp, spotE m a)
def putC (m : Mm) (a : Nat) (c : Cp) : Mm := if c.g then tagP (wrL m a (capB c)) (a / 32) else wrL m a (capB c)
def storeC (m : Mm) (a : Int) (c : Cp) : Mm × Int := if spotE m a = 0 then (putC m a.toNat c, 0) else (m, spotE m a)
def allB (m : Mm) (a n : Nat) : Bool := (List.range n).all fun i => decide ((a + i) / 256 ∈ m.pgs)
theorem manyB_len (m : Mm) (a n : Nat) : (manyB m a n).length = n := by simp [manyB]
theorem manyB_get (m : Mm) (a n i : Nat) (h : i < (manyB m a n).length) : (manyB m a n)[i] = m.by_ (a + i) := by simp [manyB]
theorem manyB_lt {m : Mm} (h : Okm m) (a n : Nat) : ∀ b ∈ manyB m a n, b < 256 := fun b hb => by
  obtain ⟨i, -, rfl⟩ := List.mem_map.1 hb
  exact h.by_ _
theorem capB_len (c : Cp) : (capB c).length = 32 := by simp [capB, littleN_length]
theorem capB_lt (c : Cp) : ∀ b ∈ capB c, b < 256 := fun b hb => by
  have hl : ∀ w n, ∀ x ∈ littleN w n, x < 256 := fun w n x hx => by
    obtain ⟨i, -, rfl⟩ := List.mem_map.1 hx
    unfold byteN
    exact Nat.mod_lt _ (by decide)
  simp only [capB, List.mem_append, List.mem_cons, List.not_mem_nil, or_false] at hb
  rcases hb with h | h | h | h | h | h | h | h | h | h | h
  · exact hl _ _ _ h
  · exact hl _ _ _ h
  · exact hl _ _ _ h
  · subst h; omega
  · subst h; unfold typeB; split <;> omega
  all_goals (subst h; decide)
theorem addN_len (m : Mm) (f n : Nat) : (addN m f n).pgs.length = m.pgs.length + n ∧ (addN m f n).bud = m.bud ∧ (addN m f n).by_ = m.by_ ∧ (addN m f n).mks = m.mks := by
  induction n with
  | zero => exact ⟨rfl, rfl, rfl, rfl⟩
  | succ n ih => exact ⟨by show (ins _ _).length = _; rw [length_ins, ih.1]; omega, ih.2.1, ih.2.2.1, ih.2.2.2⟩
theorem addN_mem (m : Mm) (f n p : Nat) : p ∈ (addN m f n).pgs ↔ (f ≤ p ∧ p < f + n) ∨ p ∈ m.pgs := by
  induction n with
  | zero => show p ∈ m.pgs ↔ _; constructor; exact fun h => Or.inr h; rintro (h | h); omega; exact h
  | succ n ih =>
    show p ∈ ins _ _ ↔ _
    rw [mem_ins, ih]
    constructor
    · rintro (h | h | h)
      · exact Or.inl (by omega)
      · exact Or.inl (by omega)
      · exact Or.inr h
    · rintro (h | h)
      · by_cases e : p = f + n
        · exact Or.inl e
        · exact Or.inr (Or.inl (by omega))
      · exact Or.inr (Or.inr h)
end Go.Proofs.YtegoddghfjfibaaGreatDoor

