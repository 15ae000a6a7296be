/- What a program begins with tells its texts: plain mathematics. -/
import Derived.Test.YtjefkhieihigiaaAbL
import Derived.Test.YtjefkhieihigiaaTa5
import Derived.Test.YtjefkhieihigiaaTa2
namespace Go.Proofs.Ytjefkhieihigiaa
set_option linter.unusedVariables false
set_option linter.unusedSimpArgs false
open Go

theorem byteN_succ (w i : Nat) : byteN w (i + 1) = byteN (w / 256) i := by
  unfold byteN
  rw [Nat.div_div_eq_div_mul, show 8 * (i + 1) = 8 * i + 8 by omega, Nat.pow_add, Nat.mul_comm (2 ^ (8 * i)) (2 ^ 8)]
theorem littleN_cons (w n : Nat) : littleN w (n + 1) = w % 256 :: littleN (w / 256) n := by
  unfold littleN
  rw [List.range_succ_eq_map, List.map_cons, List.map_map]
  congr 1
  · unfold byteN; simp
  · refine List.map_congr_left fun i _ => ?_
    exact byteN_succ w i
theorem ofN_little (n w : Nat) : ofN (littleN w n) = w % 256 ^ n := by
  induction n generalizing w with
  | zero => rw [Nat.pow_zero, Nat.mod_one]; rfl
  | succ n ih =>
    rw [littleN_cons]
    show w % 256 + 256 * ofN (littleN (w / 256) n) = _
    rw [ih, Nat.pow_succ, Nat.mul_comm (256 ^ n) 256, Nat.mod_mul]
theorem ofB_little (w : Nat) (h : w < 18446744073709551616) : ofB (littleN w 8) = w := by
  unfold ofB
  rw [List.take_of_length_le (by rw [littleN_length]; exact Nat.le_refl _), ofN_little]
  exact Nat.mod_eq_of_lt (by simpa using h)
theorem manyB_cut (m : Mm) (a n i k : Nat) (h : i + k ≤ n) : manyB m (a + i) k = ((manyB m a n).drop i).take k := by
  refine List.ext_getElem (by rw [List.length_take, List.length_drop, manyB_len, manyB_len]; omega) fun j h1 h2 => ?_
  rw [manyB_get, List.getElem_take, List.getElem_drop, manyB_get, Nat.add_assoc]
theorem typeB_back {y : Int} (h0 : -1 ≤ y) (h1 : y ≤ 63) : typeOf (typeB y) = y := by
  unfold typeB
  split
  · unfold typeOf
    rw [if_pos (by omega)]
    omega
  · unfold typeOf
    rw [if_neg (by omega)]
    omega
theorem manyB_put (m : Mm) (a : Nat) (l : List Nat) : manyB (wrL m a l) a l.length = l := by
  refine List.ext_getElem (manyB_len _ _ _) fun i h1 h2 => ?_
  rw [manyB_get, wrL_by, dif_pos ⟨by omega, by omega⟩]
  congr 1
  omega
theorem tagP_all (m : Mm) (g : Nat) : (tagP m g).by_ = m.by_ ∧ (tagP m g).pgs = m.pgs ∧ (tagP m g).mks = ins g m.mks := ⟨rfl, rfl, rfl⟩
theorem putC_by (m : Mm) (a : Nat) (c : Cp) : (putC m a c).by_ = (wrL m a (capB c)).by_ ∧ (putC m a c).pgs = m.pgs := by
  have hp := (wrL_pgs m a (capB c)).1
  unfold putC
  generalize wrL m a (capB c) = x at *
  split
  · exact ⟨(tagP_all x _).1, (tagP_all x _).2.1.trans hp⟩
  · exact ⟨rfl, hp⟩
theorem capOf_put {m : Mm} {a : Nat} {c : Cp} (ha : a % 32 = 0) (hf : FitC c) (hr : rightB c = true) : capOf (putC m a c) a = c := by
  have h32 : manyB (putC m a c) a 32 = capB c := by
    have := manyB_put m a (capB c)
    rw [capB_len] at this
    unfold manyB at this ⊢
    rw [(putC_by m a c).1]
    exact this
  have e0 : manyB (putC m a c) a 8 = littleN c.b.toNat 8 := by
    have := manyB_cut (putC m a c) a 32 0 8 (by decide)
    rw [h32] at this
    exact this
  have e1 : manyB (putC m a c) (a + 8) 8 = littleN c.t.toNat 8 := by rw [manyB_cut (putC m a c) a 32 8 8 (by decide), h32]; rfl
  have e2 : manyB (putC m a c) (a + 16) 8 = littleN c.a.toNat 8 := by rw [manyB_cut (putC m a c) a 32 16 8 (by decide), h32]; rfl
  have e3 : (putC m a c).by_ (a + 24) = (c.p % 256).toNat := by
    have h : (manyB (putC m a c) a 32)[24]? = some ((putC m a c).by_ (a + 24)) := by rw [List.getElem?_eq_getElem (by rw [manyB_len]; decide), manyB_get]
    rw [h32] at h
    exact (Option.some.inj h).symm
  have e4 : (putC m a c).by_ (a + 25) = typeB c.y := by
    have h : (manyB (putC m a c) a 32)[25]? = some ((putC m a c).by_ (a + 25)) := by rw [List.getElem?_eq_getElem (by rw [manyB_len]; decide), manyB_get]
    rw [h32] at h
    exact (Option.some.inj h).symm
  have e5 : decide (a / 32 ∈ (putC m a c).mks) = c.g := by
    unfold putC
    cases hg : c.g with
    | true =>
      rw [if_pos rfl]
      rw [(tagP_all _ _).2.2]
      exact decide_eq_true ((mem_ins _ _ _).2 (Or.inl rfl))
    | false =>
      rw [if_neg (by decide)]
      refine decide_eq_false fun h => ?_
      rw [wrL_mk m a (capB c) (fun e => by have := capB_len c; rw [e] at this; cases this), capB_len] at h
      have h3 := (List.mem_filter.1 h).2
      have : inGr a 32 (a / 32) = true := by
        unfold inGr
        rw [decide_eq_true (by omega), decide_eq_true (by omega)]
        rfl
      rw [this] at h3
      cases h3
  obtain ⟨b0, b1, t0, t1, a0, a1⟩ := hf
  simp only [rightB, Bool.and_eq_true, decide_eq_true_eq] at hr
  obtain ⟨p0, p1, y0, y1⟩ := hr
  unfold capOf
  rw [e0, e1, e2, e3, e4, e5, ofB_little _ (by omega), ofB_little _ (by omega), ofB_little _ (by omega), typeB_back y0 y1, Int.toNat_of_nonneg b0, Int.toNat_of_nonneg t0, Int.toNat_of_nonneg a0, Int.toNat_of_nonneg (by omega), Int.emod_eq_of_lt p0 (by omega)]

theorem capOf_congr {m m' : Mm} {a : Nat} (h : ∀ j, j < 32 → m.by_ (a + j) = m'.by_ (a + j)) (hk : a / 32 ∈ m.mks ↔ a / 32 ∈ m'.mks) : capOf m a = capOf m' a := by
  have hm : ∀ k n, k + n ≤ 32 → manyB m (a + k) n = manyB m' (a + k) n := fun k n hkn => by
    unfold manyB
    refine List.map_congr_left fun i hi => ?_
    have := List.mem_range.1 hi
    rw [Nat.add_assoc]
    exact h _ (by omega)
  have h0 := hm 0 8 (by omega)
  rw [Nat.add_zero] at h0
  have hd : decide (a / 32 ∈ m.mks) = decide (a / 32 ∈ m'.mks) := decide_eq_decide.2 hk
  unfold capOf
  rw [h0, hm 8 8 (by omega), hm 16 8 (by omega), h 24 (by omega), h 25 (by omega), hd]
theorem capB_ne (c : Cp) : capB c ≠ [] := fun e => by have := capB_len c; rw [e] at this; cases this
theorem putC_byO (m : Mm) (a : Nat) (c : Cp) (y : Nat) (h : y < a ∨ a + 32 ≤ y) : (putC m a c).by_ y = m.by_ y := by
  rw [(putC_by m a c).1, wrL_by, dif_neg (by rw [capB_len]; omega)]
theorem putC_mkO (m : Mm) (a : Nat) (c : Cp) (g : Nat) (ha : a % 32 = 0) (hg : g ≠ a / 32) : g ∈ (putC m a c).mks ↔ g ∈ m.mks := by
  have hw : g ∈ (wrL m a (capB c)).mks ↔ g ∈ m.mks := by
    rw [wrL_mk m a (capB c) (capB_ne c), capB_len, List.mem_filter]
    have : inGr a 32 g = false := by
      unfold inGr
      by_cases h1 : a ≤ 32 * g + 31
      · rw [decide_eq_true h1, decide_eq_false (by omega)]; rfl
      · rw [decide_eq_false h1]; rfl
    rw [this]
    simp
  unfold putC
  split
  · rw [(tagP_all _ _).2.2, mem_ins]
    constructor
    · rintro (h | h)
      · exact absurd h hg
      · exact hw.1 h
    · intro h; exact Or.inr (hw.2 h)
  · exact hw
theorem capOf_putO (m : Mm) (a a' : Nat) (c : Cp) (ha : a % 32 = 0) (ha' : a' % 32 = 0) (hne : a' ≠ a) : capOf (putC m a c) a' = capOf m a' :=
  capOf_congr (fun j hj => putC_byO m a c _ (by omega)) (putC_mkO m a c _ ha (by omega))
theorem storeC_pgs (m : Mm) (a : Int) (c : Cp) : (storeC m a c).1.pgs = m.pgs := by
  unfold storeC
  split
  · exact (putC_by m _ c).2
  · rfl
theorem layC_pgs : ∀ (l : List Cp) (m : Mm) (x : Nat), (layC m x l).pgs = m.pgs
  | [], m, x => rfl
  | c :: r, m, x => by rw [layC, layC_pgs r, storeC_pgs]
theorem layC_byO : ∀ (l : List Cp) (m : Mm) (x y : Nat), (y < x ∨ x + 32 * l.length ≤ y) → (layC m x l).by_ y = m.by_ y
  | [], m, x, y, h => rfl
  | c :: r, m, x, y, h => by
    rw [List.length_cons] at h
    rw [layC, layC_byO r _ _ _ (by omega)]
    unfold storeC
    split
    · rw [Int.toNat_natCast]; exact putC_byO m x c y (by omega)
    · rfl
theorem layC_capO : ∀ (l : List Cp) (m : Mm) (x a : Nat), x % 32 = 0 → a % 32 = 0 → (a < x ∨ x + 32 * l.length ≤ a) → capOf (layC m x l) a = capOf m a
  | [], m, x, a, _, _, h => rfl
  | c :: r, m, x, a, hx, ha, h => by
    rw [List.length_cons] at h
    rw [layC, layC_capO r _ _ _ (by omega) ha (by omega)]
    unfold storeC
    split
    · rw [Int.toNat_natCast]; exact capOf_putO m x a c hx ha (by omega)
    · rfl
theorem spotE_zero {m : Mm} {a : Nat} (ha : a % 32 = 0) (hp : a / 256 ∈ m.pgs) : spotE m (a : Int) = 0 := by
  unfold spotE isIn
  rw [if_neg (by omega), show ((a : Int) / 256).toNat = a / 256 by omega, decide_eq_true hp, if_pos rfl]
theorem layC_at : ∀ (l : List Cp) (m : Mm) (x i : Nat) (hi : i < l.length), x % 32 = 0 → (∀ c ∈ l, FitC c ∧ rightB c = true) → (∀ j, j < l.length → (x + 32 * j) / 256 ∈ m.pgs) → capOf (layC m x l) (x + 32 * i) = l[i]
  | c :: r, m, x, i, hi, hx, hc, hp => by
    have h0 : (storeC m x c).1 = putC m x c := by
      unfold storeC
      rw [spotE_zero hx (by have := hp 0 (by simp); simpa using this), if_pos rfl, Int.toNat_natCast]
    rw [layC, h0]
    cases i with
    | zero =>
      rw [Nat.mul_zero]
      exact (layC_capO r (putC m x c) (x + 32) x (by omega) hx (Or.inl (by omega))).trans (capOf_put hx (hc c (by simp)).1 (hc c (by simp)).2)
    | succ i =>
      have hi' : i < r.length := by simpa using hi
      have := layC_at r (putC m x c) (x + 32) i hi' (by omega) (fun d hd => hc d (List.mem_cons_of_mem _ hd)) (fun j hj => by
        rw [(putC_by m x c).2]
        have := hp (j + 1) (by simp; omega)
        rwa [show x + 32 * (j + 1) = x + 32 + 32 * j by omega] at this)
      rw [show x + 32 * (i + 1) = x + 32 + 32 * i by omega, this]
      rfl
theorem putF_pgs (m : Mm) (a : Int) (l : List Nat) : (putF m a l).1.pgs = m.pgs := by
  unfold putF
  split
  · exact (wrL_pgs _ _ _).1
  · rfl
theorem layT_pgs : ∀ (l : List (List UInt8)) (m : Mm) (x : Nat), (layT m x l).pgs = m.pgs
  | [], m, x => rfl
  | s :: r, m, x => by rw [layT, layT_pgs r, putF_pgs]
theorem putF_byO (m : Mm) (x : Nat) (l : List Nat) (y : Nat) (h : y < x ∨ x + l.length ≤ y) : (putF m (x : Int) l).1.by_ y = m.by_ y := by
  unfold putF
  split
  · rw [Int.toNat_natCast, wrL_by, dif_neg (by omega)]
  · rfl
theorem layT_byO : ∀ (l : List (List UInt8)) (m : Mm) (x y : Nat), (y < x ∨ x + lensN l ≤ y) → (layT m x l).by_ y = m.by_ y
  | [], m, x, y, h => rfl
  | s :: r, m, x, y, h => by
    rw [lensN_cons] at h
    rw [layT, layT_byO r _ _ _ (by omega), putF_byO _ _ _ _ (by rw [byteS_len]; omega)]
theorem manyB_congr {m m' : Mm} {a n : Nat} (h : ∀ y, a ≤ y → y < a + n → m.by_ y = m'.by_ y) : manyB m a n = manyB m' a n := by
  unfold manyB
  refine List.map_congr_left fun i hi => ?_
  have := List.mem_range.1 hi
  exact h _ (by omega) (by omega)
theorem lensN_take_succ (l : List (List UInt8)) (i : Nat) (hi : i < l.length) : lensN (l.take (i + 1)) = lensN (l.take i) + (l[i].length + 1) := by
  rw [List.take_succ_eq_append_getElem hi, lensN_app, lensN_cons, lensN_nil]
theorem lensN_take_lt (l : List (List UInt8)) (i : Nat) (hi : i < l.length) : lensN (l.take i) + (l[i].length + 1) ≤ lensN l := by
  rw [← lensN_take_succ l i hi]; exact lensN_take l _
theorem layT_at : ∀ (l : List (List UInt8)) (m : Mm) (x i : Nat) (hi : i < l.length), (∀ y, x ≤ y → y < x + lensN l → y / 256 ∈ m.pgs) → manyB (layT m x l) (x + lensN (l.take i)) (l[i].length + 1) = byteS l[i]
  | s :: r, m, x, i, hi, hp => by
    rw [lensN_cons] at hp
    rw [layT]
    have hall : allB m ((x : Nat) : Int).toNat (byteS s).length = true := by
      unfold allB
      rw [List.all_eq_true]
      intro j hj
      have hj2 := List.mem_range.1 hj
      rw [byteS_len] at hj2
      rw [Int.toNat_natCast]
      exact decide_eq_true (hp (x + j) (by omega) (by omega))
    cases i with
    | zero =>
      rw [List.take_zero, lensN_nil, Nat.add_zero, List.getElem_cons_zero]
      rw [manyB_congr (m' := (putF m x (byteS s)).1) (fun y h1 h2 => layT_byO r _ _ _ (by omega))]
      unfold putF
      rw [hall, if_pos rfl, Int.toNat_natCast]
      have := manyB_put m x (byteS s)
      rwa [byteS_len] at this
    | succ i =>
      have hi' : i < r.length := by simpa using hi
      have := layT_at r (putF m x (byteS s)).1 (x + (s.length + 1)) i hi' (fun y h1 h2 => by rw [putF_pgs]; exact hp y (by omega) (by omega))
      rw [List.take_succ_cons, lensN_cons, List.getElem_cons_succ, show x + (s.length + 1 + lensN (r.take i)) = x + (s.length + 1) + lensN (r.take i) by omega]
      exact this
theorem capsT_get : ∀ (l : List (List UInt8)) (x i : Nat) (hi : i < l.length), (capsT x l)[i]? = some (spanC ((x + lensN (l.take i) : Nat) : Int) ((x + lensN (l.take i) + (l[i].length + 1) : Nat) : Int) 1)
  | s :: r, x, 0, hi => by simp [capsT, lensN_nil]
  | s :: r, x, i + 1, hi => by
    have hi' : i < r.length := by simpa using hi
    rw [capsT, List.getElem?_cons_succ, capsT_get r _ i hi', List.take_succ_cons, lensN_cons, List.getElem_cons_succ, show x + (s.length + 1 + lensN (r.take i)) = x + (s.length + 1) + lensN (r.take i) by omega]
theorem capsT_right : ∀ (l : List (List UInt8)) (x : Nat), x + lensN l < 18446744073709551616 → ∀ c ∈ capsT x l, FitC c ∧ rightB c = true
  | [], x, _, c, h => by cases h
  | s :: r, x, hx, c, h => by
    rw [lensN_cons] at hx
    rcases List.mem_cons.1 h with e | h
    · subst e
      refine ⟨⟨?_, ?_, ?_, ?_, ?_, ?_⟩, rfl⟩ <;> simp only [spanC] <;> omega
    · exact capsT_right r (x + (s.length + 1)) (by omega) c h
theorem null_right : FitC nullC ∧ rightB nullC = true := ⟨⟨by decide, by decide, by decide, by decide, by decide, by decide⟩, rfl⟩
/-- a list at p tells texts that stand from x on -/
structure Told (m : Mm) (p x : Nat) (l : List (List UInt8)) : Prop where
  cap : ∀ i (h : i < l.length), loadC m ((p + 32 * i : Nat) : Int) = (spanC ((x + lensN (l.take i) : Nat) : Int) ((x + lensN (l.take i) + (l[i].length + 1) : Nat) : Int) 1, 0)
  byt : ∀ i (h : i < l.length), bytesF m ((x + lensN (l.take i) : Nat) : Int) ((l[i].length + 1 : Nat) : Int) = byteS l[i]
  fin : loadC m ((p + 32 * l.length : Nat) : Int) = (nullC, 0)
theorem loadC_at {m : Mm} {a : Nat} (ha : a % 32 = 0) (hp : a / 256 ∈ m.pgs) : loadC m (a : Int) = (capOf m a, 0) := by
  unfold loadC
  rw [spotE_zero ha hp, if_pos rfl, Int.toNat_natCast]
theorem told_of {m m0 : Mm} {p x : Nat} {l : List (List UInt8)} (hp : p % 32 = 0) (hx : x + lensN l < 18446744073709551616) (hlen : ∀ s ∈ l, s.length ≤ 200)
    (hpg : ∀ y, x ≤ y → y < x + lensN l → y / 256 ∈ m.pgs) (hpl : ∀ j, j ≤ l.length → (p + 32 * j) / 256 ∈ m.pgs)
    (hc : ∀ i (h : i ≤ l.length), capOf m (p + 32 * i) = capOf (layC m0 p (capsT x l ++ [nullC])) (p + 32 * i)) (hm0 : m0.pgs = m.pgs)
    (hb : ∀ i (h : i < l.length), manyB m (x + lensN (l.take i)) (l[i].length + 1) = byteS l[i]) : Told m p x l := by
  have hlen1 : (capsT x l ++ [nullC]).length = l.length + 1 := by rw [List.length_append, capsT_len]; rfl
  have hat : ∀ i (h : i ≤ l.length), loadC m ((p + 32 * i : Nat) : Int) = ((capsT x l ++ [nullC])[i]'(by omega), 0) := fun i h => by
    rw [loadC_at (by omega) (hpl i h), hc i h]
    rw [layC_at _ m0 p i (by omega) hp (fun c hc => by
      rcases List.mem_append.1 hc with h1 | h1
      · exact capsT_right l x hx c h1
      · rw [List.mem_singleton] at h1; rw [h1]; exact null_right) (fun j hj => by rw [hm0]; exact hpl j (by omega))]
  refine ⟨fun i h => ?_, fun i h => ?_, ?_⟩
  · rw [hat i (by omega)]
    have h1 := capsT_get l x i h
    have h2 : (capsT x l ++ [nullC])[i]? = (capsT x l)[i]? := List.getElem?_append_left (by rw [capsT_len]; exact h)
    rw [h1, List.getElem?_eq_getElem (by omega)] at h2
    rw [Option.some.inj h2]
  · have hs := hlen l[i] (List.getElem_mem h)
    have hle := lensN_take_lt l i h
    unfold bytesF
    rw [if_neg (by omega), Int.toNat_natCast, Int.toNat_natCast, if_pos (by
      unfold allB
      rw [List.all_eq_true]
      intro j hj
      have hj2 := List.mem_range.1 hj
      exact decide_eq_true (hpg _ (by omega) (by omega)))]
    exact hb i h
  · rw [hat l.length (by omega)]
    have h2 : (capsT x l ++ [nullC])[l.length]? = some nullC := by rw [List.getElem?_append_right (by rw [capsT_len]; exact Nat.le_refl _), capsT_len, Nat.sub_self]; rfl
    rw [List.getElem?_eq_getElem (by omega)] at h2
    rw [Option.some.inj h2]
theorem upN_mod (n : Nat) : upN n % 32 = 0 := by unfold upN; omega
theorem upN_ge (n : Nat) : n ≤ upN n := by unfold upN; omega
/-- what is laid is told -/
theorem lay_told (m : Mm) (x y : Nat) (a e : List (List UInt8)) (k : List Cp) (ha : ∀ s ∈ a, s.length ≤ 200) (he : ∀ s ∈ e, s.length ≤ 200)
    (hy : listN x a e + 32 * (a.length + 1) + 32 * (e.length + 1) + 32 * (k.length + 1) ≤ y) (hy2 : y < 18446744073709551616) (hp : ∀ z, x ≤ z → z < y → z / 256 ∈ m.pgs) (hk : ∀ c ∈ k, FitC c ∧ rightB c = true) :
    Told (layM m x a e k) (listN x a e) x a ∧ Told (layM m x a e k) (listN x a e + 32 * (a.length + 1)) (x + lensN a) e ∧
    loadC (layM m x a e k) ((listN x a e + 32 * (a.length + 1) + 32 * (e.length + 1) + 32 * k.length : Nat) : Int) = (nullC, 0) := by
  have hs0 : listN x a e % 32 = 0 := upN_mod _
  have hs1 : x + lensN a + lensN e ≤ listN x a e := upN_ge _
  unfold layM
  obtain ⟨s, hs⟩ : ∃ s, listN x a e = s := ⟨_, rfl⟩
  rw [hs] at hs0 hs1 hy ⊢
  obtain ⟨m1, hm1⟩ : ∃ m1, layT (layT m x a) (x + lensN a) e = m1 := ⟨_, rfl⟩
  have q1 : m1.pgs = m.pgs := by rw [← hm1, layT_pgs, layT_pgs]
  have t1 : ∀ i (h : i < a.length), manyB m1 (x + lensN (a.take i)) (a[i].length + 1) = byteS a[i] := fun i h => by
    have hle := lensN_take_lt a i h
    rw [← hm1, manyB_congr (m' := layT m x a) (fun z h1 h2 => layT_byO e _ _ _ (by omega))]
    exact layT_at a m x i h (fun z h1 h2 => hp z h1 (by omega))
  have t2 : ∀ i (h : i < e.length), manyB m1 (x + lensN a + lensN (e.take i)) (e[i].length + 1) = byteS e[i] := fun i h => by
    rw [← hm1]
    exact layT_at e _ (x + lensN a) i h (fun z h1 h2 => by rw [layT_pgs]; exact hp z (by omega) (by omega))
  rw [hm1]
  clear hm1
  obtain ⟨m2, hm2⟩ : ∃ m2, layC m1 s (capsT x a ++ [nullC]) = m2 := ⟨_, rfl⟩
  rw [hm2]
  obtain ⟨u, hu⟩ : ∃ u, s + 32 * (a.length + 1) = u := ⟨_, rfl⟩
  rw [hu] at hy ⊢
  obtain ⟨m3, hm3⟩ : ∃ m3, layC m2 u (capsT (x + lensN a) e ++ [nullC]) = m3 := ⟨_, rfl⟩
  rw [hm3]
  obtain ⟨v, hv⟩ : ∃ v, u + 32 * (e.length + 1) = v := ⟨_, rfl⟩
  rw [hv] at hy ⊢
  obtain ⟨m4, hm4⟩ : ∃ m4, layC m3 v (k ++ [nullC]) = m4 := ⟨_, rfl⟩
  rw [hm4]
  have la : (capsT x a ++ [nullC]).length = a.length + 1 := by rw [List.length_append, capsT_len]; rfl
  have le : (capsT (x + lensN a) e ++ [nullC]).length = e.length + 1 := by rw [List.length_append, capsT_len]; rfl
  have lk : (k ++ [nullC]).length = k.length + 1 := by rw [List.length_append]; rfl
  have q2 : m2.pgs = m.pgs := by rw [← hm2, layC_pgs, q1]
  have q3 : m3.pgs = m.pgs := by rw [← hm3, layC_pgs, q2]
  have q4 : m4.pgs = m.pgs := by rw [← hm4, layC_pgs, q3]
  have low : ∀ z, z < s → m4.by_ z = m1.by_ z := fun z hz => by
    rw [← hm4, layC_byO _ _ _ _ (by omega), ← hm3, layC_byO _ _ _ _ (by omega), ← hm2, layC_byO _ _ _ _ (by omega)]
  refine ⟨told_of (m0 := m1) hs0 (by omega) ha (fun z h1 h2 => by rw [q4]; exact hp z h1 (by omega)) (fun j hj => by rw [q4]; exact hp _ (by omega) (by omega)) (fun i h => ?_) (by rw [q1, q4]) (fun i h => ?_),
    told_of (m0 := m2) (by omega) (by omega) he (fun z h1 h2 => by rw [q4]; exact hp z (by omega) (by omega)) (fun j hj => by rw [q4]; exact hp _ (by omega) (by omega)) (fun i h => ?_) (by rw [q2, q4]) (fun i h => ?_), ?_⟩
  · rw [← hm4, layC_capO _ _ _ _ (by omega) (by omega) (by omega), ← hm3, layC_capO _ _ _ _ (by omega) (by omega) (by omega), hm2]
  · have hle := lensN_take_lt a i h
    rw [manyB_congr (m' := m1) (fun z h1 h2 => low z (by omega))]
    exact t1 i h
  · rw [← hm4, layC_capO _ _ _ _ (by omega) (by omega) (by omega), hm3]
  · have hle := lensN_take_lt e i h
    rw [manyB_congr (m' := m1) (fun z h1 h2 => low z (by omega))]
    exact t2 i h
  · rw [loadC_at (by omega) (by rw [q4]; exact hp _ (by omega) (by omega)), ← hm4, layC_at (k ++ [nullC]) m3 v k.length (by omega) (by omega) (fun c hc => by
      rcases List.mem_append.1 hc with h1 | h1
      · exact hk c h1
      · rw [List.mem_singleton] at h1; rw [h1]; exact null_right) (fun j hj => by rw [q3]; exact hp _ (by omega) (by omega))]
    have h2 : (k ++ [nullC])[k.length]? = some nullC := by rw [List.getElem?_append_right (Nat.le_refl _), Nat.sub_self]; rfl
    rw [List.getElem?_eq_getElem (by omega)] at h2
    rw [Option.some.inj h2]
end Go.Proofs.Ytjefkhieihigiaa
