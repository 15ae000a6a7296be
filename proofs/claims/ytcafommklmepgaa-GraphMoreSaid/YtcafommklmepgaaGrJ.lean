/- The chapter's examples hold. -/
import Derived.Test.YtcafommklmepgaaGrI
namespace Go.Proofs.Ytcafommklmepgaa
set_option linter.unusedVariables false
set_option linter.unusedSimpArgs false
open Go.Joins Go.ChangeShapes Go.WideShapes Go.ChangeAt Go.RowKit

theorem lib_any (name : List UInt8) (na : Option Addr) (n nc : Nat) (w : World) :
    Calls Try.prog 23 #[.string ⟨name.toArray⟩, .slice na n nc] w fun e w' => e = .returned (.agg #[.string ⟨name.toArray⟩, .slice na n nc, .slice none 0 0, .slice none 0 0, .slice none 0 0, .slice none 0 0, .slice none 0 0]) ∧ Below w.heap.size w w' := by
  go_enter Try.func23, Try.ntmps23
  go_wp2_with fail
  refine bodyPost_ret (v := .agg #[.string ⟨name.toArray⟩, .slice na n nc, .slice none 0 0, .slice none 0 0, .slice none 0 0, .slice none 0 0, .slice none 0 0]) ?_ rfl ⟨rfl, ?_⟩
  · simp [results, Try.results23, go_sem]
  · repeat' (first | (with_reducible refine Below.setCell ?_ ?_ _) | exact bAlloc (Below.refl _ _) _ | exact Nat.le_refl _)
def libO (name : List UInt8) (needs : List (List UInt8)) (na : Option Addr) (nc : Nat) : Obj := ⟨name, needs, na, nc, none, 0, 0, none, 0, 0, none, 0, 0, none, 0, 0, none, 0, 0⟩
/-- the chapter's four objects, and its ring -/
def exA (p q r : Option Addr) (x y z u : Nat) : List Obj := [libO [97] [[98], [99]] p x, libO [98] [[100]] q y, libO [99] [[100]] r z, libO [100] [] none u]
def exR (p q : Option Addr) (x y : Nat) : List Obj := [libO [97] [[98]] p x, libO [98] [[97]] q y]
def exX (p : Option Addr) (x : Nat) : List Obj := [libO [97] [[120]] p x]
theorem ex1 (p q r : Option Addr) (x y z u : Nat) : closR (exA p q r x y z u) [97] = .inl [0, 1, 2, 3] := rfl
theorem ex2 (p q r : Option Addr) (x y z u : Nat) : closR (exA p q r x y z u) [121] = .inr [121] := rfl
theorem ex3 (p : Option Addr) (x : Nat) : closR (exX p x) [97] = .inr [120] := rfl
theorem ex4 (p q r : Option Addr) (x y z u : Nat) : Vis (exA p q r x y z u) [0, 1, 2, 3] [] [] [some 0, some 1, some 2, some 3] [0, 1, 3, 2] [3, 1, 2, 0] :=
  .go rfl (show Vis _ _ _ _ [some 1, some 2] _ _ from .go rfl (show Vis _ _ _ _ [some 3] _ _ from .go rfl (show Vis _ _ _ _ [] _ _ from .nil _ _) (.nil _ _)) (.go rfl (show Vis _ _ _ _ [some 3] _ _ from .skip rfl (.nil _ _)) (.nil _ _))) (.skip rfl (.skip rfl (.skip rfl (.nil _ _))))
theorem ex5 (p q : Option Addr) (x y : Nat) : Vis (exR p q x y) [0, 1] [] [] [some 0, some 1] [0, 1] [1, 0] :=
  .go rfl (show Vis _ _ _ _ [some 1] _ _ from .go rfl (show Vis _ _ _ _ [some 0] _ _ from .skip rfl (.nil _ _)) (.nil _ _)) (.skip rfl (.nil _ _))
theorem named_small (l : List Obj) (h : l.all (fun o => decide (o.name.length ≤ 1) && (decide (o.needs.length ≤ 2) && o.needs.all (fun n => decide (n.length ≤ 1)))) = true) : Named l := by
  intro o ho
  have := List.all_eq_true.1 h o ho
  simp only [Bool.and_eq_true, decide_eq_true_eq, List.all_eq_true] at this
  obtain ⟨h1, h2, h3⟩ := this
  exact ⟨by unfold maxLen; omega, by omega, fun n hn => by have := h3 n hn; unfold maxLen; omega⟩
def objsC (l : List Obj) : List Value := l.flatMap objC
theorem objsC_get (l : List Obj) (k : Nat) (hk : k < l.length) (j : Nat) (hj : j < 7) : (objsC l)[k * 7 + j]? = (objC l[k])[j]? := by
  induction l generalizing k with
  | nil => simp at hk
  | cons s l ih =>
    have e : (objC s).length = 7 := rfl
    simp only [objsC, List.flatMap_cons]
    rcases Nat.eq_zero_or_pos k with rfl | hp
    · rw [List.getElem?_append_left (by omega)]; simp
    · obtain ⟨k, rfl⟩ : ∃ q, k = q + 1 := ⟨k - 1, by omega⟩
      rw [List.getElem?_append_right (by omega), e, show (k + 1) * 7 + j - 7 = k * 7 + j by omega]
      simp only [List.getElem_cons_succ]
      exact ih k (by simpa using hk)
theorem cells7_of {w : World} {b i : Nat} {o : Obj} (h : ∀ j, j < 7 → w.cell? ⟨b, i + j, none⟩ = (objC o)[j]?) : Cells7 w b i o :=
  ⟨h 0 (by decide), h 1 (by decide), h 2 (by decide), h 3 (by decide), h 4 (by decide), h 5 (by decide), h 6 (by decide)⟩
theorem RdO.lit (w : World) (l : List Obj) (t : TypeId) (hr : ∀ o ∈ l, Rd w o.na o.needs.length (txs o.needs)) : RdO (w.alloc (.cells (objsC l).toArray t)) (some ⟨w.heap.size, 0, none⟩) l :=
  ⟨fun _ => ⟨w.heap.size, 0, rfl, fun k hk => cells7_of fun j hj => by
    rw [Nat.zero_add, boxed (Below.refl _ _) (k * 7 + j)]
    simp only [List.getElem?_toArray]
    exact objsC_get l k hk j hj⟩, fun o ho => (hr o ho).alloc _⟩
theorem b_next {w w1 w2 : World} {o : Go.Obj} (h : Below w.heap.size w w1) (hb : Below (w1.alloc o).heap.size (w1.alloc o) w2) : Below w.heap.size w w2 := bTrans (bAlloc h o) hb
theorem rd_next {w1 w2 : World} {a : Option Addr} {n : Nat} {xs : List Value} {o : Go.Obj} (h : Rd w1 a n xs) (hb : Below (w1.alloc o).heap.size (w1.alloc o) w2) : Rd w2 a n xs := (h.alloc o).below hb
set_option maxRecDepth 100000 in
set_option maxHeartbeats 4000000 in
theorem awake_any (w : World) : Calls Try.prog 8 #[] w fun e w' => e = .returned (.bool true) ∧ Below w.heap.size w w' := by
  go_enter Try.func8, Try.ntmps8
  go_wp2_with fail
  refine (lib_any _ _ _ _ _).mono ?_; rintro e w1 ⟨rfl, hb1⟩
  have R1 := Lib.hid ((Rd.lit w #[.string ⟨#[98]⟩, .string ⟨#[99]⟩] 9 (by decide)).below hb1)
  have B1 := Lib.hid (bTrans (bAlloc (Below.refl _ _) _) hb1)
  clear hb1
  go_wp2_with fail
  refine (lib_any _ _ _ _ _).mono ?_; rintro e w2 ⟨rfl, hb2⟩
  have R2 := Lib.hid ((Rd.lit w1 #[.string ⟨#[100]⟩] 9 (by decide)).below hb2)
  have R1 := Lib.hid (rd_next R1.out hb2)
  have B2 := Lib.hid (b_next B1.out hb2)
  clear hb2
  go_wp2_with fail
  refine (lib_any _ _ _ _ _).mono ?_; rintro e w3 ⟨rfl, hb3⟩
  have R3 := Lib.hid ((Rd.lit w2 #[.string ⟨#[100]⟩] 9 (by decide)).below hb3)
  have R1 := Lib.hid (rd_next R1.out hb3)
  have R2 := Lib.hid (rd_next R2.out hb3)
  have B3 := Lib.hid (b_next B2.out hb3)
  clear hb3
  go_wp2_with fail
  refine (lib_any _ _ _ _ _).mono ?_; rintro e w4 ⟨rfl, hb4⟩
  have hA := RdO.lit w4 (exA (some ⟨w.heap.size, 0, none⟩) (some ⟨w1.heap.size, 0, none⟩) (some ⟨w2.heap.size, 0, none⟩) 2 1 1 0) 43 (by
    intro o ho
    simp only [exA, List.mem_cons, List.not_mem_nil, or_false] at ho
    rcases ho with rfl | rfl | rfl | rfl
    · exact R1.out.below hb4
    · exact R2.out.below hb4
    · exact R3.out.below hb4
    · exact Rd.nil _ _)
  have B4 := Lib.hid (bTrans B3.out hb4)
  have HA := Lib.hid hA
  clear hA hb4 R1 R2 R3
  go_wp2_with fail
  refine (lib_any _ _ _ _ _).mono ?_; rintro e w5 ⟨rfl, hb5⟩
  have R5 := Lib.hid ((Rd.lit (w4.alloc _) #[.string ⟨#[98]⟩] 9 (by decide)).below hb5)
  have HA := Lib.hid ((HA.out.below (bAlloc (Below.refl _ _) _)).below hb5)
  have B5 := Lib.hid (b_next (bAlloc B4.out _) hb5)
  clear hb5
  go_wp2_with fail
  refine (lib_any _ _ _ _ _).mono ?_; rintro e w6 ⟨rfl, hb6⟩
  have R6 := Lib.hid ((Rd.lit w5 #[.string ⟨#[97]⟩] 9 (by decide)).below hb6)
  have hR := RdO.lit w6 (exR (some ⟨w4.heap.size + 1, 0, none⟩) (some ⟨w5.heap.size, 0, none⟩) 1 1) 43 (by
    intro o ho
    simp only [exR, List.mem_cons, List.not_mem_nil, or_false] at ho
    rcases ho with rfl | rfl
    · have := (R5.out.alloc (.cells #[.string ⟨#[97]⟩] 9)).below hb6
      rw [size_alloc] at this
      exact this
    · exact R6.out)
  have HR := Lib.hid hR
  have HA := Lib.hid ((HA.out.below (bAlloc (Below.refl _ _) _)).below hb6)
  have B6 := Lib.hid (b_next B5.out hb6)
  clear hb6 hR R5 R6
  go_wp2_with fail
  refine (closure_any _ (exA _ _ _ 2 1 1 0) 4 [97] _ (HA.out.below (bAlloc (Below.refl _ _) _)) (by show 4 ≤ 1000000; decide) (named_small _ rfl) (by decide)).mono ?_
  rintro e w7 ⟨hb7, hp⟩
  rw [ex1] at hp
  obtain ⟨a7, c7, rfl, hr7⟩ := hp
  have R7 := Lib.hid hr7
  have HA := Lib.hid ((HA.out.below (bAlloc (Below.refl _ _) _)).below hb7)
  have HR := Lib.hid (HR.out.below hb7)
  have B7 := Lib.hid (bTrans (bAlloc B6.out _) hb7)
  clear hb7 hr7
  go_wp2_with fail
  refine (begin_any _ (exA _ _ _ 2 1 1 0) 4 _ [0, 1, 2, 3] c7 _ HA.out (by show 4 ≤ 1000000; decide) (named_small _ rfl) R7.out (by show ∀ k ∈ [0, 1, 2, 3], k < 4; decide) (by decide)).mono ?_
  rintro e w8 ⟨a8, c8, m8, o8, rfl, hv8, ho8, -, hb8⟩
  obtain ⟨-, rfl⟩ := Vis.det (ex4 _ _ _ _ _ _ _) hv8
  have R8 := Lib.hid (Rd.of_own ho8)
  have R7 := Lib.hid (R7.out.below hb8)
  have HA := Lib.hid (HA.out.below hb8)
  have HR := Lib.hid (HR.out.below hb8)
  have B8 := Lib.hid (bTrans B7.out hb8)
  clear hb8 hv8 ho8
  go_wp2_with fail
  have RL := Lib.hid (Rd.lit w8 #[.int .i64 0, .int .i64 1] 3 (by decide))
  refine (begin_any _ (exR _ _ 1 1) 2 _ [0, 1] 2 _ (HR.out.below (bAlloc (Below.refl _ _) _)) (by show 2 ≤ 1000000; decide) (named_small _ rfl) RL.out (by show ∀ k ∈ [0, 1], k < 2; decide) (by decide)).mono ?_
  rintro e w9 ⟨a9, c9, m9, o9, rfl, hv9, ho9, -, hb9⟩
  obtain ⟨-, rfl⟩ := Vis.det (ex5 _ _ _ _) hv9
  have R9 := Lib.hid (Rd.of_own ho9)
  have R8 := Lib.hid (rd_next R8.out hb9)
  have R7 := Lib.hid (rd_next R7.out hb9)
  have HA := Lib.hid ((HA.out.below (bAlloc (Below.refl _ _) _)).below hb9)
  have B9 := Lib.hid (b_next B8.out hb9)
  clear hb9 hv9 ho9 HR RL
  go_wp2_with fail
  refine (lib_any _ _ _ _ _).mono ?_; rintro e w10 ⟨rfl, hb10⟩
  have R10 := Lib.hid ((Rd.lit w9 #[.string ⟨#[120]⟩] 9 (by decide)).below hb10)
  have R9 := Lib.hid (rd_next R9.out hb10)
  have R8 := Lib.hid (rd_next R8.out hb10)
  have R7 := Lib.hid (rd_next R7.out hb10)
  have HA := Lib.hid ((HA.out.below (bAlloc (Below.refl _ _) _)).below hb10)
  have B10 := Lib.hid (b_next B9.out hb10)
  have hX := RdO.lit w10 (exX (some ⟨w9.heap.size, 0, none⟩) 1) 43 (by
    intro o ho
    simp only [exX, List.mem_cons, List.not_mem_nil, or_false] at ho
    subst ho
    exact R10.out)
  have HX := Lib.hid hX
  clear hb10 hX R10
  go_wp2_with fail
  refine (closure_any _ (exX _ 1) 1 [97] _ HX.out (by show 1 ≤ 1000000; decide) (named_small _ rfl) (by decide)).mono ?_
  rintro e w11 ⟨hb11, hp⟩
  rw [ex3] at hp
  subst hp
  have R9 := Lib.hid (rd_next R9.out hb11)
  have R8 := Lib.hid (rd_next R8.out hb11)
  have R7 := Lib.hid (rd_next R7.out hb11)
  have HA := Lib.hid ((HA.out.below (bAlloc (Below.refl _ _) _)).below hb11)
  have B11 := Lib.hid (b_next B10.out hb11)
  clear hb11 HX
  go_wp2_with fail
  refine (closure_any _ (exA _ _ _ 2 1 1 0) 4 [121] _ HA.out (by show 4 ≤ 1000000; decide) (named_small _ rfl) (by decide)).mono ?_
  rintro e w12 ⟨hb12, hp⟩
  rw [ex2] at hp
  subst hp
  have R9 := Lib.hid (R9.out.below hb12)
  have R8 := Lib.hid (R8.out.below hb12)
  have R7 := Lib.hid (R7.out.below hb12)
  have B12 := Lib.hid (bTrans B11.out hb12)
  clear hb12 HA
  have L1 := Lib.hid (Rd.lit w12 #[.int .i64 0, .int .i64 1, .int .i64 2, .int .i64 3] 3 (by decide))
  go_wp2_with fail
  refine (numbers_self _ _ 4 _ 4 _ (ordZ [0, 1, 2, 3]) _ (R7.out.alloc _) L1.out (by decide) (by decide)).mono ?_
  rintro e w13 ⟨rfl, hb13⟩
  have R9 := Lib.hid (rd_next R9.out hb13)
  have R8 := Lib.hid (rd_next R8.out hb13)
  have B13 := Lib.hid (b_next B12.out hb13)
  have L2 := Lib.hid (Rd.lit w13 #[.int .i64 3, .int .i64 1, .int .i64 2, .int .i64 0] 3 (by decide))
  clear hb13 L1 R7
  go_wp2_with fail
  refine (numbers_self _ _ 4 _ 4 _ (ordZ [3, 1, 2, 0]) _ (R8.out.alloc _) L2.out (by decide) (by decide)).mono ?_
  rintro e w14 ⟨rfl, hb14⟩
  have R9 := Lib.hid (rd_next R9.out hb14)
  have B14 := Lib.hid (b_next B13.out hb14)
  have L3 := Lib.hid (Rd.lit w14 #[.int .i64 1, .int .i64 0] 3 (by decide))
  clear hb14 L2 R8
  go_wp2_with fail
  refine (numbers_self _ _ 2 _ 2 _ (ordZ [1, 0]) _ (R9.out.alloc _) L3.out (by decide) (by decide)).mono ?_
  rintro e w15 ⟨rfl, hb15⟩
  have B15 := Lib.hid (b_next B14.out hb15)
  clear hb15 L3 R9
  go_wp2_with fail
  go_ret
  exact ⟨rfl, B15.out⟩
end Go.Proofs.Ytcafommklmepgaa
