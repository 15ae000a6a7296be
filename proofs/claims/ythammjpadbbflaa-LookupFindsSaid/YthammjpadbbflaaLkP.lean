/- The chapter's examples: contract. -/
import Derived.Test.YthammjpadbbflaaLkO
import Derived.Deep.RegionWith
namespace Go.Proofs.Ythammjpadbbflaa
set_option linter.unusedVariables false
set_option linter.unusedSimpArgs false
open Go.Joins Go.ChangeShapes Go.WideShapes Go.ChangeAt Go.RowKit Go.Deep Go.Shelf

theorem def_any (n v : List UInt8) (w : World) :
    Calls Try.prog 28 #[.string ⟨n.toArray⟩, .string ⟨v.toArray⟩] w fun e w' => e = .returned (.agg #[.string ⟨n.toArray⟩, .string ⟨v.toArray⟩, .int .u64 0, .int .u64 0, .int .i64 1, .int .i64 2, .int .i64 1, .bool true]) ∧ Below w.heap.size w w' := by
  go_enter Try.func28, Try.ntmps28
  go_wp2_with fail
  refine bodyPost_ret (v := .agg #[.string ⟨n.toArray⟩, .string ⟨v.toArray⟩, .int .u64 0, .int .u64 0, .int .i64 1, .int .i64 2, .int .i64 1, .bool true]) ?_ rfl ⟨rfl, bAlloc (Below.refl _ _) _⟩
  simp [results, Try.results28, go_sem]
theorem use_any (n v : List UInt8) (b : Int) (w : World) :
    Calls Try.prog 29 #[.string ⟨n.toArray⟩, .string ⟨v.toArray⟩, .int .i64 b] w fun e w' => e = .returned (.agg #[.string ⟨n.toArray⟩, .string ⟨v.toArray⟩, .int .u64 0, .int .u64 0, .int .i64 1, .int .i64 b, .int .i64 1, .bool false]) ∧ Below w.heap.size w w' := by
  go_enter Try.func29, Try.ntmps29
  go_wp2_with fail
  refine bodyPost_ret (v := .agg #[.string ⟨n.toArray⟩, .string ⟨v.toArray⟩, .int .u64 0, .int .u64 0, .int .i64 1, .int .i64 b, .int .i64 1, .bool false]) ?_ rfl ⟨rfl, bAlloc (Below.refl _ _) _⟩
  simp [results, Try.results29, go_sem]
theorem rds1 (W : World) (s : Sym) (t : TypeId) : RdS (W.alloc (.cells (symC s).toArray t)) (some ⟨W.heap.size, 0, none⟩) [s] := fun _ =>
  ⟨_, 0, rfl, by simp, fun k hk j => by
    have : k = 0 := by simp at hk; omega
    subst this
    rcases Nat.lt_or_ge j 8 with hj | hj
    · left
      rw [Nat.zero_mul, Nat.zero_add]
      have := (BoxN.new W (symC s).toArray t).cell j
      rw [this]
      simp
    · exact Or.inr hj⟩
theorem rds2 (W : World) (s s' : Sym) (t : TypeId) : RdS (W.alloc (.cells (symC s ++ symC s').toArray t)) (some ⟨W.heap.size, 0, none⟩) [s, s'] := fun _ =>
  ⟨_, 0, rfl, by simp, fun k hk j => by
    rcases Nat.lt_or_ge j 8 with hj | hj
    · left
      have hb := (BoxN.new W (symC s ++ symC s').toArray t).cell (0 + k * 8 + j)
      rw [hb]
      have hk2 : k = 0 ∨ k = 1 := by simp at hk; omega
      have hl : (symC s).length = 8 := rfl
      rcases hk2 with rfl | rfl
      · rw [List.getElem?_toArray, Nat.zero_mul, Nat.zero_add, List.getElem?_append_left (by rw [hl]; exact hj)]
        rfl
      · rw [List.getElem?_toArray, Nat.one_mul, Nat.zero_add, List.getElem?_append_right (by rw [hl]; omega), hl, Nat.add_sub_cancel_left]
        rfl
    · exact Or.inr hj⟩
theorem rdl2 (W : World) (s0 s1 : Option Addr) (l0 l1 : List Sym) (n0 n1 c0 c1 : Nat) (t : TypeId) (h0 : RdS W s0 l0) (e0 : l0.length = n0) (k0 : n0 ≤ c0) (h1 : RdS W s1 l1) (e1 : l1.length = n1) (k1 : n1 ≤ c1) :
    RdL (W.alloc (.cells #[.string ⟨#[]⟩, .slice none 0 0, .slice none 0 0, .slice s0 n0 c0, .slice none 0 0, .slice none 0 0, .slice none 0 0, .string ⟨#[]⟩, .slice none 0 0, .slice none 0 0, .slice s1 n1 c1, .slice none 0 0, .slice none 0 0, .slice none 0 0] t)) (some ⟨W.heap.size, 0, none⟩) [⟨l0, []⟩, ⟨l1, []⟩] := fun _ => by
  subst e0; subst e1
  have hb := BoxN.new W #[.string ⟨#[]⟩, .slice none 0 0, .slice none 0 0, .slice s0 l0.length c0, .slice none 0 0, .slice none 0 0, .slice none 0 0, .string ⟨#[]⟩, .slice none 0 0, .slice none 0 0, .slice s1 l1.length c1, .slice none 0 0, .slice none 0 0, .slice none 0 0] t
  refine ⟨_, 0, rfl, by simp, fun k hk => ?_⟩
  have hk2 : k = 0 ∨ k = 1 := by simp at hk; omega
  rcases hk2 with rfl | rfl
  · exact ⟨s0, c0, none, 0, hb.cell 3, hb.cell 4, h0.below (bAlloc (Below.refl _ _) _), k0, fun h => absurd h (by simp)⟩
  · exact ⟨s1, c1, none, 0, hb.cell 10, hb.cell 11, h1.below (bAlloc (Below.refl _ _) _), k1, fun h => absurd h (by simp)⟩
def sD (n v : List UInt8) : Sym := ⟨n, v, 0, 0, 1, 2, 1, true⟩
def sU (n v : List UInt8) (b : Int) : Sym := ⟨n, v, 0, 0, 1, b, 1, false⟩
def sL : Sym := ⟨[102], [], 0, 0, 1, 1, 1, true⟩
def exA : List Ob := [⟨[sD [102] []], []⟩, ⟨[sD [102] [], sD [103] []], []⟩]
def exB : List Ob := [⟨[sU [102] [118, 50] 2], []⟩, ⟨[sD [102] [118, 49]], []⟩]
def exC : List Ob := [⟨[sU [102] [] 3], []⟩, ⟨[], []⟩]
def exD : List Ob := [⟨[sL], []⟩, ⟨[sU [102] [] 2], []⟩]
theorem few_ex (l : List Ob) (h : shortB l = true) : FewO l := (few_of_short h).1
theorem fewA : FewO exA := few_ex _ (by decide +kernel)
theorem fewB : FewO exB := few_ex _ (by decide +kernel)
theorem fewC : FewO exC := few_ex _ (by decide +kernel)
theorem fewD : FewO exD := few_ex _ (by decide +kernel)
theorem exA1 : inL exA [102] [] [0, 1] = (0, 0) := by decide +kernel
theorem exA2 : inL exA [103] [] [0, 1] = (1, 1) := by decide +kernel
theorem exA3 : inL exA [104] [] [0, 1] = (-1, -1) := by decide +kernel
theorem exB1 : bindS exB [0, 1] 0 0 (sU [102] [118, 50] 2) = (0, 0, 141) := by decide +kernel
theorem exC1 : bindS exC [0, 1] 0 0 (sU [102] [] 3) = (-1, -1, 0) := by decide +kernel
theorem exD1 : bindS exD [0, 1] 1 0 (sU [102] [] 2) = (0, 0, 140) := by decide +kernel
theorem sc01 (l : List Ob) (h : l.length = 2) : ∀ k ∈ [0, 1], k < l.length := fun k hk => by simp at hk; omega
theorem rdO (W : World) (t : TypeId) : Rd (W.alloc (.cells #[.int .i64 0, .int .i64 1] t)) (some ⟨W.heap.size, 0, none⟩) 2 (ordV [0, 1]) := Rd.lit W #[.int .i64 0, .int .i64 1] t (by show 2 ≤ maxLen; decide)
theorem bindEx (l : List Ob) (hl2 : l.length = 2) (hf : FewO l) (a b : Option Addr) (c d : Nat) (o : Nat) (s : Sym) (r1 r2 r3 : Int) (ho : o < l.length) (hy : 0 < l[o].syms.length) (hs : l[o].syms[0] = s) (hb : bindS l [0, 1] (o : Int) 0 s = (r1, r2, r3)) (W : World) (hl : RdL W a l) (hr : Rd W b 2 (ordV [0, 1])) :
    Calls Try.prog 19 #[.slice a 2 c, .slice b 2 d, .int .i64 (o : Int), .int .i64 0] W fun e w' => e = .returned (.tuple #[.int .i64 r1, .int .i64 r2, .int .i64 r3]) ∧ Below W.heap.size W w' := by
  have h := bind_any a b c d l [0, 1] o 0 W hl hr (sc01 l hl2) hf (by decide) ho hy
  rw [hl2] at h
  have hb' : bindS l [0, 1] (o : Int) ((0 : Nat) : Int) l[o].syms[0] = (r1, r2, r3) := by rw [hs]; exact hb
  rw [hb'] at h
  exact h
theorem inEx (l : List Ob) (hl2 : l.length = 2) (hf : FewO l) (a b : Option Addr) (c d : Nat) (name : List UInt8) (r1 r2 : Int) (hn : name.length < 10) (hb : inL l name [] [0, 1] = (r1, r2)) (W : World) (hl : RdL W a l) (hr : Rd W b 2 (ordV [0, 1])) :
    Calls Try.prog 14 #[.slice a 2 c, .slice b 2 d, .string ⟨name.toArray⟩, .string ⟨#[]⟩] W fun e w' => e = .returned (.tuple #[.int .i64 r1, .int .i64 r2]) ∧ Below W.heap.size W w' := by
  have h := in_any a b c d l [0, 1] name [] W hl hr (sc01 l hl2) hf (by decide) (by omega)
  rw [hl2, hb] at h
  exact h
theorem bD1 (W u : World) (h : Below (W.alloc (.cells #[.string ⟨#[102]⟩, .string ⟨#[]⟩, .int .u64 0, .int .u64 0, .int .i64 1, .int .i64 1, .int .i64 1, .bool true] 45)).heap.size (W.alloc (.cells #[.string ⟨#[102]⟩, .string ⟨#[]⟩, .int .u64 0, .int .u64 0, .int .i64 1, .int .i64 1, .int .i64 1, .bool true] 45)) u) : RdL ((u.alloc (.cells #[.string ⟨#[102]⟩, .string ⟨#[]⟩, .int .u64 0, .int .u64 0, .int .i64 1, .int .i64 2, .int .i64 1, .bool false] 45)).alloc (.cells #[.string ⟨#[]⟩, .slice none 0 0, .slice none 0 0, .slice (some ⟨W.heap.size, 0, none⟩) 1 1, .slice none 0 0, .slice none 0 0, .slice none 0 0, .string ⟨#[]⟩, .slice none 0 0, .slice none 0 0, .slice (some ⟨u.heap.size, 0, none⟩) 1 1, .slice none 0 0, .slice none 0 0, .slice none 0 0] 37)) (some ⟨u.heap.size + 1, 0, none⟩) exD := by
  have h1 := (rds1 W sL 45).below (bTrans h (bAlloc (Below.refl u.heap.size u) (.cells #[.string ⟨#[102]⟩, .string ⟨#[]⟩, .int .u64 0, .int .u64 0, .int .i64 1, .int .i64 2, .int .i64 1, .bool false] 45)))
  have h2 := rds1 u (sU [102] [] 2) 45
  have hA := rdl2 (u.alloc (.cells #[.string ⟨#[102]⟩, .string ⟨#[]⟩, .int .u64 0, .int .u64 0, .int .i64 1, .int .i64 2, .int .i64 1, .bool false] 45)) (some ⟨W.heap.size, 0, none⟩) (some ⟨u.heap.size, 0, none⟩) [sL] [sU [102] [] 2] 1 1 1 1 37 h1 rfl (Nat.le_refl _) h2 rfl (Nat.le_refl _)
  rw [size_alloc] at hA
  exact hA
theorem bD1d (W u : World) (h : Below (W.alloc (.cells #[.string ⟨#[102]⟩, .string ⟨#[]⟩, .int .u64 0, .int .u64 0, .int .i64 1, .int .i64 1, .int .i64 1, .bool true] 45)).drew.heap.size (W.alloc (.cells #[.string ⟨#[102]⟩, .string ⟨#[]⟩, .int .u64 0, .int .u64 0, .int .i64 1, .int .i64 1, .int .i64 1, .bool true] 45)).drew u) : RdL ((u.alloc (.cells #[.string ⟨#[102]⟩, .string ⟨#[]⟩, .int .u64 0, .int .u64 0, .int .i64 1, .int .i64 2, .int .i64 1, .bool false] 45)).alloc (.cells #[.string ⟨#[]⟩, .slice none 0 0, .slice none 0 0, .slice (some ⟨W.heap.size, 0, none⟩) 1 1, .slice none 0 0, .slice none 0 0, .slice none 0 0, .string ⟨#[]⟩, .slice none 0 0, .slice none 0 0, .slice (some ⟨u.heap.size, 0, none⟩) 1 1, .slice none 0 0, .slice none 0 0, .slice none 0 0] 37)) (some ⟨u.heap.size + 1, 0, none⟩) exD :=
  bD1 W u ((Below.drew (Below.refl (W.alloc (.cells #[.string ⟨#[102]⟩, .string ⟨#[]⟩, .int .u64 0, .int .u64 0, .int .i64 1, .int .i64 1, .int .i64 1, .bool true] 45)).heap.size _)).trans h)
theorem bD2 (u : World) : RdL (((u.alloc (.cells #[.string ⟨#[102]⟩, .string ⟨#[]⟩, .int .u64 0, .int .u64 0, .int .i64 1, .int .i64 1, .int .i64 1, .bool true] 45)).alloc (.cells #[.string ⟨#[102]⟩, .string ⟨#[]⟩, .int .u64 0, .int .u64 0, .int .i64 1, .int .i64 2, .int .i64 1, .bool false] 45)).alloc (.cells #[.string ⟨#[]⟩, .slice none 0 0, .slice none 0 0, .slice (some ⟨u.heap.size, 0, none⟩) 1 1, .slice none 0 0, .slice none 0 0, .slice none 0 0, .string ⟨#[]⟩, .slice none 0 0, .slice none 0 0, .slice (some ⟨u.heap.size + 1, 0, none⟩) 1 1, .slice none 0 0, .slice none 0 0, .slice none 0 0] 37)) (some ⟨u.heap.size + 1 + 1, 0, none⟩) exD := by
  have h1 := (rds1 u sL 45).below (bAlloc (Below.refl _ _) (.cells #[.string ⟨#[102]⟩, .string ⟨#[]⟩, .int .u64 0, .int .u64 0, .int .i64 1, .int .i64 2, .int .i64 1, .bool false] 45))
  have h2 := rds1 (u.alloc (.cells #[.string ⟨#[102]⟩, .string ⟨#[]⟩, .int .u64 0, .int .u64 0, .int .i64 1, .int .i64 1, .int .i64 1, .bool true] 45)) (sU [102] [] 2) 45
  rw [size_alloc] at h2
  have hA := rdl2 ((u.alloc (.cells #[.string ⟨#[102]⟩, .string ⟨#[]⟩, .int .u64 0, .int .u64 0, .int .i64 1, .int .i64 1, .int .i64 1, .bool true] 45)).alloc (.cells #[.string ⟨#[102]⟩, .string ⟨#[]⟩, .int .u64 0, .int .u64 0, .int .i64 1, .int .i64 2, .int .i64 1, .bool false] 45)) (some ⟨u.heap.size, 0, none⟩) (some ⟨u.heap.size + 1, 0, none⟩) [sL] [sU [102] [] 2] 1 1 1 1 37 h1 rfl (Nat.le_refl _) h2 rfl (Nat.le_refl _)
  rw [size_alloc, size_alloc] at hA
  exact hA
theorem bD3 (u : World) : RdL (((u.alloc (.cells #[.string ⟨#[102]⟩, .string ⟨#[]⟩, .int .u64 0, .int .u64 0, .int .i64 1, .int .i64 2, .int .i64 1, .bool false] 45)).alloc (.cells #[.string ⟨#[102]⟩, .string ⟨#[]⟩, .int .u64 0, .int .u64 0, .int .i64 1, .int .i64 1, .int .i64 1, .bool true] 45)).alloc (.cells #[.string ⟨#[]⟩, .slice none 0 0, .slice none 0 0, .slice (some ⟨u.heap.size + 1, 0, none⟩) 1 1, .slice none 0 0, .slice none 0 0, .slice none 0 0, .string ⟨#[]⟩, .slice none 0 0, .slice none 0 0, .slice (some ⟨u.heap.size, 0, none⟩) 1 1, .slice none 0 0, .slice none 0 0, .slice none 0 0] 37)) (some ⟨u.heap.size + 1 + 1, 0, none⟩) exD := by
  have h1 := (rds1 u (sU [102] [] 2) 45).below (bAlloc (Below.refl _ _) (.cells #[.string ⟨#[102]⟩, .string ⟨#[]⟩, .int .u64 0, .int .u64 0, .int .i64 1, .int .i64 1, .int .i64 1, .bool true] 45))
  have h2 := rds1 (u.alloc (.cells #[.string ⟨#[102]⟩, .string ⟨#[]⟩, .int .u64 0, .int .u64 0, .int .i64 1, .int .i64 2, .int .i64 1, .bool false] 45)) sL 45
  rw [size_alloc] at h2
  have hA := rdl2 ((u.alloc (.cells #[.string ⟨#[102]⟩, .string ⟨#[]⟩, .int .u64 0, .int .u64 0, .int .i64 1, .int .i64 2, .int .i64 1, .bool false] 45)).alloc (.cells #[.string ⟨#[102]⟩, .string ⟨#[]⟩, .int .u64 0, .int .u64 0, .int .i64 1, .int .i64 1, .int .i64 1, .bool true] 45)) (some ⟨u.heap.size + 1, 0, none⟩) (some ⟨u.heap.size, 0, none⟩) [sL] [sU [102] [] 2] 1 1 1 1 37 h2 rfl (Nat.le_refl _) h1 rfl (Nat.le_refl _)
  rw [size_alloc, size_alloc] at hA
  exact hA
set_option maxHeartbeats 4000000 in
set_option maxRecDepth 100000 in
theorem awake_any (w : World) : Calls Try.prog 11 #[] w fun e w' => e = .returned (.bool true) ∧ Below w.heap.size w w' := by
  go_enter Try.func11, Try.ntmps11
  go_wp2_with fail
  refine (def_any [102] [] _).mono ?_; rintro e w1 ⟨rfl, hb1⟩
  have R1 := Lib.hid (rds1 w1 (sD [102] []) 45)
  have B1 := Lib.hid (bAlloc hb1 (.cells (symC (sD [102] [])).toArray 45))
  clear hb1
  go_wp2_with fail
  refine (def_any [102] [] _).mono ?_; rintro e w2 ⟨rfl, hb2⟩
  have R1 := Lib.hid (R1.out.below hb2)
  have B2 := Lib.hid (bTrans B1.out hb2)
  clear hb2 B1
  go_wp2_with fail
  refine (def_any [103] [] _).mono ?_; rintro e w3 ⟨rfl, hb3⟩
  have R1 := Lib.hid (R1.out.below (bTrans hb3 (bAlloc (Below.refl w3.heap.size w3) (.cells #[.string ⟨#[102]⟩, .string ⟨#[]⟩, .int .u64 0, .int .u64 0, .int .i64 1, .int .i64 2, .int .i64 1, .bool true, .string ⟨#[103]⟩, .string ⟨#[]⟩, .int .u64 0, .int .u64 0, .int .i64 1, .int .i64 2, .int .i64 1, .bool true] 45))))
  have R2 := Lib.hid (rds2 w3 (sD [102] []) (sD [103] []) 45)
  have hA := rdl2 (w3.alloc (.cells #[.string ⟨#[102]⟩, .string ⟨#[]⟩, .int .u64 0, .int .u64 0, .int .i64 1, .int .i64 2, .int .i64 1, .bool true, .string ⟨#[103]⟩, .string ⟨#[]⟩, .int .u64 0, .int .u64 0, .int .i64 1, .int .i64 2, .int .i64 1, .bool true] 45)) (some ⟨w1.heap.size, 0, none⟩) (some ⟨w3.heap.size, 0, none⟩) [sD [102] []] [sD [102] [], sD [103] []] 1 2 1 2 37 R1.out rfl (Nat.le_refl _) R2.out rfl (Nat.le_refl _)
  have hI := rdO ((w3.alloc (.cells #[.string ⟨#[102]⟩, .string ⟨#[]⟩, .int .u64 0, .int .u64 0, .int .i64 1, .int .i64 2, .int .i64 1, .bool true, .string ⟨#[103]⟩, .string ⟨#[]⟩, .int .u64 0, .int .u64 0, .int .i64 1, .int .i64 2, .int .i64 1, .bool true] 45)).alloc (.cells #[.string ⟨#[]⟩, .slice none 0 0, .slice none 0 0, .slice (some ⟨w1.heap.size, 0, none⟩) 1 1, .slice none 0 0, .slice none 0 0, .slice none 0 0, .string ⟨#[]⟩, .slice none 0 0, .slice none 0 0, .slice (some ⟨w3.heap.size, 0, none⟩) 2 2, .slice none 0 0, .slice none 0 0, .slice none 0 0] 37)) 3
  rw [size_alloc] at hA
  rw [size_alloc, size_alloc] at hI
  have HA := Lib.hid (hA.below (bAlloc (Below.refl _ _) (.cells #[.int .i64 0, .int .i64 1] 3)))
  have HI := Lib.hid hI
  have B3 := Lib.hid (show Below w.heap.size w (((w3.alloc (.cells #[.string ⟨#[102]⟩, .string ⟨#[]⟩, .int .u64 0, .int .u64 0, .int .i64 1, .int .i64 2, .int .i64 1, .bool true, .string ⟨#[103]⟩, .string ⟨#[]⟩, .int .u64 0, .int .u64 0, .int .i64 1, .int .i64 2, .int .i64 1, .bool true] 45)).alloc (.cells #[.string ⟨#[]⟩, .slice none 0 0, .slice none 0 0, .slice (some ⟨w1.heap.size, 0, none⟩) 1 1, .slice none 0 0, .slice none 0 0, .slice none 0 0, .string ⟨#[]⟩, .slice none 0 0, .slice none 0 0, .slice (some ⟨w3.heap.size, 0, none⟩) 2 2, .slice none 0 0, .slice none 0 0, .slice none 0 0] 37)).alloc (.cells #[.int .i64 0, .int .i64 1] 3)) from bAlloc (bAlloc (bAlloc (bTrans B2.out hb3) _) _) _)
  clear hb3 hA hI R1 R2 B2
  go_wp2_with fail
  generalize ((w3.alloc (.cells #[.string ⟨#[102]⟩, .string ⟨#[]⟩, .int .u64 0, .int .u64 0, .int .i64 1, .int .i64 2, .int .i64 1, .bool true, .string ⟨#[103]⟩, .string ⟨#[]⟩, .int .u64 0, .int .u64 0, .int .i64 1, .int .i64 2, .int .i64 1, .bool true] 45)).alloc (.cells #[.string ⟨#[]⟩, .slice none 0 0, .slice none 0 0, .slice (some ⟨w1.heap.size, 0, none⟩) 1 1, .slice none 0 0, .slice none 0 0, .slice none 0 0, .string ⟨#[]⟩, .slice none 0 0, .slice none 0 0, .slice (some ⟨w3.heap.size, 0, none⟩) 2 2, .slice none 0 0, .slice none 0 0, .slice none 0 0] 37)).alloc (.cells #[.int .i64 0, .int .i64 1] 3) = W0 at *
  refine (inEx exA rfl fewA _ _ _ _ [102] 0 0 (by decide) exA1 _ HA.out HI.out).mono ?_; rintro e v0 ⟨rfl, hb⟩
  have HA := Lib.hid (HA.out.below hb)
  have HI := Lib.hid (HI.out.below hb)
  have B3 := Lib.hid (bTrans B3.out hb)
  clear hb
  go_wp2_with fail
  refine (inEx exA rfl fewA _ _ _ _ [103] 1 1 (by decide) exA2 _ HA.out HI.out).mono ?_; rintro e v1 ⟨rfl, hb⟩
  have HA := Lib.hid (HA.out.below hb)
  have HI := Lib.hid (HI.out.below hb)
  have B3 := Lib.hid (bTrans B3.out hb)
  clear hb
  go_wp2_with fail
  refine (inEx exA rfl fewA _ _ _ _ [104] (-1) (-1) (by decide) exA3 _ HA.out HI.out).mono ?_; rintro e v2 ⟨rfl, hb⟩
  have HA := Lib.hid (HA.out.below hb)
  have HI := Lib.hid (HI.out.below hb)
  have B3 := Lib.hid (bTrans B3.out hb)
  clear hb
  go_wp2_with fail
  refine (use_any [102] [118, 50] 2 _).mono ?_; rintro e u1 ⟨rfl, hb⟩
  have HI := Lib.hid (HI.out.below (bAlloc hb (.cells #[.string ⟨#[102]⟩, .string ⟨#[118, 50]⟩, .int .u64 0, .int .u64 0, .int .i64 1, .int .i64 2, .int .i64 1, .bool false] 45)))
  have B3 := Lib.hid (bTrans B3.out (bAlloc hb (.cells #[.string ⟨#[102]⟩, .string ⟨#[118, 50]⟩, .int .u64 0, .int .u64 0, .int .i64 1, .int .i64 2, .int .i64 1, .bool false] 45)))
  have R1 := Lib.hid (rds1 u1 (sU [102] [118, 50] 2) 45)
  clear hb HA
  go_wp2_with fail
  refine (def_any [102] [118, 49] _).mono ?_; rintro e u2 ⟨rfl, hb⟩
  have HI := Lib.hid (HI.out.below (bAlloc (bAlloc hb (.cells #[.string ⟨#[102]⟩, .string ⟨#[118, 49]⟩, .int .u64 0, .int .u64 0, .int .i64 1, .int .i64 2, .int .i64 1, .bool true] 45)) (.cells #[.string ⟨#[]⟩, .slice none 0 0, .slice none 0 0, .slice (some ⟨u1.heap.size, 0, none⟩) 1 1, .slice none 0 0, .slice none 0 0, .slice none 0 0, .string ⟨#[]⟩, .slice none 0 0, .slice none 0 0, .slice (some ⟨u2.heap.size, 0, none⟩) 1 1, .slice none 0 0, .slice none 0 0, .slice none 0 0] 37)))
  have B3 := Lib.hid (bTrans B3.out (bAlloc (bAlloc hb (.cells #[.string ⟨#[102]⟩, .string ⟨#[118, 49]⟩, .int .u64 0, .int .u64 0, .int .i64 1, .int .i64 2, .int .i64 1, .bool true] 45)) (.cells #[.string ⟨#[]⟩, .slice none 0 0, .slice none 0 0, .slice (some ⟨u1.heap.size, 0, none⟩) 1 1, .slice none 0 0, .slice none 0 0, .slice none 0 0, .string ⟨#[]⟩, .slice none 0 0, .slice none 0 0, .slice (some ⟨u2.heap.size, 0, none⟩) 1 1, .slice none 0 0, .slice none 0 0, .slice none 0 0] 37)))
  have R1 := Lib.hid (R1.out.below (bAlloc hb (.cells #[.string ⟨#[102]⟩, .string ⟨#[118, 49]⟩, .int .u64 0, .int .u64 0, .int .i64 1, .int .i64 2, .int .i64 1, .bool true] 45)))
  have R2 := Lib.hid (rds1 u2 (sD [102] [118, 49]) 45)
  have hA := rdl2 (u2.alloc (.cells #[.string ⟨#[102]⟩, .string ⟨#[118, 49]⟩, .int .u64 0, .int .u64 0, .int .i64 1, .int .i64 2, .int .i64 1, .bool true] 45)) (some ⟨u1.heap.size, 0, none⟩) (some ⟨u2.heap.size, 0, none⟩) [sU [102] [118, 50] 2] [sD [102] [118, 49]] 1 1 1 1 37 R1.out rfl (Nat.le_refl _) R2.out rfl (Nat.le_refl _)
  rw [size_alloc] at hA
  have HA := Lib.hid hA
  clear hb hA R1 R2
  go_wp2_with fail
  refine (bindEx exB rfl fewB _ _ _ _ 0 _ 0 0 141 (by decide) (by decide) rfl exB1 _ HA.out HI.out).mono ?_; rintro e v3 ⟨rfl, hb⟩
  have HI := Lib.hid (HI.out.below hb)
  have B3 := Lib.hid (bTrans B3.out hb)
  clear hb HA
  go_wp2_with fail
  refine (use_any [102] [] 3 _).mono ?_; rintro e u3 ⟨rfl, hb⟩
  have HI := Lib.hid (HI.out.below (bAlloc (bAlloc hb (.cells #[.string ⟨#[102]⟩, .string ⟨#[]⟩, .int .u64 0, .int .u64 0, .int .i64 1, .int .i64 3, .int .i64 1, .bool false] 45)) (.cells #[.string ⟨#[]⟩, .slice none 0 0, .slice none 0 0, .slice (some ⟨u3.heap.size, 0, none⟩) 1 1, .slice none 0 0, .slice none 0 0, .slice none 0 0, .string ⟨#[]⟩, .slice none 0 0, .slice none 0 0, .slice none 0 0, .slice none 0 0, .slice none 0 0, .slice none 0 0] 37)))
  have B3 := Lib.hid (bTrans B3.out (bAlloc (bAlloc hb (.cells #[.string ⟨#[102]⟩, .string ⟨#[]⟩, .int .u64 0, .int .u64 0, .int .i64 1, .int .i64 3, .int .i64 1, .bool false] 45)) (.cells #[.string ⟨#[]⟩, .slice none 0 0, .slice none 0 0, .slice (some ⟨u3.heap.size, 0, none⟩) 1 1, .slice none 0 0, .slice none 0 0, .slice none 0 0, .string ⟨#[]⟩, .slice none 0 0, .slice none 0 0, .slice none 0 0, .slice none 0 0, .slice none 0 0, .slice none 0 0] 37)))
  have R1 := Lib.hid (rds1 u3 (sU [102] [] 3) 45)
  have hA := rdl2 (u3.alloc (.cells #[.string ⟨#[102]⟩, .string ⟨#[]⟩, .int .u64 0, .int .u64 0, .int .i64 1, .int .i64 3, .int .i64 1, .bool false] 45)) (some ⟨u3.heap.size, 0, none⟩) none [sU [102] [] 3] [] 1 0 1 0 37 R1.out rfl (Nat.le_refl _) (fun h => absurd h (by simp)) rfl (Nat.le_refl _)
  rw [size_alloc] at hA
  have HA := Lib.hid hA
  clear hb hA R1
  go_wp2_with fail
  refine (bindEx exC rfl fewC _ _ _ _ 0 _ (-1) (-1) 0 (by decide) (by decide) rfl exC1 _ HA.out HI.out).mono ?_; rintro e v4 ⟨rfl, hb⟩
  have HI := Lib.hid (HI.out.below hb)
  have B3 := Lib.hid (bTrans B3.out hb)
  clear hb HA
  go_wp2_with fail
  refine (def_any [102] [] _).mono ?_; rintro e v5 ⟨rfl, hb⟩
  have HI := Lib.hid (HI.out.below hb)
  have B3 := Lib.hid (bTrans B3.out hb)
  clear hb
  go_wp2_with fail
  have bx := BoxN.new v5 #[.string ⟨#[102]⟩, .string ⟨#[]⟩, .int .u64 0, .int .u64 0, .int .i64 1, .int .i64 1, .int .i64 1, .bool true] 45
  have HI := Lib.hid (HI.out.below (bAlloc (Below.refl v5.heap.size v5) (.cells #[.string ⟨#[102]⟩, .string ⟨#[]⟩, .int .u64 0, .int .u64 0, .int .i64 1, .int .i64 1, .int .i64 1, .bool true] 45)))
  have B3 := Lib.hid (bAlloc B3.out (.cells #[.string ⟨#[102]⟩, .string ⟨#[]⟩, .int .u64 0, .int .u64 0, .int .i64 1, .int .i64 1, .int .i64 1, .bool true] 45))
  have BX := Lib.hid bx
  clear bx
  generalize v5.alloc (.cells #[.string ⟨#[102]⟩, .string ⟨#[]⟩, .int .u64 0, .int .u64 0, .int .i64 1, .int .i64 1, .int .i64 1, .bool true] 45) = W5 at *
  have hv5 := BX.out.lt
  have HSK := Lib.hid (fun W (hW : Below W5.heap.size W5 W) => show (fun W => W.cell? ⟨v5.heap.size, 0, none⟩ = some (.string ⟨#[102]⟩) ∧ W.cell? ⟨v5.heap.size, 1, none⟩ = some (.string ⟨#[]⟩) ∧ W.cell? ⟨v5.heap.size, 2, none⟩ = some (.int .u64 0) ∧ W.cell? ⟨v5.heap.size, 3, none⟩ = some (.int .u64 0) ∧ W.cell? ⟨v5.heap.size, 4, none⟩ = some (.int .i64 1) ∧ W.cell? ⟨v5.heap.size, 5, none⟩ = some (.int .i64 1) ∧ W.cell? ⟨v5.heap.size, 6, none⟩ = some (.int .i64 1) ∧ W.cell? ⟨v5.heap.size, 7, none⟩ = some (.bool true)) W from
    have q := BX.out.below hW hv5
    ⟨q.cell 0, q.cell 1, q.cell 2, q.cell 3, q.cell 4, q.cell 5, q.cell 6, q.cell 7⟩)
  have HWN := Lib.hid (Below.refl W5.heap.size W5)
  have HS0 := Lib.hid (HSK.out _ (Below.refl _ _))
  go_region_held3 (fun W => W.cell? ⟨v5.heap.size, 0, none⟩ = some (.string ⟨#[102]⟩) ∧ W.cell? ⟨v5.heap.size, 1, none⟩ = some (.string ⟨#[]⟩) ∧ W.cell? ⟨v5.heap.size, 2, none⟩ = some (.int .u64 0) ∧ W.cell? ⟨v5.heap.size, 3, none⟩ = some (.int .u64 0) ∧ W.cell? ⟨v5.heap.size, 4, none⟩ = some (.int .i64 1) ∧ W.cell? ⟨v5.heap.size, 5, none⟩ = some (.int .i64 1) ∧ W.cell? ⟨v5.heap.size, 6, none⟩ = some (.int .i64 1) ∧ W.cell? ⟨v5.heap.size, 7, none⟩ = some (.bool true))
    (first | exact HSK.out _ (by first | ((repeat (first | exact HWN.out | with_reducible exact Below.refl _ _ | with_reducible refine Below.drew ?_ | with_reducible refine bAlloc ?_ _)); done) | fail) | go_keep)
    (first
      | (go_at_call 29; (with_reducible refine (use_any [102] [] 2 _).mono ?_); rintro e u7 ⟨rfl, hb7⟩; have HW7 := Lib.hid hb7; have HWN := Lib.hid (bTrans (w := W5) (by first | ((repeat (first | exact HWN.out | with_reducible exact Below.refl _ _ | with_reducible refine Below.drew ?_ | with_reducible refine bAlloc ?_ _)); done) | fail) hb7); clear hb7)
      | (go_at_call 19; (refine Calls.mono (bindEx exD rfl fewD _ _ _ _ 1 _ 0 0 140 (by decide) (by decide) rfl exD1 _ ?_ ?_) ?_); (first | with_reducible exact bD1 _ _ HW7.out | with_reducible exact bD1d _ _ HW7.out | with_reducible exact bD2 _ | with_reducible exact bD3 _ ); (exact HI.out.below (by first | ((repeat (first | exact HWN.out | with_reducible exact Below.refl _ _ | with_reducible refine Below.drew ?_ | with_reducible refine bAlloc ?_ _)); done) | fail)); rintro e u8 ⟨rfl, hb8⟩; have HWN := Lib.hid (bTrans (w := W5) (by first | ((repeat (first | exact HWN.out | with_reducible exact Below.refl _ _ | with_reducible refine Below.drew ?_ | with_reducible refine bAlloc ?_ _)); done) | fail) hb8); clear hb8))
  all_goals
    clear HS0
    go_wp2_with fail
    go_ret
    exact ⟨rfl, bTrans B3.out HWN.out⟩
end Go.Proofs.Ythammjpadbbflaa
