/- A place is asked: its tables are made if they are not yet. -/
import Derived.Test.YthammjpadbbflaaLkE
namespace Go.Proofs.Ythammjpadbbflaa
set_option linter.unusedVariables false
set_option linter.unusedSimpArgs false
open Go.Joins Go.ChangeShapes Go.WideShapes Go.ChangeAt Go.RowKit Go.Deep Go.Shelf

/-- a place, whose tables are made: 1, or are not: 0 -/
def PlaceD (base lo : Nat) (P : Nat → Prop) (W : World) (B : Nat) (obj : Int) (l : List Sym) (d : Int) : Prop :=
  base ≤ B ∧ B < lo ∧ ∃ sa sc tb, BoxN W B #[.int .i64 obj, .slice sa l.length sc, .int .u32 d, .int .i32 0, .int .u32 0, tb] ∧ RdS W sa l ∧ l.length ≤ sc ∧ (∀ b off, 0 < l.length → sa = some ⟨b, off, none⟩ → b < base) ∧ ((d = 0 ∧ tb = .slice none 0 0) ∨ (d = 1 ∧ TabAt P W l tb))
def PlaceAt (base lo : Nat) (W : World) (B : Nat) (obj : Int) (l : List Sym) : Prop := ∃ d, PlaceD base lo (fun b => lo ≤ b) W B obj l d
theorem TabAt.kp {n : Nat} {P S : Nat → Prop} {W W' : World} {l : List Sym} {tb : Value} (h : TabAt P W l tb) (hk : KP n S W W') (hn : W.heap.size ≤ n) (hS : ∀ b, P b → ¬ S b) : TabAt P W' l tb := by
  unfold TabAt at h ⊢
  split
  · rename_i h0; rw [if_pos h0] at h; exact h
  · rename_i h0; rw [if_neg h0] at h; exact h.kp hk hn hS
theorem TabAt.mono {P P' : Nat → Prop} {W : World} {l : List Sym} {tb : Value} (h : TabAt P W l tb) (hl : ∀ b, b < W.heap.size → P b → P' b) : TabAt P' W l tb := by
  unfold TabAt at h ⊢
  split
  · rename_i h0; rw [if_pos h0] at h; exact h
  · rename_i h0; rw [if_neg h0] at h; exact h.mono hl h0
theorem PlaceD.kp {base lo n : Nat} {P S : Nat → Prop} {W W' : World} {B : Nat} {obj d : Int} {l : List Sym} (h : PlaceD base lo P W B obj l d) (hk : KP n S W W') (hn : W.heap.size ≤ n) (hB : ¬ S B) (hb : ∀ b, b < base → ¬ S b) (hS : ∀ b, P b → ¬ S b) : PlaceD base lo P W' B obj l d := by
  obtain ⟨h1, h2, sa, sc, tb, h3, h4, h5, h6, h7⟩ := h
  have hlt := h3.lt
  refine ⟨h1, h2, sa, sc, tb, h3.kp hk (by omega) hB, hk.rdS h4 (fun b off h0 e => ?_), h5, h6, h7.imp id fun q => ⟨q.1, q.2.kp hk hn hS⟩⟩
  have hb1 := h6 b off h0 e
  exact ⟨by omega, hb b hb1⟩
theorem PlaceAt.kp {base lo n : Nat} {S : Nat → Prop} {W W' : World} {B : Nat} {obj : Int} {l : List Sym} (h : PlaceAt base lo W B obj l) (hk : KP n S W W') (hn : W.heap.size ≤ n) (hB : ¬ S B) (hb : ∀ b, b < base → ¬ S b) (hS : ∀ b, lo ≤ b → ¬ S b) : PlaceAt base lo W' B obj l := by
  obtain ⟨d, h⟩ := h
  exact ⟨d, h.kp hk hn hB hb hS⟩
theorem PlaceD.below {base lo : Nat} {P : Nat → Prop} {W W' : World} {B : Nat} {obj d : Int} {l : List Sym} (h : PlaceD base lo P W B obj l d) (hb : Below W.heap.size W W') : PlaceD base lo P W' B obj l d :=
  h.kp (kp_of_below (S := fun _ => False) hb (Nat.le_refl _)) (Nat.le_refl _) id (fun _ _ => id) (fun _ _ => id)
/-- Do, of a place's once and its prepare -/
theorem PlaceD.mono {base lo : Nat} {P P' : Nat → Prop} {W : World} {B : Nat} {obj d : Int} {l : List Sym} (h : PlaceD base lo P W B obj l d) (hl : ∀ b, b < W.heap.size → P b → P' b) : PlaceD base lo P' W B obj l d := by
  obtain ⟨h1, h2, sa, sc, tb, h3, h4, h5, h6, h7⟩ := h
  exact ⟨h1, h2, sa, sc, tb, h3, h4, h5, h6, h7.imp id fun q => ⟨q.1, q.2.mono hl⟩⟩
theorem do_any (base lo : Nat) (P P' : Nat → Prop) (hPP : ∀ b, P b → P' b) (W : World) (B : Nat) (obj d : Int) (l : List Sym) (hP' : ∀ b, W.heap.size ≤ b → P' b) (h : PlaceD base lo P W B obj l d) (hlo : lo ≤ W.heap.size) (hm : l.length ≤ 40) (hnm : ∀ s ∈ l, s.name.length < 9223372036854775808) :
    Calls Try.prog 47 #[.pointer (some ⟨B, 2, none⟩), .func (.func 48) #[.pointer (some ⟨B, 0, none⟩)] #[]] W fun e W' => e = .returned (.tuple #[]) ∧ PlaceD base lo P' W' B obj l 1 ∧ KP W.heap.size (· = B) W W' := by
  obtain ⟨h1, h2, sa, sc, tb, h3, h4, h5, h6, h7⟩ := h
  rcases h7 with ⟨rfl, rfl⟩ | ⟨rfl, ht⟩
  · have hw1 : (W.setCell ⟨B, 3, none⟩ (.int .i32 1)).heap.size = W.heap.size := by simp
    have hk1 : KP W.heap.size (· = B) W (W.setCell ⟨B, 3, none⟩ (.int .i32 1)) := (KP.refl W.heap.size (· = B) W).set ⟨B, 3, none⟩ (Or.inr (show B = B from rfl)) _
    have hsy := hk1.rdS h4 (fun b off h0 e => by
      obtain ⟨b', off', e', hl, -⟩ := h4 h0
      have hb := h6 b off h0 e
      exact ⟨by omega, fun q => by have : b = B := q; omega⟩)
    have hp := prep_any (W.setCell ⟨B, 3, none⟩ (.int .i32 1)) B obj sa sc l (h3.set 3 (.int .i32 1)) hsy hm h5 hnm (fun b off h0 e => by have := h6 b off h0 e; omega)
    refine (do_first B W (PrepPost (W.setCell ⟨B, 3, none⟩ (.int .i32 1)) B obj sa sc l) (h3.cell 2) (h3.cell 3) (fun j => h3.frozen j) hp (fun w2 ⟨tb, q1, q2, q3⟩ => ⟨q1.cell 2, q1.cell 3, q1.frozen 2, q1.frozen 3⟩)).mono ?_
    rintro e w' ⟨rfl, w2, ⟨tb, q1, q2, q3⟩, rfl⟩
    rw [hw1] at q2 q3
    have hk2 : KP W.heap.size (· = B) w2 ((w2.drew.setCell ⟨B, 2, none⟩ (.int .u32 1)).setCell ⟨B, 3, none⟩ (.int .i32 0)) := (((KP.refl W.heap.size (· = B) w2).drew).set ⟨B, 2, none⟩ (Or.inr (show B = B from rfl)) _).set ⟨B, 3, none⟩ (Or.inr (show B = B from rfl)) _
    have hk3 : KP w2.heap.size (· = B) w2 ((w2.drew.setCell ⟨B, 2, none⟩ (.int .u32 1)).setCell ⟨B, 3, none⟩ (.int .i32 0)) := (((KP.refl w2.heap.size (· = B) w2).drew).set ⟨B, 2, none⟩ (Or.inr (show B = B from rfl)) _).set ⟨B, 3, none⟩ (Or.inr (show B = B from rfl)) _
    have hk := (hk1.trans q3).trans hk2
    refine ⟨rfl, ⟨h1, h2, sa, sc, tb, (q1.drew.set 2 (.int .u32 1)).set 3 (.int .i32 0), hk.rdS h4 (fun b off h0 e => ?_), h5, h6, Or.inr ⟨rfl, (q2.kp hk3 (Nat.le_refl _) (fun b hb q => ?_)).mono (fun b _ hb => hP' b hb)⟩⟩, hk⟩
    · have hb := h6 b off h0 e
      have hl := h3.lt
      exact ⟨by omega, fun q => by have : b = B := q; omega⟩
    · have hl := h3.lt
      have : b = B := q
      omega
  · refine (do_done ⟨B, 2, none⟩ _ W (h3.cell 2)).mono ?_
    rintro e w' ⟨rfl, rfl⟩
    exact ⟨rfl, ⟨h1, h2, sa, sc, tb, h3, h4, h5, h6, Or.inr ⟨rfl, ht.mono (fun b _ hb => hPP b hb)⟩⟩, KP.refl _ _ _⟩
end Go.Proofs.Ythammjpadbbflaa
