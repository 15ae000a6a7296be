/- meet: a name's object is met, and laid behind those that were: contract. -/
import Derived.Test.YtfneikphgmjfbaaGrB
namespace Go.Proofs.Ytfneikphgmjfbaa
set_option linter.unusedVariables false
set_option linter.unusedSimpArgs false
open Go.Joins Go.ChangeShapes Go.WideShapes Go.ChangeAt Go.RowKit

def ordZ (order : List Nat) : List Int := order.map fun (k : Nat) => (k : Int)
theorem ordZ_len (order : List Nat) : (ordZ order).length = order.length := by simp [ordZ]
/-- behind a name was met -/
def addO (order : List Nat) : Option Nat → List Nat
  | some k => if order.contains k then order else order ++ [k]
  | none => order
/-- where Closure stands: its map of places, the marks of those that were met, the order, each in blocks of its own -/
def MeetAt (base B2 : Nat) (W : World) (ba bm bo mb mm : Nat) (l : List Obj) (order : List Nat) : Prop :=
  (base ≤ bo ∧ base ≤ mm ∧ base ≤ B2 ∧ ba < B2 ∧ bm < B2 ∧ bo < B2 ∧ mb < B2 ∧ mm < B2 ∧ B2 ≤ W.heap.size) ∧ (bo ≠ ba ∧ bo ≠ bm ∧ bo ≠ mb ∧ bo ≠ mm ∧ mm ≠ ba ∧ mm ≠ bm ∧ mm ≠ mb) ∧
  (W.cell? ⟨ba, 0, none⟩ = some (.map (some mb)) ∧ W.cell? ⟨bm, 0, none⟩ = some (.slice (some ⟨mm, 0, none⟩) l.length l.length) ∧ W.frozen? ⟨bo, 0, none⟩ = false) ∧
  PlacesAt W mb l ∧ ((∀ j, W.frozen? ⟨mm, j, none⟩ = false) ∧ ∀ k, k < l.length → W.cell? ⟨mm, k, none⟩ = some (.bool (order.contains k))) ∧
  ∃ v, W.cell? ⟨bo, 0, none⟩ = some v ∧ W.ownsRow B2 3 1 v order.length (i64s (ordZ order))
theorem own_kept_block {w w' : World} {base : Nat} {e : TypeId} {size n : Nat} {v : Value} {xs : List Value} (h : w.ownsRow base e size v n xs) (hb : ∀ g, base ≤ g → w'.heap[g]? = w.heap[g]?) : w'.ownsRow base e size v n xs := by
  obtain ⟨h1, h2⟩ := h
  refine ⟨h1, ?_⟩
  rcases h2 with h2 | ⟨g, cap, cur, hv, hg, hh, r⟩
  · exact Or.inl h2
  · exact Or.inr ⟨g, cap, cur, hv, hg, (hb g hg).trans hh, r⟩
theorem MeetAt.below {base B2 : Nat} {W W' : World} {ba bm bo mb mm : Nat} {l : List Obj} {order : List Nat} (h : MeetAt base B2 W ba bm bo mb mm l order) (hb : Below W.heap.size W W') : MeetAt base B2 W' ba bm bo mb mm l order := by
  obtain ⟨⟨h1, h2, h3, h4, h5, h6, h7, h8, h9⟩, hne, ⟨c1, c2, c3⟩, hp, ⟨m1, m2⟩, v, hv, ho⟩ := h
  have g : ∀ b, b < B2 → ∀ j, W'.cell? ⟨b, j, none⟩ = W.cell? ⟨b, j, none⟩ := fun b hlt j => hb.cell (p := ⟨b, j, none⟩) (Nat.lt_of_lt_of_le hlt h9)
  have gf : ∀ b, b < B2 → ∀ j, W'.frozen? ⟨b, j, none⟩ = W.frozen? ⟨b, j, none⟩ := fun b hlt j => hb.frozen (p := ⟨b, j, none⟩) (Nat.lt_of_lt_of_le hlt h9)
  exact ⟨⟨h1, h2, h3, h4, h5, h6, h7, h8, Nat.le_trans h9 hb.size⟩, hne, ⟨(g _ h4 _).trans c1, (g _ h5 _).trans c2, (gf _ h6 _).trans c3⟩, hp.below hb,
    ⟨fun j => (gf _ h8 _).trans (m1 j), fun k hk => (g _ h8 _).trans (m2 k hk)⟩, v, (g _ h6 _).trans hv, own_below ho hb⟩
theorem map_lookup (W : World) (mb : Nat) (l : List Obj) (name : List UInt8) (hp : PlacesAt W mb l) (hn : name.length ≤ maxLen) (t : TypeId) (ht : t = 74) :
    (Instr.lookup t (.map (some mb)) (.string ⟨name.toArray⟩) true).run Try.prog W = .ok (.tuple #[.int .i64 (((fidx l name).getD 0 : Nat) : Int), .bool (fidx l name).isSome]) W := by
  subst ht
  obtain ⟨n, D, ho, hnl, hs⟩ := hp
  obtain ⟨v, ps, hrun, hv⟩ := ho.look_ok keyed Try.underlying74 (zeroInt W) (plainElem_int Try.underlying3 (by decide)) (key_of name hn)
  obtain ⟨c, rfl, hc, -⟩ := plainElem_int_inv Try.underlying3 hv
  rw [(hs name).1] at hc
  rw [(hs name).2] at hrun
  have hc1 := congrArg Prod.fst hc
  simp only [DataW.lit.injEq, Lit.int.injEq] at hc1
  rw [hrun, hc1.2]
theorem fidx_lt {l : List Obj} {name : List UInt8} {k : Nat} (h : fidx l name = some k) : k < l.length := (List.findIdx?_eq_some_iff_findIdx_eq.mp h).1
/-- behind one more was met: its mark, a block more, the order -/
theorem MeetAt.add {base B2 : Nat} {W W1 W2 : World} {ba bm bo mb mm : Nat} {l : List Obj} {order : List Nat} {k : Nat} {v v' : Value} (h : MeetAt base B2 W ba bm bo mb mm l order) (hk : k < l.length)
    (hW1 : W1 = W.setCell ⟨mm, k, none⟩ (.bool true)) (ob : Go.Obj) (hg : (W1.alloc ob).grownBy W2 v.ownBlock) (hv : W.cell? ⟨bo, 0, none⟩ = some v) (hvo : ∀ q, v.ownBlock = some q → B2 ≤ q)
    (ho : W2.ownsRow B2 3 1 v' (order ++ [k]).length (i64s (ordZ (order ++ [k])))) :
    MeetAt base B2 (W2.setCell ⟨bo, 0, none⟩ v') ba bm bo mb mm l (order ++ [k]) ∧ Below base W (W2.setCell ⟨bo, 0, none⟩ v') := by
  subst hW1
  obtain ⟨⟨h1, h2, h3, h4, h5, h6, h7, h8, h9⟩, ⟨n1, n2, n3, n4, n5, n6, n7⟩, ⟨c1, c2, c3⟩, hp, ⟨m1, m2⟩, -⟩ := h
  have hs1 : ((W.setCell ⟨mm, k, none⟩ (.bool true)).alloc ob).heap.size = W.heap.size + 1 := by simp
  have blk : ∀ b, b < B2 → b ≠ mm → b ≠ bo → (W2.setCell ⟨bo, 0, none⟩ v').heap[b]? = W.heap[b]? := fun b hlt hb1 hb2 => by
    rw [Below.heap_setCell _ _ _ _ hb2, hg.block b (by omega) (fun e => by have := hvo b e.symm; omega), Below.heap_alloc _ _ _ (by simp; omega), Below.heap_setCell _ _ _ _ hb1]
  have cel : ∀ b j, b < B2 → b ≠ mm → b ≠ bo → (W2.setCell ⟨bo, 0, none⟩ v').cell? ⟨b, j, none⟩ = W.cell? ⟨b, j, none⟩ := fun b j hlt hb1 hb2 => World.cell?_of_block (blk b hlt hb1 hb2)
  have mmc : ∀ j, (W2.setCell ⟨bo, 0, none⟩ v').cell? ⟨mm, j, none⟩ = (W.setCell ⟨mm, k, none⟩ (.bool true)).cell? ⟨mm, j, none⟩ := fun j => World.cell?_of_block (by
    show (W2.setCell ⟨bo, 0, none⟩ v').heap[mm]? = _
    rw [Below.heap_setCell _ _ _ _ (Ne.symm n4), hg.block mm (by omega) (fun e => by have := hvo mm e.symm; omega), Below.heap_alloc _ _ _ (by simp; omega)])
  have bof : (W2.setCell ⟨bo, 0, none⟩ v').frozen? ⟨bo, 0, none⟩ = false := by
    rw [World.frozen?_setCell]
    have : W2.frozen? ⟨bo, 0, none⟩ = W.frozen? ⟨bo, 0, none⟩ := World.frozen?_of_block (by
      show W2.heap[bo]? = _
      rw [hg.block bo (by omega) (fun e => by have := hvo bo e.symm; omega), Below.heap_alloc _ _ _ (by simp; omega), Below.heap_setCell _ _ _ _ n4])
    rw [this]; exact c3
  have boc : W2.cell? ⟨bo, 0, none⟩ = some v := by
    have : W2.cell? ⟨bo, 0, none⟩ = W.cell? ⟨bo, 0, none⟩ := World.cell?_of_block (by
      show W2.heap[bo]? = _
      rw [hg.block bo (by omega) (fun e => by have := hvo bo e.symm; omega), Below.heap_alloc _ _ _ (by simp; omega), Below.heap_setCell _ _ _ _ n4])
    rw [this]; exact hv
  have mmf : ∀ j, (W2.setCell ⟨bo, 0, none⟩ v').frozen? ⟨mm, j, none⟩ = false := fun j => by
    rw [World.frozen?_setCell]
    have : W2.frozen? ⟨mm, j, none⟩ = (W.setCell ⟨mm, k, none⟩ (.bool true)).frozen? ⟨mm, j, none⟩ := World.frozen?_of_block (by
      show W2.heap[mm]? = _
      rw [hg.block mm (by omega) (fun e => by have := hvo mm e.symm; omega), Below.heap_alloc _ _ _ (by simp; omega)])
    rw [this, World.frozen?_setCell]; exact m1 j
  have hsz2 := hg.size
  refine ⟨⟨⟨h1, h2, h3, h4, h5, h6, h7, h8, by simp; omega⟩, ⟨n1, n2, n3, n4, n5, n6, n7⟩, ⟨?_, ?_, bof⟩, ?_, ⟨mmf, fun j hj => ?_⟩, v', World.cell?_setCell_same _ _ _ boc, ?_⟩, ?_⟩
  · rw [cel ba 0 h4 (Ne.symm n5) (Ne.symm n1)]; exact c1
  · rw [cel bm 0 h5 (Ne.symm n6) (Ne.symm n2)]; exact c2
  · exact hp.block (blk mb h7 (Ne.symm n7) (Ne.symm n3))
  · rw [mmc j]
    by_cases e : k = j
    · subst e
      rw [World.cell?_setCell_same _ _ _ (m2 k hk)]
      simp
    · rw [World.cell?_setCell_other _ _ _ _ (by simp [e]), m2 j hj]
      have e' : ¬ j = k := fun q => e q.symm
      simp [e']
  · exact own_kept_block ho fun g hg' => Below.heap_setCell _ _ _ _ (show g ≠ bo by omega)
  · have b1 : Below base W (W.setCell ⟨mm, k, none⟩ (.bool true)) := (Below.refl _ _).setCell h2 _
    have b2 := b1.alloc (by simp; omega) ob
    have b3 := b2.grown hg (by rw [hs1]; omega) (fun q hq => by have := hvo q hq; omega)
    exact b3.setCell h1 _
theorem cell_one_at (w : World) (x : Value) (t : TypeId) (H : Nat) (hH : w.heap.size = H) : ∀ j u, [x][j]? = some u → (w.alloc (.cells #[x] t)).cell? ((⟨H, 0, none⟩ : Addr).add j) = some u := by
  subst hH
  exact cell_one_new w x t
theorem grown_old {W W2 : World} {ob : Go.Obj} {row : Option Nat} (hg : (W.alloc ob).grownBy W2 row) {b : Nat} (hb : b < W.heap.size) (hr : row ≠ some b) (j : Nat) : W2.cell? ⟨b, j, none⟩ = W.cell? ⟨b, j, none⟩ ∧ W2.frozen? ⟨b, j, none⟩ = W.frozen? ⟨b, j, none⟩ := by
  have e : W2.heap[b]? = W.heap[b]? := by rw [hg.block b (by simp; omega) (fun e => hr e.symm), Below.heap_alloc _ _ _ hb]
  exact ⟨World.cell?_of_block e, World.frozen?_of_block e⟩
set_option maxRecDepth 100000 in
set_option maxHeartbeats 1000000 in
theorem meet_any (base B2 ba bm bo mb mm : Nat) (l : List Obj) (order : List Nat) (name : List UInt8) (w : World) (h : MeetAt base B2 w ba bm bo mb mm l order) (hn : name.length ≤ maxLen) (hm : l.length ≤ 1000000) (hol : order.length ≤ 1000000) :
    Calls Try.prog 45 #[.string ⟨name.toArray⟩, .pointer (some ⟨ba, 0, none⟩), .pointer (some ⟨bm, 0, none⟩), .pointer (some ⟨bo, 0, none⟩)] w fun e w' => e = .returned (.bool (fidx l name).isSome) ∧ MeetAt base B2 w' ba bm bo mb mm l (addO order (fidx l name)) ∧ Below base w w' := by
  have hr := map_lookup w mb l name h.2.2.2.1 hn 74 rfl
  have H := Lib.hid h
  obtain ⟨⟨h1, h2, h3, h4, h5, h6, h7, h8, h9⟩, ⟨n1, n2, n3, n4, n5, n6, n7⟩, ⟨c1, c2, c3⟩, hp, ⟨m1, m2⟩, v, hv, ho⟩ := h
  cases hf : fidx l name with
  | none =>
    rw [hf] at hr
    simp only [Option.getD_none, Option.isSome_none] at hr ⊢
    clear m1 m2 hp
    go_enter Try.func45, Try.ntmps45
    go_wp2_with fail
    go_ret
    exact ⟨rfl, H.out, Below.refl _ _⟩
  | some k =>
    have hk := fidx_lt hf
    have hmk := m2 k hk
    rw [hf] at hr
    simp only [Option.getD_some, Option.isSome_some] at hr ⊢
    obtain ⟨m, hlm⟩ : ∃ m, l.length = m := ⟨_, rfl⟩
    rw [hlm] at c2 hm hk
    by_cases hc : order.contains k = true
    · rw [hc] at hmk
      have ha : addO order (some k) = order := by simp only [addO]; rw [if_pos hc]
      have HA := Lib.hid ha
      clear m1 m2 hp hf hlm ha hc
      go_enter Try.func45, Try.ntmps45
      go_wp2_with fail
      go_ret
      exact ⟨rfl, by rw [HA.out]; exact H.out, Below.refl _ _⟩
    · rw [(Bool.not_eq_true _).mp hc] at hmk
      have ha : addO order (some k) = order ++ [k] := by simp only [addO]; rw [if_neg hc]
      have hfz := m1 k
      have HA := Lib.hid ha
      have HK := Lib.hid hk
      have HLM := Lib.hid hlm
      have hv1 : (w.setCell ⟨mm, k, none⟩ (.bool true)).cell? ⟨bo, 0, none⟩ = some v := (World.cell?_setCell_other _ _ _ _ (fun e => n4 (by injection e with e1; exact e1.symm))).trans hv
      have HO := Lib.hid ho
      have ho1 : (w.setCell ⟨mm, k, none⟩ (.bool true)).ownsRow B2 3 1 v order.length (i64s (ordZ order)) := own_kept_block ho fun g hg => Below.heap_setCell _ _ _ _ (show g ≠ mm by omega)
      have hlt := fun q (hq : v.ownBlock = some q) => (ho1.lt q hq).1
      have HLT := Lib.hid hlt
      have HBO := Lib.hid (And.intro hv1 (show (w.setCell ⟨mm, k, none⟩ (.bool true)).frozen? ⟨bo, 0, none⟩ = false by rw [World.frozen?_setCell]; exact c3))
      clear hlt
      have HO1 := Lib.hid ho1
      have hol2 := hol
      obtain ⟨i0, hz⟩ := info_parts infoInt
      have HI := Lib.hid hz
      clear m1 m2 hp hf hlm ha hc ho ho1 hz
      go_enter Try.func45, Try.ntmps45
      go_wp2_with (at_builtin; refine wpList_append_own _ rfl _ _ 26 rfl B2 3 i0 (.int .i64 0) 1 8 Try.underlying26 HI.out.1 HI.out.2.1 HI.out.2.2.1 HI.out.2.2.2 rfl (by decide) v order.length _ rfl (HO1.out.alloc _) ⟨w.heap.size, 0, none⟩ 1 1 [.int .i64 (k : Int)] rfl rfl (cell_one_at (w.setCell ⟨mm, k, none⟩ (.bool true)) (.int .i64 (k : Int)) 3 w.heap.size (by simp)) (fun x hx => by simp at hx; subst hx; rfl) (by unfold maxLen; omega) (by omega) (by simp; omega) ?_; intro v' w3 hown' hgrow3 hnil3; obtain ⟨a', c', rfl, hl'⟩ := own_slice hown'; have hbo := grown_old hgrow3 (b := bo) (by simp; omega) (fun e => by have := HLT.out bo e; omega) 0; have hb0 := hbo.1.trans HBO.out.1; have hb1 := hbo.2.trans HBO.out.2; have HOW := Lib.hid hown'; clear hnil3 hown' hbo)
      go_ret
      have := H.out.add (by rw [HLM.out]; exact HK.out) rfl _ hgrow3 hv HLT.out (by have := HOW.out; simpa [ordZ, i64s] using this)
      exact ⟨rfl, by rw [HA.out]; exact this.1, this.2⟩
end Go.Proofs.Ytfneikphgmjfbaa
