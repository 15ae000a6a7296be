/- The document's Build that succeeds. -/
import Derived.Test.YtjefkhieihigiaaGreatAdF
import Derived.Test.YtjefkhieihigiaaGreatAcD
import Derived.Deep.RegionLaw
namespace Go.Proofs.YtjefkhieihigiaaGreat
set_option linter.unusedVariables false
set_option linter.unusedSimpArgs false
open Go.Joins Go.ChangeShapes Go.WideShapes Go.ChangeAt Go.RowKit Go.Deep

theorem box_newD (w : World) (V : Array Value) (hV : V.size = 24) : BoxN ((w.alloc (.cells zero24 42)).setCells w.heap.size 0 V.toList) w.heap.size V :=
  boxN_fill w.heap.size V.toList [] zero24.toList _ (show 24 = V.toList.length from by rw [Array.length_toList, hV]) (BoxN.new w zero24 42)
/-- a row of one's own whose block stays -/
theorem own_blk {W W' : World} {B k n c : Nat} {e : TypeId} {a : Option Addr} {xs : List Value} (h : W.ownsRow B e k (.slice a n c) n xs) (hb : ∀ g, (Value.slice a n c).ownBlock = some g → W'.heap[g]? = W.heap[g]?) : W'.ownsRow B e k (.slice a n c) n xs := by
  refine ⟨h.1, ?_⟩
  rcases h.2 with h1 | ⟨g, cap, cur, h1, h2, h3, h4⟩
  · exact Or.inl h1
  · exact Or.inr ⟨g, cap, cur, h1, h2, (hb g (by rw [h1]; rfl)).trans h3, h4⟩
/-- texts, and others behind them, in a new row -/
theorem all_txt (W : World) (t1 t2 : TypeId) (a b : Option Addr) (c d n m : Nat) (l1 l2 : List (List UInt8)) (h1 : Rd W a n (strs l1)) (h2 : Rd W b m (strs l2)) (hn : n ≤ 400) (hm : m ≤ 400) :
    ∃ a1 c1 W1 a2 c2 W2, (Builtin.append_ #[23, 23] t1 #[.slice (some ⟨W.heap.size, 0, none⟩) 0 0, .slice a n c]).run Tryz.prog (W.alloc (.cells #[] 9)) = .ok (.slice a1 n c1) W1 ∧
      (Builtin.append_ #[23, 23] t2 #[.slice a1 n c1, .slice b m d]).run Tryz.prog W1 = .ok (.slice a2 (n + m) c2) W2 ∧
      Rd W2 a2 (n + m) (strs (l1 ++ l2)) ∧ Below W.heap.size W W2 ∧ (∀ g off, a2 = some ⟨g, off, none⟩ → 0 < n + m → W.heap.size ≤ g ∧ g < W2.heap.size) := by
  have hb0 : Below W.heap.size W (W.alloc (.cells #[] 9)) := bAlloc (Below.refl _ _) _
  have ho0 : (W.alloc (.cells #[] 9)).ownsRow W.heap.size 9 1 (.slice (some ⟨W.heap.size, 0, none⟩) 0 0) 0 [] := ⟨rfl, Or.inr ⟨W.heap.size, 0, #[], rfl, Nat.le_refl _, heap_alloc_new W _, Nat.le_refl _, Nat.zero_le _, rfl, rfl⟩⟩
  obtain ⟨a1, c1, W1, run1, own1, gr1, at1⟩ := run_appE (P := Tryz.prog) 23 9 (.string ⟨#[]⟩) 1 16 Tryz.underlying23 infoStr rfl (by decide) (by decide) (W.alloc (.cells #[] 9)) t1 W.heap.size _ 0 [] ho0 a n c (strs l1) (by rw [Nat.mul_one]; exact h1.below hb0) (strs_one l1) (by omega) (Nat.le_of_lt (by rw [size_alloc]; omega))
  rw [Nat.zero_add, List.nil_append] at own1
  rw [Nat.zero_add] at run1 at1
  have hb1 : Below W.heap.size W W1 := hb0.grown gr1 hb0.size (fun r e => (ho0.lt r e).1)
  obtain ⟨a2, c2, W2, run2, own2, gr2, at2⟩ := run_appE (P := Tryz.prog) 23 9 (.string ⟨#[]⟩) 1 16 Tryz.underlying23 infoStr rfl (by decide) (by decide) W1 t2 W.heap.size _ n (strs l1) own1 b m d (strs l2) (by rw [Nat.mul_one]; exact h2.below hb1) (strs_one l2) (by omega) hb1.size
  refine ⟨a1, c1, W1, a2, c2, W2, run1, run2, ?_, hb1.grown gr2 hb1.size (fun r e => (own1.lt r e).1), fun g off e hp => ?_⟩
  · have := own_rd own2
    rwa [Nat.mul_one, ← strs_app] at this
  · rcases own2.2 with ⟨h9, h8⟩ | ⟨g', cap, cur, h9, h8, h7, -⟩
    · omega
    · cases h9
      cases e
      exact ⟨h8, (Array.getElem?_eq_some_iff.1 h7).1⟩
theorem layD_snoc (l : List (List UInt8)) (m : Mm) (x : Nat) (s : List UInt8) : layD m x (l ++ [s]) = (putF (layD m x l) ((x + lensN l : Nat) : Int) (s.map UInt8.toNat)).1 := by
  rw [layD_app]; rfl
/-- the bytes of a text, made of it -/
theorem conv_rd (s : List UInt8) (W : World) (h0 : s.length ≤ 1000) : ∃ c W', (convert 9 52 (.string ⟨s.toArray⟩)).run Tryz.prog W = .ok (.slice (some ⟨W.heap.size, 0, none⟩) s.length c) W' ∧ Rd W' (some ⟨W.heap.size, 0, none⟩) s.length (u8s (s.map UInt8.toNat)) ∧ Below W.heap.size W W' ∧ W.heap.size < W'.heap.size := by
  obtain ⟨c, W', e1, B1, L1, z1⟩ := conv_any s W
  refine ⟨c, W', e1, ?_, L1, by rw [z1]; exact Nat.lt_succ_self _⟩
  have := rd_u8 W' W.heap.size (s.map UInt8.toNat) (by rw [z1]; exact Nat.lt_succ_self _) (fun j hj => by
    have hj2 : j < s.length := by simpa using hj
    rw [B1.cell j hj2, List.getElem_map])
  rwa [List.length_map] at this
theorem box_there {W : World} {B : Nat} {cs : Array Value} (h : BoxN W B cs) (o n : Nat) (hn : o + n ≤ cs.size) : W.there B o n := fun j hj => by
  have := h.there (o + j) (by omega)
  rwa [Nat.zero_add] at this
theorem box_at6 {W : World} {B : Nat} {cs : Array Value} (h : BoxN W B cs) (j : Nat) (v0 v1 v2 v3 v4 v5 : Value) : BoxN (W.setCells B j [v0, v1, v2, v3, v4, v5]) B ((((((cs.setIfInBounds j v0).setIfInBounds (j + 1) v1).setIfInBounds (j + 1 + 1) v2).setIfInBounds (j + 1 + 1 + 1) v3).setIfInBounds (j + 1 + 1 + 1 + 1) v4).setIfInBounds (j + 1 + 1 + 1 + 1 + 1) v5) :=
  (((((h.set j v0).set (j + 1) v1).set (j + 1 + 1) v2).set (j + 1 + 1 + 1) v3).set (j + 1 + 1 + 1 + 1) v4).set (j + 1 + 1 + 1 + 1 + 1) v5
abbrev zero6 : Array Value := #[.int .u64 0, .int .u64 0, .int .u64 0, .int .i64 0, .int .i64 0, .bool false]
theorem undrewB {B : Nat} {w w' : World} (h : Below B w.drew w') : Below B w w' := (Below.drew (Below.refl _ _)).trans h
theorem capsV_length (l : List Cp) : (capsV l).length = l.length * 6 := flat_len capC_len l
theorem rdp_take {w : World} {a : Option Addr} {n k : Nat} {xs ys : List Value} (h : Rd w a n (xs ++ ys)) (hk : xs.length = k) : Rd w a k xs :=
  ⟨hk, fun h0 => by
    have hl := h.1
    rw [List.length_append] at hl
    obtain ⟨b, off, e, hb, hc⟩ := h.2 (by omega)
    exact ⟨b, off, e, hb, fun j hj => by rw [hc j (by omega), List.getElem?_append_left (by omega)]⟩⟩
theorem rdp_drop {w : World} {b off n k m : Nat} {xs ys : List Value} (h : Rd w (some ⟨b, off, none⟩) n (xs ++ ys)) (hk : xs.length = k) (hm : ys.length = m) : Rd w (some ⟨b, off + k, none⟩) m ys :=
  ⟨hm, fun h0 => by
    have hl := h.1
    rw [List.length_append] at hl
    obtain ⟨b', off', e, hb, hc⟩ := h.2 (by omega)
    cases e
    exact ⟨b, off + k, rfl, hb, fun j hj => by
      have := hc (k + j) (by omega)
      rw [Nat.add_assoc, this, List.getElem?_append_right (by omega), hk, Nat.add_sub_cancel_left]⟩⟩
theorem six_nul {w : World} {NB : Nat} (h9 : BoxN w NB nul6) : w.cell? ⟨NB, 0, none⟩ = some (.int .u64 0) ∧ w.cell? ⟨NB, 1, none⟩ = some (.int .u64 0) ∧ w.cell? ⟨NB, 2, none⟩ = some (.int .u64 0) ∧ w.cell? ⟨NB, 3, none⟩ = some (.int .i64 0) ∧ w.cell? ⟨NB, 4, none⟩ = some (.int .i64 (-1)) ∧ w.cell? ⟨NB, 5, none⟩ = some (.bool false) :=
  ⟨h9.cell 0, h9.cell 1, h9.cell 2, h9.cell 3, h9.cell 4, h9.cell 5⟩
def Aft24 (C : World → Prop) (v : Value) (a : Act) (e : Exit) (a' : Act) (w' : World) : Prop :=
  e = .normal ∧ ∃ v104 v105 v106 v107 v108 v109 v110 v111 v112 v113 v114 v115 : Value, a' = (((((((((((((a.put (some 104) v104).put (some 105) v105).put (some 106) v106).put (some 107) v107).put (some 108) v108).put (some 109) v109).put (some 110) v110).put (some 111) v111).put (some 112) v112).put (some 113) v113).put (some 114) v114).put (some 115) v115).put (some 16) v) ∧ C w'
theorem aft24 {C : World → Prop} {v : Value} {a a' : Act} {w' : World} {v104 v105 v106 v107 v108 v109 v110 v111 v112 v113 v114 v115 : Value} (hC : C w') (ha : a' = (((((((((((((a.put (some 104) v104).put (some 105) v105).put (some 106) v106).put (some 107) v107).put (some 108) v108).put (some 109) v109).put (some 110) v110).put (some 111) v111).put (some 112) v112).put (some 113) v113).put (some 114) v114).put (some 115) v115).put (some 16) v)) : Aft24 C v a .normal a' w' := ⟨rfl, _, _, _, _, _, _, _, _, _, _, _, _, ha, hC⟩
theorem join24 {P : Program} {c : Code} {Q : Exit → Act → World → Prop} {a : Act} {w : World} (C : World → Prop) (v : Value) (h1 : c.wp P (Aft24 C v a) a w)
    (h2 : ∀ v104 v105 v106 v107 v108 v109 v110 v111 v112 v113 v114 v115 w', C w' → Q .normal (((((((((((((a.put (some 104) v104).put (some 105) v105).put (some 106) v106).put (some 107) v107).put (some 108) v108).put (some 109) v109).put (some 110) v110).put (some 111) v111).put (some 112) v112).put (some 113) v113).put (some 114) v114).put (some 115) v115).put (some 16) v) w') : c.wp P Q a w :=
  Code.wp_mono (fun e a' w' ⟨he, _, _, _, _, _, _, _, _, _, _, _, _, ha, hC⟩ => by subst he; subst ha; exact h2 _ _ _ _ _ _ _ _ _ _ _ _ _ hC) h1
def Aft26 (C : World → Prop) (v : Value) (a : Act) (e : Exit) (a' : Act) (w' : World) : Prop :=
  e = .normal ∧ ∃ v123 v124 v125 v126 v127 v128 v129 v130 v131 v132 v133 v134 : Value, a' = (((((((((((((a.put (some 123) v123).put (some 124) v124).put (some 125) v125).put (some 126) v126).put (some 127) v127).put (some 128) v128).put (some 129) v129).put (some 130) v130).put (some 131) v131).put (some 132) v132).put (some 133) v133).put (some 134) v134).put (some 16) v) ∧ C w'
theorem aft26 {C : World → Prop} {v : Value} {a a' : Act} {w' : World} {v123 v124 v125 v126 v127 v128 v129 v130 v131 v132 v133 v134 : Value} (hC : C w') (ha : a' = (((((((((((((a.put (some 123) v123).put (some 124) v124).put (some 125) v125).put (some 126) v126).put (some 127) v127).put (some 128) v128).put (some 129) v129).put (some 130) v130).put (some 131) v131).put (some 132) v132).put (some 133) v133).put (some 134) v134).put (some 16) v)) : Aft26 C v a .normal a' w' := ⟨rfl, _, _, _, _, _, _, _, _, _, _, _, _, ha, hC⟩
theorem join26 {P : Program} {c : Code} {Q : Exit → Act → World → Prop} {a : Act} {w : World} (C : World → Prop) (v : Value) (h1 : c.wp P (Aft26 C v a) a w)
    (h2 : ∀ v123 v124 v125 v126 v127 v128 v129 v130 v131 v132 v133 v134 w', C w' → Q .normal (((((((((((((a.put (some 123) v123).put (some 124) v124).put (some 125) v125).put (some 126) v126).put (some 127) v127).put (some 128) v128).put (some 129) v129).put (some 130) v130).put (some 131) v131).put (some 132) v132).put (some 133) v133).put (some 134) v134).put (some 16) v) w') : c.wp P Q a w :=
  Code.wp_mono (fun e a' w' ⟨he, _, _, _, _, _, _, _, _, _, _, _, _, ha, hC⟩ => by subst he; subst ha; exact h2 _ _ _ _ _ _ _ _ _ _ _ _ _ hC) h1
def Aft28 (C : World → Prop) (v : Value) (a : Act) (e : Exit) (a' : Act) (w' : World) : Prop :=
  e = .normal ∧ ∃ v142 v143 v144 v145 v146 v147 v148 v149 v150 : Value, a' = ((((((((((a.put (some 142) v142).put (some 143) v143).put (some 144) v144).put (some 145) v145).put (some 146) v146).put (some 147) v147).put (some 148) v148).put (some 149) v149).put (some 150) v150).put (some 16) v) ∧ C w'
theorem aft28 {C : World → Prop} {v : Value} {a a' : Act} {w' : World} {v142 v143 v144 v145 v146 v147 v148 v149 v150 : Value} (hC : C w') (ha : a' = ((((((((((a.put (some 142) v142).put (some 143) v143).put (some 144) v144).put (some 145) v145).put (some 146) v146).put (some 147) v147).put (some 148) v148).put (some 149) v149).put (some 150) v150).put (some 16) v)) : Aft28 C v a .normal a' w' := ⟨rfl, _, _, _, _, _, _, _, _, _, ha, hC⟩
theorem join28 {P : Program} {c : Code} {Q : Exit → Act → World → Prop} {a : Act} {w : World} (C : World → Prop) (v : Value) (h1 : c.wp P (Aft28 C v a) a w)
    (h2 : ∀ v142 v143 v144 v145 v146 v147 v148 v149 v150 w', C w' → Q .normal ((((((((((a.put (some 142) v142).put (some 143) v143).put (some 144) v144).put (some 145) v145).put (some 146) v146).put (some 147) v147).put (some 148) v148).put (some 149) v149).put (some 150) v150).put (some 16) v) w') : c.wp P Q a w :=
  Code.wp_mono (fun e a' w' ⟨he, _, _, _, _, _, _, _, _, _, ha, hC⟩ => by subst he; subst ha; exact h2 _ _ _ _ _ _ _ _ _ _ hC) h1

def ListC (W : World) (N : Nat) (G : Nat → Prop) (R : Nat) (m : Mm) (W' : World) : Prop := ∃ G', ROw W' N G' R m ∧ Moves W W' G G'

theorem mv_with {W W' : World} {G G' : Nat → Prop} (B : Nat) (h : Moves W W' G G') : Moves W W' (withB G B) (withB G' B) :=
  ⟨fun b hb => by
    rcases hb with q | q
    · exact (h.sub b q).imp Or.inl id
    · exact Or.inl (Or.inr q), h.kp.mono (Nat.le_refl _) (fun b _ q => Or.inl q)⟩
theorem RdC.away {W W' : World} {G G' : Nat → Prop} {a : Option Addr} {l : List Cp} {SB : Nat} (h : RdC W G a l) (hm : Moves W W' G G') (hs : W.heap.size ≤ SB) : RdC W' (withB G' SB) a l :=
  ⟨(h.move hm).1, fun b off h0 e => ⟨fun hf => hf.elim ((h.move hm).2 b off h0 e).1 (fun q => by have := (h.2 b off h0 e).2; omega), ((h.move hm).2 b off h0 e).2⟩⟩
/-- where the document's Build stands, once its texts are laid -/
structure BSt (W : World) (G0 : Nat → Prop) (N R SB NB : Nat) (ra a3 : Option Addr) (cl k : List Cp) (w : World) (G : Nat → Prop) (m : Mm) (D : Array Value) : Prop where
  row : ROw w N G R m
  cr : RdC w (withB G SB) ra cl
  ar : RdC w (withB G SB) a3 k
  sb : BoxN w SB D
  nb : BoxN w NB nul6
  zb : BoxN w W.heap.size zero24
  mv : Moves W w G0 G
  ns : ¬ G SB
  nn : ¬ G NB
  nz : ¬ G W.heap.size
  zl : W.heap.size < SB
  sl : SB < NB
theorem BSt.below {W w w' : World} {G0 G : Nat → Prop} {N R SB NB : Nat} {ra a3 : Option Addr} {cl k : List Cp} {m : Mm} {D : Array Value} (h : BSt W G0 N R SB NB ra a3 cl k w G m D) (hb : Below w.heap.size w w') : BSt W G0 N R SB NB ra a3 cl k w' G m D :=
  ⟨h.row.below hb, h.cr.move (Moves.of_below _ hb), h.ar.move (Moves.of_below _ hb), boxN_below h.sb hb, boxN_below h.nb hb, boxN_below h.zb hb, mv_below h.mv hb, h.ns, h.nn, h.nz, h.zl, h.sl⟩
theorem BSt.put6 {W w : World} {G0 G : Nat → Prop} {N R SB NB : Nat} {ra a3 : Option Addr} {cl k : List Cp} {m : Mm} {D : Array Value} (h : BSt W G0 N R SB NB ra a3 cl k w G m D) (j : Nat) (v0 v1 v2 v3 v4 v5 : Value) :
    BSt W G0 N R SB NB ra a3 cl k (w.setCells SB j [v0, v1, v2, v3, v4, v5]) G m ((((((D.setIfInBounds j v0).setIfInBounds (j + 1) v1).setIfInBounds (j + 1 + 1) v2).setIfInBounds (j + 1 + 1 + 1) v3).setIfInBounds (j + 1 + 1 + 1 + 1) v4).setIfInBounds (j + 1 + 1 + 1 + 1 + 1) v5) := by
  have hk : KP w.heap.size (withB G SB) w (w.setCells SB j [v0, v1, v2, v3, v4, v5]) := kp_setCells SB (Or.inr (Or.inr rfl)) _ _ _ (KP.refl _ _ _)
  have hk1 : KP w.heap.size (· = SB) w (w.setCells SB j [v0, v1, v2, v3, v4, v5]) := kp_setCells (S := (· = SB)) SB (Or.inr rfl) _ _ _ (KP.refl _ (· = SB) _)
  have hm : Moves w (w.setCells SB j [v0, v1, v2, v3, v4, v5]) (withB G SB) (withB G SB) := ⟨fun b hb => Or.inl hb, hk⟩
  refine ⟨h.row.setCells h.ns _ _, h.cr.move hm, h.ar.move hm, box_at6 h.sb j v0 v1 v2 v3 v4 v5, h.nb.kp hk1 h.nb.lt (fun e => by have := h.sl; omega), h.zb.kp hk1 h.zb.lt (fun e => by have := h.zl; omega), ⟨h.mv.sub, kp_setCells SB (Or.inl (Nat.le_of_lt h.zl)) _ _ _ h.mv.kp⟩, h.ns, h.nn, h.nz, h.zl, h.sl⟩
theorem BSt.list {W w w' : World} {G0 G : Nat → Prop} {N R SB NB : Nat} {ra a3 : Option Addr} {cl k : List Cp} {m m' : Mm} {D : Array Value} (h : BSt W G0 N R SB NB ra a3 cl k w G m D) (hl : ListC w N G R m' w') : ∃ G', BSt W G0 N R SB NB ra a3 cl k w' G' m' D := by
  obtain ⟨G', h1, h2⟩ := hl
  refine ⟨G', h1, h.cr.move (mv_with SB h2), h.ar.move (mv_with SB h2), h.sb.kp h2.kp h.sb.lt h.ns, h.nb.kp h2.kp h.nb.lt h.nn, h.zb.kp h2.kp h.zb.lt h.nz, mv_trans h.mv h2, fun q => ?_, fun q => ?_, fun q => ?_, h.zl, h.sl⟩
  · rcases h2.sub _ q with q | q
    · exact h.ns q
    · have := h.sb.lt; omega
  · rcases h2.sub _ q with q | q
    · exact h.nn q
    · have := h.nb.lt; omega
  · rcases h2.sub _ q with q | q
    · exact h.nz q
    · have := h.zb.lt; omega
set_option maxRecDepth 100000 in
set_option maxHeartbeats 8000000 in
theorem rb_yes (W : World) (N R : Nat) (G : Nat → Prop) (m : Mm) (f : Nat) (p : Int) (a1 a2 a3 : Option Addr) (c1 c2 c3 : Nat) (l1 l2 : List (List UInt8)) (k : List Cp) (hm : ROw W N G R m) (h1 : Rd W a1 l1.length (strs l1)) (h2 : Rd W a2 l2.length (strs l2)) (h3 : RdC W G a3 k) (f3 : ∀ c ∈ k, 0 ≤ c.p ∧ c.p < 256) (hfit : ∀ c ∈ k, FitC c) (hf : f < 18446744073709551616) (hp0 : -9 ≤ p) (hp1 : p ≤ 300)
    (h1n : ∀ b off, 0 < l1.length → a1 = some ⟨b, off, none⟩ → ¬ G b) (h2n : ∀ b off, 0 < l2.length → a2 = some ⟨b, off, none⟩ → ¬ G b)
    (ht1 : textsB l1 = true) (ht2 : textsB l2 = true) (ht3 : auxB k = true) (hr : ¬ 256 * p < (needN l1 l2 k.length : Int) + 64) (m1 : Mm) (hmm : mapF m f p = (m1, 0)) :
    Calls Tryz.prog 12 #[.pointer (some ⟨R, 0, none⟩), .int .u64 (f : Int), .int .i64 p, .slice a1 l1.length c1, .slice a2 l2.length c2, .slice a3 k.length c3] W fun e W' => e = .returned (.tuple #[.agg (startV (startS (f * 256) ((f + p).toNat * 256) l1 l2 k)), .int .i64 0]) ∧ ∃ G', ROw W' N G' R (layDm m1 (f * 256) l1 l2 k) ∧ Moves W W' G G' := by
  have HMP := Lib.hid (fun W1 (hb : Below W.heap.size W W1) => rrmap_any W1 N R G m (hm.below hb) (f : Int) p (by omega) (by omega) (by omega) (by omega))
  rw [hmm] at HMP
  simp only [] at HMP
  have hnb : ¬ G W.heap.size := fun hf => by have := hm.lt _ hf; omega
  have HNB := Lib.hid hnb
  obtain ⟨n1, s1⟩ := texts_fit ht1
  obtain ⟨n2, s2⟩ := texts_fit ht2
  have n3 := aux_fit ht3
  have HT1 := Lib.hid (fun W1 (hb : Below W.heap.size W W1) => rright_any a1 a2 a3 c1 c2 c3 l1 l2 k W1 (h1.below hb) (h2.below hb) (h3.1.below hb) (by omega) (by omega) (by omega) (fun s hs => Nat.le_trans (s1 s hs) (by decide)) (fun s hs => Nat.le_trans (s2 s hs) (by decide)) f3)
  rw [ht1, ht2, ht3, show (true && (true && true)) = true from rfl] at HT1
  have HND := Lib.hid (fun W1 (hb : Below W.heap.size W W1) => rneed_fit a1 a2 a3 c1 c2 c3 k.length l1 l2 W1 (h1.below hb) (h2.below hb) n1 n2 n3 s1 s2)
  have hnd := needN_fit n1 n2 n3 s1 s2
  have HFIT := Lib.hid hfit
  have HR3 := Lib.hid h3
  have H1 := Lib.hid h1
  have H2 := Lib.hid h2
  have H1N := Lib.hid h1n
  have H2N := Lib.hid h2n
  obtain ⟨o1, o2, o3⟩ := map_ok (m := m) (f := (f : Int)) (p := p) (by omega) (by rw [hmm])
  obtain ⟨W0, hW0⟩ : ∃ W0, W.alloc (.cells zero24 42) = W0 := ⟨_, rfl⟩
  have hb0 : Below W.heap.size W W0 := by rw [← hW0]; exact bAlloc (Below.refl _ _) _
  have HZ0 : Hid (BoxN W0 W.heap.size zero24) := Lib.hid (by rw [← hW0]; exact BoxN.new W _ _)
  have HB0 := Lib.hid hb0
  have HW0 := Lib.hid hW0
  -- all texts
  obtain ⟨l, hl⟩ : ∃ l, l1 ++ l2 = l := ⟨_, rfl⟩
  have hll : l1.length + l2.length = l.length := by rw [← hl, List.length_append]
  have hlu : ∀ s ∈ l, s.length ≤ 200 := fun s hs => by
    rw [← hl] at hs
    rcases List.mem_append.1 hs with h | h
    · exact s1 s h
    · exact s2 s h
  have hln : lensN l = lensN l1 + lensN l2 := by rw [← hl, lensN_app]
  have HLL := Lib.hid hll
  have HLU := Lib.hid hlu
  have HLN := Lib.hid hln
  have HEQ := Lib.hid hl
  have q1 := lensN_le l1 s1
  have q2 := lensN_le l2 s2
  obtain ⟨x, hx⟩ : ∃ x, f * 256 = x := ⟨_, rfl⟩
  have hneed : x + upN (lensN l1 + lensN l2) + 32 * (l1.length + 1) + 32 * (l2.length + 1) + 32 * (k.length + 1) ≤ ((f : Int) + p).toNat * 256 := by
    unfold needN at hr
    omega
  have hxx : x < 17000000 := by omega
  have HX := Lib.hid hx
  have HNEED := Lib.hid hneed
  have HXX := Lib.hid hxx
  have HZL : Hid (lensN l ≤ 3300) := Lib.hid (by omega)
  have HO := Lib.hid (And.intro o1 (And.intro o2 o3))
  have HN1 := Lib.hid n1
  have HN2 := Lib.hid n2
  have HN3 := Lib.hid n3
  obtain ⟨nd, hndd⟩ : ∃ nd, needN l1 l2 k.length = nd := ⟨_, rfl⟩
  rw [hndd] at HND hr hnd
  have v1 : IntKind.i64.wrap ((nd : Int) + 64) = (nd : Int) + 64 := by rw [IntKind.wrap_i64]; omega
  have v2 : IntKind.i64.wrap (256 * p) = 256 * p := by rw [IntKind.wrap_i64]; omega
  have d1 : decide (p ≤ 65536) = true := decide_eq_true (by omega)
  have d2 : decide (256 * p < (nd : Int) + 64) = false := decide_eq_false hr
  have v3 : IntKind.u64.wrap (256 * (f : Int)) = (x : Int) := by rw [IntKind.wrap_u64]; omega
  have HV := Lib.hid (And.intro v1 (And.intro v2 (And.intro d1 (And.intro d2 v3))))
  rw [hx]
  clear hm h1 h2 h3 h1n h2n f3 hfit hf hp0 hp1 ht1 ht2 ht3 hr n1 s1 n2 s2 n3 hnd hb0 hW0 hmm hnb o1 o2 o3 hl hll hlu hln q1 q2 hx hneed hxx hndd v1 v2 d1 d2 v3
  obtain ⟨p1, hp1⟩ : ∃ n, l1.length = n := ⟨_, rfl⟩
  obtain ⟨p2, hp2⟩ : ∃ n, l2.length = n := ⟨_, rfl⟩
  obtain ⟨p3, hp3⟩ : ∃ n, k.length = n := ⟨_, rfl⟩
  rw [hp1] at HT1 HND HLL HNEED HN1 H1 H1N ⊢
  rw [hp2] at HT1 HND HLL HNEED HN2 H2 H2N ⊢
  rw [hp3] at HT1 HND HNEED HN3 ⊢
  have HP := Lib.hid (And.intro hp1 (And.intro hp2 hp3))
  clear hp1 hp2 hp3
  obtain ⟨v1, v2, d1, d2, v3⟩ := HV.out
  go_enter Tryz.func12, Tryz.ntmps12
  go_upto_region 1 with fail
  (try rw [HW0.out])
  clear HW0
  go_upto_region 10 with (first
    | (go_at_call 15; refine (HND.out _ HB1.out).mono ?_; rintro e w2 ⟨rfl, rfl⟩)
    | (go_at_call 35; refine (HT1.out _ HB0.out).mono ?_; rintro e w1 ⟨rfl, hb⟩; have HZ1 := Lib.hid (boxN_below HZ0.out hb); have HB1 := Lib.hid (HB0.out.trans (hb.mono HB0.out.size)); clear hb)
    | (go_at_call 9; refine (HMP.out _ HB1.out).mono ?_; rintro e w6 ⟨rfl, G6, ho, hv⟩; have HZ6 := Lib.hid (HZ1.out.kp hv.kp HZ1.out.lt HNB.out); have HO6 := Lib.hid ho; have HM6 := Lib.hid (mv_trans (Moves.of_below G HB1.out) hv); have HNZ : Hid (¬ G6 W.heap.size) := Lib.hid (fun hg => (hv.sub _ hg).elim HNB.out (fun q => by have := HZ1.out.lt; omega)); clear ho hv))
  clear HMP HT1 HND HZ0 HB0 HZ1 HB1 HV v1 v2 d1 d2 v3
  have h1k : Rd w6 a1 p1 (strs l1) := HM6.out.kp.rd H1.out (fun b off h e => ⟨by obtain ⟨b', off', e', hl', -⟩ := H1.out.2 h; rw [e] at e'; cases e'; exact hl', H1N.out b off h e⟩)
  have h2k : Rd w6 a2 p2 (strs l2) := HM6.out.kp.rd H2.out (fun b off h e => ⟨by obtain ⟨b', off', e', hl', -⟩ := H2.out.2 h; rw [e] at e'; cases e'; exact hl', H2N.out b off h e⟩)
  obtain ⟨b1, e1, V1, b2, e2, w8, run1, run2, rd8, hb8, hnw8⟩ := all_txt w6 23 23 a1 a2 c1 c2 p1 p2 l1 l2 h1k h2k (by have := HN1.out; omega) (by have := HN2.out; omega)
  rw [HEQ.out, HLL.out] at rd8
  rw [HLL.out] at run2 hnw8
  have hro : ROw w8 N G6 R m1 := HO6.out.below hb8
  have HZ8 := Lib.hid (boxN_below HZ6.out hb8)
  have HM8 := Lib.hid (mv_trans HM6.out (Moves.of_below G6 hb8))
  have HT8 : Hid (RdT w8 G6 b2 l) := Lib.hid ⟨rd8, fun g off h e => ⟨fun hg => by have := HO6.out.lt g hg; have := (hnw8 g off e h).1; omega, (hnw8 g off e h).2⟩⟩
  have HRO := Lib.hid hro
  obtain ⟨n, hn⟩ : ∃ n, l.length = n := ⟨_, rfl⟩
  have HN := Lib.hid hn
  rw [hn] at HLL run2
  have hn16 : n ≤ 16 := by have := HN1.out; have := HN2.out; have := HLL.out; omega
  have HN16 := Lib.hid hn16
  clear h1k h2k rd8 hb8 hnw8 hro hn hn16
  go_wp2_with (first | refine wpList_appM _ rfl (.tmp 54) (.tmp 55) rfl _ _ _ _ rfl rfl run1 ?_ | refine wpList_appM _ rfl (.tmp 56) (.tmp 57) rfl _ _ _ _ rfl rfl run2 ?_ | fail)
  clear run1 run2
  go_loopw [16, 17, 19] (fun av cv i wr => ∃ (q : Nat) (ra : Option Addr) (rc : Nat) (G7 : Nat → Prop), q ≤ n ∧ av = .int .u64 ((x + lensN (l.take q) : Nat) : Int) ∧ cv = .slice ra q rc ∧ i = .int .i64 (q : Int) ∧ Hid (wr.ownsRow w8.heap.size 37 6 (.slice ra q rc) q (capsV (capsT x (l.take q)))) ∧ Hid (∀ g, (Value.slice ra q rc).ownBlock = some g → ¬ G7 g) ∧ Hid (ROw wr N G7 R (layD m1 x (l.take q))) ∧ Hid (Moves w8 wr G6 G7)) (fun _ _ i _ => n - (intOf i).toNat)
  case atStart => exact ⟨0, none, 0, G6, Nat.zero_le _, rfl, rfl, rfl, Lib.hid (World.ownsRow_nil _ _ _ 6), Lib.hid (fun g e => by cases e), HRO, Lib.hid (mv_refl _ _)⟩
  case round =>
    obtain ⟨q, ra, rc, G7, hq, rfl, rfl, rfl, HO7, HD7, HR7, HM7⟩ := hrel
    have hn16 := HN16.out
    by_cases hqn : q < n
    · have hql : q < l.length := by rw [HN.out]; exact hqn
      obtain ⟨g, off, hge, hc⟩ := RdT.at_ (HT8.out.move HM7.out) hql
      subst hge
      have hs200 := HLU.out l[q] (List.getElem_mem hql)
      have hlay : layD m1 x (l.take (q + 1)) = (putF (layD m1 x (l.take q)) ((x + lensN (l.take q) : Nat) : Int) (l[q].map UInt8.toNat)).1 := by
        rw [List.take_succ_eq_append_getElem hql, layD_snoc]
      have hcap : capsT x (l.take (q + 1)) = capsT x (l.take q) ++ [spanC ((x + lensN (l.take q) : Nat) : Int) ((x + lensN (l.take q) + (l[q].length + 1) : Nat) : Int) 1] := by
        rw [List.take_succ_eq_append_getElem hql, capsT_snoc]
      have hlen2 : lensN (l.take (q + 1)) = lensN (l.take q) + (l[q].length + 1) := by
        rw [List.take_succ_eq_append_getElem hql, lensN_app, lensN_cons, lensN_nil]
      have hlen := lensN_take l q
      obtain ⟨s, hs⟩ : ∃ s, l[q] = s := ⟨_, rfl⟩
      rw [hs] at hc hs200 hlay hcap hlen2
      obtain ⟨y, hy⟩ : ∃ y, x + lensN (l.take q) = y := ⟨_, rfl⟩
      rw [hy] at hlay hcap ⊢
      have hy9 : y < 18000000 := by have := HXX.out; have := HZL.out; omega
      have kk0 : (0 : Int) ≤ (q : Int) := by omega
      have kk1 : (q : Int) < (n : Int) := by omega
      have hd1 : decide ((q : Int) < (n : Int)) = true := decide_eq_true kk1
      have HLAY := Lib.hid hlay
      have HCAP := Lib.hid hcap
      have HLEN2 := Lib.hid (show x + lensN (l.take (q + 1)) = y + (s.length + 1) by omega)
      have hsz : (⟨s.toArray⟩ : ByteArray).size = s.length := mk_size s
      have hw1 : IntKind.u64.wrap (s.length : Int) = (s.length : Int) := by rw [IntKind.wrap_u64]; omega
      have hw2 : IntKind.u64.wrap ((s.length : Int) + 1) = (s.length : Int) + 1 := by rw [IntKind.wrap_u64]; omega
      have hw3 : IntKind.u64.wrap ((y : Int) + (s.length : Int)) = (y : Int) + (s.length : Int) := by rw [IntKind.wrap_u64]; omega
      have hw4 : IntKind.u64.wrap ((y : Int) + (s.length : Int) + 1) = (y : Int) + (s.length : Int) + 1 := by rw [IntKind.wrap_u64]; omega
      have hw5 : IntKind.u64.wrap ((y : Int) + ((s.length : Int) + 1)) = (y : Int) + ((s.length : Int) + 1) := by rw [IntKind.wrap_u64]; omega
      obtain ⟨cc, U, hconv, hrdU, hbU, hlU⟩ := conv_rd s wr (by omega)
      have hrU := HR7.out.below hbU
      have C5 := Lib.hid (rputA_any U R G7 _ hrU.mem y s.length cc (some ⟨wr.heap.size, 0, none⟩) (s.map UInt8.toNat) (by omega) (by simp) (by omega) (fun b hb => by
        obtain ⟨c, -, rfl⟩ := List.mem_map.1 hb; exact c.toNat_lt) hrdU (fun _ g o e hg => by
        cases e
        have := HR7.out.lt _ hg
        omega))
      have HRU := Lib.hid hrU
      have HBU := Lib.hid hbU
      have HOF := Lib.hid (fun W1 => dof_any (y : Int) ((s.length : Int) + 1) 1 ((y : Int) + ((s.length : Int) + 1)) W1 hw5)
      clear hql hlay hcap hlen2 hs hy hlen hrU hbU hrdU hlU hs200 hy9
      go_wp2_with fail
      refine C5.out.mono ?_; rintro e w5 ⟨rfl, hr5, hk5⟩
      obtain ⟨G8, hr6, hm6⟩ := row_step HRU.out hr5 hk5
      have hmv : Moves wr w5 G7 G8 := mv_trans (Moves.of_below G7 HBU.out) hm6
      have ho6 : w5.ownsRow w8.heap.size 37 6 (.slice ra q rc) q (capsV (capsT x (l.take q))) := own_blk HO7.out (fun g e => hmv.kp.block g (HO7.out.lt g e).2 (HD7.out g e))
      have hd6 : ∀ g, (Value.slice ra q rc).ownBlock = some g → ¬ G8 g := fun g e hg => by
        rcases hmv.sub g hg with h | h
        · exact HD7.out g e h
        · have := (HO7.out.lt g e).2; omega
      have HO6 := Lib.hid ho6
      have HD6 := Lib.hid hd6
      have HR6 := Lib.hid hr6
      have HM6 := Lib.hid (mv_trans HM7.out hmv)
      clear hr5 hk5 hr6 hm6 hmv ho6 hd6 hconv
      go_wp2_with fail
      refine (HOF.out w5).mono ?_; rintro e w7 ⟨rfl, hb⟩
      have HR7' := Lib.hid (HR6.out.below hb)
      have HM7' := Lib.hid (mv_below HM6.out hb)
      have HO7' : Hid (w7.ownsRow w8.heap.size 37 6 (.slice ra q rc) q (capsV (capsT x (l.take q)))) := Lib.hid (own_blk HO6.out (fun g e => hb.block g (HO6.out.lt g e).2))
      clear hb HR6 HM6 HO6
      have hcc : capC (spanC ((y : Nat) : Int) ((y + (s.length + 1) : Nat) : Int) 1) = [.int .u64 (y : Int), .int .u64 ((y : Int) + ((s.length : Int) + 1)), .int .u64 (y : Int), .int .i64 1, .int .i64 (-1), .bool true] := by
        unfold capC spanC
        simp only [Int.natCast_add, Int.natCast_one]
      have HCC := Lib.hid hcc
      obtain ⟨wa, hwa⟩ : ∃ wa, w7.alloc (.cells #[.int .u64 (y : Int), .int .u64 ((y : Int) + ((s.length : Int) + 1)), .int .u64 (y : Int), .int .i64 1, .int .i64 (-1), .bool true] 37) = wa := ⟨_, rfl⟩
      have hba : Below w7.heap.size w7 wa := by rw [← hwa]; exact bAlloc (Below.refl _ _) _
      have HRa := Lib.hid (HR7'.out.below hba)
      have HMa := Lib.hid (mv_below HM7'.out hba)
      have HOa : Hid (wa.ownsRow w8.heap.size 37 6 (.slice ra q rc) q (capsV (capsT x (l.take q)))) := Lib.hid (own_blk HO7'.out (fun g e => hba.block g (HO7'.out.lt g e).2))
      have hrl : Rd wa (some ⟨w7.heap.size, 0, none⟩) (1 * 6) (capsV [spanC ((y : Nat) : Int) ((y + (s.length + 1) : Nat) : Int) 1]) := by
        rw [capsV_one, HCC.out, ← hwa]
        exact Rd.lit w7 #[.int .u64 (y : Int), .int .u64 ((y : Int) + ((s.length : Int) + 1)), .int .u64 (y : Int), .int .i64 1, .int .i64 (-1), .bool true] 37 (by show 6 ≤ maxLen; decide)
      have hsa : w8.heap.size ≤ wa.heap.size := HMa.out.kp.size
      obtain ⟨a9, c9, W9, run9, own9, hb9, hg9, hob9⟩ := capp_any wa w8.heap.size 24 ra rc q (capsV (capsT x (l.take q))) HOa.out (some ⟨w7.heap.size, 0, none⟩) 1 1 [spanC ((y : Nat) : Int) ((y + (s.length + 1) : Nat) : Int) 1] hrl (by omega) hsa
      rw [← capsV_app, ← HCAP.out] at own9
      have hmg : RmAt W9 R G8 (putF (layD m1 x (l.take q)) (y : Int) (s.map UInt8.toNat)).1 := HRa.out.mem.blocks (fun b hb => hg9.block b (HRa.out.lt b hb) (fun e => HD6.out b e.symm hb)) hg9.size
      have hro9 : ROw W9 N G8 R (layD m1 x (l.take (q + 1))) := ⟨by rw [HLAY.out]; exact hmg, HRa.out.ge, Nat.le_trans HRa.out.sz hg9.size⟩
      have hmv9 : Moves w8 W9 G6 G8 := ⟨HMa.out.sub, HMa.out.kp.grown hg9 hsa (fun r e => Or.inl (HOa.out.lt r e).1)⟩
      have hd9 : ∀ g, (Value.slice a9 (q + 1) c9).ownBlock = some g → ¬ G8 g := fun g e hg => by
        rcases hob9 with h | h
        · exact HD6.out g (h ▸ e) hg
        · rw [h] at e
          cases e
          exact absurd (HRa.out.lt _ hg) (Nat.lt_irrefl _)
      have HR9 := Lib.hid hro9
      have HM9 := Lib.hid hmv9
      have HD9 := Lib.hid hd9
      have HO9 := Lib.hid own9
      have HWA := Lib.hid hwa
      clear hwa hcc hba hrl hsa hb9 hg9 hob9 hmg hro9 hmv9 hd9 own9
      go_wp2_with (first | (rw [HWA.out]; refine wpList_appM _ rfl (.tmp 79) (.tmp 84) rfl _ _ _ _ rfl rfl run9 ?_) | fail)
      clear run9 HWA
      go_roundw
      case rel => exact ⟨q + 1, a9, c9, G8, by omega, by rw [HLEN2.out]; first | rfl | exact congrArg (Value.int IntKind.u64) (by omega), rfl, by go_num, HO9, HD9, HR9, HM9⟩
      case measure => simp [intOf]; omega
    · obtain rfl : q = n := by omega
      have htk : l.take q = l := List.take_of_length_le (by rw [HN.out]; omega)
      rw [htk] at HO7 HR7 ⊢
      obtain ⟨w9, hw9⟩ : ∃ w, w = wr := ⟨_, rfl⟩
      subst hw9
      have hd1 : decide ((q : Int) < (q : Int)) = false := by simp
      have hd2 : decide (q < q) = false := by simp
      obtain ⟨z, hz⟩ : ∃ z, x + lensN l = z := ⟨_, rfl⟩
      obtain ⟨u, hu⟩ : ∃ u, upN z = u := ⟨_, rfl⟩
      rw [hz]
      have hzz : z < 17010000 := by have := HXX.out; have := HZL.out; omega
      have HZ := Lib.hid hz
      have HU := Lib.hid (And.intro hu (And.intro hzz (show u = (z + 31) / 32 * 32 from hu ▸ rfl)))
      clear htk hz hu hzz hq hqn
      go_wp2_with fail
      go_loopw [16] (fun v wr => ∃ m : Nat, v = .int .u64 (m : Int) ∧ z ≤ m ∧ m ≤ u ∧ w9 = wr) (fun v _ => u - (intOf v).toNat)
      case atStart => exact ⟨z, rfl, Nat.le_refl _, by have := HU.out.2.2; omega, rfl⟩
      case round =>
        obtain ⟨mm, rfl, m1', m2', rfl⟩ := hrel
        have huu := HU.out.2.2
        have hzz := HU.out.2.1
        by_cases hd : mm % 32 = 0
        · obtain rfl : mm = u := by omega
          have e1 : (mm : Int).tmod 32 = 0 := by rw [Int.tmod_eq_emod_of_nonneg (by omega)]; omega
          have hu9 : mm < 17010032 := by omega
          have HU9 := Lib.hid hu9
          clear hd huu hzz hu9 m1' m2'
          go_upto_region 21 with fail
          clear e1
          apply wp_region_lit
          refine wpList_buildTo rfl 42 _ rfl (some 95) rfl zero24 (by kernel_rfl) ?_
          refine Great.wpList_allocTo rfl (some 21) rfl (.pointer (some ⟨w9.heap.size, 0, none⟩)) (.cells zero24 42) (by kernel_rfl) ?_
          refine wpList_store_mid rfl _ _ _ rfl w9.heap.size 0 zero24 rfl rfl (BoxN.new w9 zero24 42).there startSizeD zero24_one ?_
          obtain ⟨w10, hw10⟩ : ∃ w, (w9.alloc (.cells zero24 42)).setCells w9.heap.size 0 zero24.toList = w := ⟨_, rfl⟩
          have hx10 : BoxN w10 w9.heap.size zero24 := by rw [← hw10]; exact box_newD w9 zero24 rfl
          have hb10 : Below w9.heap.size w9 w10 := by rw [← hw10]; exact below_setCells _ (Nat.le_refl _) _ _ _ (bAlloc (Below.refl _ _) _)
          rw [hw10]
          clear hw10
          go_wp2_with fail
          refine (rnull_any w10).mono ?_
          rintro e w11 ⟨rfl, hb⟩
          have hb11 : Below w9.heap.size w9 w11 := hb10.trans (hb.mono hb10.size)
          have hx11 : BoxN w11 w9.heap.size zero24 := boxN_below hx10 hb
          have HB11 := Lib.hid hb11
          have HX11 := Lib.hid hx11
          clear hb hb10 hx10 hb11 hx11
          simp only []
          go_at_K
          rename_i hK
          refine hK _ _ ?_
          clear hK
          refine Great.wpList_allocTo rfl (some 22) rfl (.pointer (some ⟨w11.heap.size, 0, none⟩)) (.cells zero6 37) (by kernel_rfl) ?_
          refine wpList_store_mid rfl _ _ _ rfl w11.heap.size 0 nul6 rfl rfl (BoxN.new w11 zero6 37).there capSize (by kernel_rfl) ?_
          obtain ⟨w12, hw12⟩ : ∃ w, (w11.alloc (.cells zero6 37)).setCells w11.heap.size 0 nul6.toList = w := ⟨_, rfl⟩
          have hx12 : BoxN w12 w11.heap.size nul6 := by rw [← hw12]; exact boxN_fill w11.heap.size nul6.toList [] zero6.toList _ rfl (BoxN.new w11 zero6 37)
          have hb12 : Below w11.heap.size w11 w12 := by rw [← hw12]; exact below_setCells _ (Nat.le_refl _) _ _ _ (bAlloc (Below.refl _ _) _)
          rw [hw12]
          have HX12 := Lib.hid hx12
          have HS12 := Lib.hid (boxN_below HX11.out hb12)
          have HB12 := Lib.hid (HB11.out.trans (hb12.mono HB11.out.size))
          have HS11 := Lib.hid HX11.out.lt
          clear hw12 hx12 hb12 HX11 HB11
          obtain ⟨SB, hSB⟩ : ∃ s, w9.heap.size = s := ⟨_, rfl⟩
          obtain ⟨NB, hNB⟩ : ∃ s, w11.heap.size = s := ⟨_, rfl⟩
          have hqr : q ≤ rc := by
            rcases HO7.out.2 with ⟨h1, h2⟩ | ⟨g, cap, cur, h1, -, -, h2, -⟩
            · omega
            · cases h1; exact h2
          have HQR := Lib.hid hqr
          have HRAF : Hid ((ra = none ∧ q = 0 ∧ rc = 0) ∨ ∃ g, ra = some ⟨g, 0, none⟩) := Lib.hid (by
            rcases HO7.out.2 with ⟨h1, h2⟩ | ⟨g, cap, cur, h1, -⟩
            · cases h1; exact Or.inl ⟨rfl, rfl, rfl⟩
            · cases h1; exact Or.inr ⟨g, rfl⟩)
          have hca : RdC w9 G7 ra (capsT x l) := ⟨by
            have := own_rd HO7.out
            rw [show (capsT x l).length = q by rw [capsT_len]; exact HN.out]
            exact this, fun b off h e => ⟨fun hg => HD7.out b (by rw [e]; rfl) hg, (HO7.out.lt b (by rw [e]; rfl)).2⟩⟩
          have hsz : W.heap.size < w9.heap.size := Nat.lt_of_lt_of_le HZ8.out.lt HM7.out.kp.size
          have hst : BSt W G N R w9.heap.size w11.heap.size ra a3 (capsT x l) k w12 G7 (layD m1 x l) zero24 :=
            ⟨HR7.out.below HB12.out, hca.away (Moves.of_below G7 HB12.out) (Nat.le_refl _), HR3.out.away (mv_trans HM8.out (mv_below HM7.out HB12.out)) (Nat.le_of_lt hsz), HS12.out, HX12.out, boxN_below (HZ8.out.kp HM7.out.kp HZ8.out.lt HNZ.out) HB12.out, mv_trans HM8.out (mv_below HM7.out HB12.out), fun h => by have := HR7.out.lt _ h; omega, fun h => by have := HR7.out.lt _ h; have := HS11.out; omega, fun h => by
              rcases HM7.out.sub _ h with h | h
              · exact HNZ.out h
              · have := HZ8.out.lt; omega, hsz, HS11.out⟩
          rw [hSB, hNB] at hst
          rw [hSB, hNB]
          have HST := Lib.hid hst
          clear hqr hca hsz hst hSB hNB HS11 HB12 HM7 HZ8 HR7 HD7 HM8 HT8 HS12 HX12 HO7 HR3 HNZ
          have hw1 : IntKind.u64.wrap (p1 : Int) = (p1 : Int) := by have := HN1.out; rw [IntKind.wrap_u64]; omega
          have hw2 : IntKind.u64.wrap (32 * (p1 : Int)) = 32 * (p1 : Int) := by have := HN1.out; rw [IntKind.wrap_u64]; omega
          have HOF := Lib.hid (fun W1 => dof_any (mm : Int) (32 * (p1 : Int)) 9 ((mm : Int) + 32 * (p1 : Int)) W1 (by have := HN1.out; have := HU9.out; rw [IntKind.wrap_u64]; omega))
          go_wp2_with fail
          refine (HOF.out w12).mono ?_
          rintro e w13 ⟨rfl, hb⟩
          have HS13 := Lib.hid (HST.out.below hb)
          clear hb HOF hw1 hw2 HST
          simp only []
          go_at_K
          rename_i hK
          refine hK _ _ ?_
          clear hK
          refine Great.wpList_readTo rfl (some 103) rfl (.pointer (some ⟨SB, 6, none⟩)) (by kernel_rfl) ?_
          refine wpList_store_mid rfl _ _ _ rfl SB 6 #[.int .u64 (mm : Int), .int .u64 ((mm : Int) + 32 * (p1 : Int)), .int .u64 (mm : Int), .int .i64 9, .int .i64 (-1), .bool true] rfl rfl (box_there HS13.out.sb 6 6 (by simp [Array.size_setIfInBounds])) capSize (by kernel_rfl) ?_
          have hst := HS13.out.put6 6 (.int .u64 (mm : Int)) (.int .u64 ((mm : Int) + 32 * (p1 : Int))) (.int .u64 (mm : Int)) (.int .i64 9) (.int .i64 (-1)) (.bool true)
          obtain ⟨w14, hw14⟩ : ∃ w, w13.setCells SB 6 (#[.int .u64 (mm : Int), .int .u64 ((mm : Int) + 32 * (p1 : Int)), .int .u64 (mm : Int), .int .i64 9, .int .i64 (-1), .bool true] : Array Value).toList = w := ⟨_, rfl⟩
          rw [hw14]
          rw [show [.int .u64 (mm : Int), .int .u64 ((mm : Int) + 32 * (p1 : Int)), .int .u64 (mm : Int), .int .i64 9, .int .i64 (-1), .bool true] = (#[.int .u64 (mm : Int), .int .u64 ((mm : Int) + 32 * (p1 : Int)), .int .u64 (mm : Int), .int .i64 9, .int .i64 (-1), .bool true] : Array Value).toList from rfl, hw14] at hst
          have HS14 := Lib.hid hst
          clear hst hw14 HS13
          go_upto_region 24 with fail
          simp only [Act.put, List.setIfInBounds_toArray, List.set_cons_zero, List.set_cons_succ]
          have HK14 := Lib.hid (fun (W' : World) (h : Below w14.heap.size w14 W') => six_nul (boxN_below HS14.out.nb h))
          have HN0 := Lib.hid (Below.refl w14.heap.size w14)
          have HLS := Lib.hid (fun (U : World) (a : Option Addr) (c : Nat) (hb : Below w14.heap.size w14 U) (hr : RdC U G7 a ((capsT x l1) ++ [nullC])) => rlist_any U N R G7 (layD m1 x l) mm a c ((capsT x l1) ++ [nullC]) (HS14.out.row.below hb) hr (by have := HU9.out; omega) (by rw [List.length_append, capsT_len, HP.out.1]; have := HN1.out; simp; omega) (fun c hc => by
            rcases List.mem_append.1 hc with h | h
            · exact caps_fit l1 x (by have := HXX.out; have := HZL.out; have := HLN.out; omega) c h
            · rw [List.mem_singleton] at h; subst h; exact ⟨by decide, by decide, by decide, by decide, by decide, by decide⟩))
          rw [show ((capsT x l1) ++ [nullC]).length = p1 + 1 by rw [List.length_append, capsT_len, HP.out.1]; rfl] at HLS
          have HGN : Hid (∀ q, w14.heap.size ≤ q → ¬ G7 q) := Lib.hid (fun q hq hg => by have := HS14.out.row.lt q hg; omega)
          refine join24 (ListC w14 N G7 R (layC (layD m1 x l) mm ((capsT x l1) ++ [nullC]))) (.int .u64 ((mm + 32 * (p1 + 1) : Nat) : Int)) ?_ ?_
          · have hq1 : p1 ≤ q := by have := HLL.out; omega
            have hq2 : q ≤ rc := HQR.out
            have hq3 : p1 ≤ rc := Nat.le_trans hq1 hq2
            have hq4 : (0 : Int) ≤ (p1 : Int) := by omega
            have hq5 : (p1 : Int) ≤ (rc : Int) := by omega
            have hq6 : decide ((p1 : Int) ≤ (rc : Int)) = true := decide_eq_true hq5
            have hcut : Rd w14 ra (p1 * 6) (capsV (capsT x l1)) := by
              have h9 := HS14.out.cr.1
              rw [← HEQ.out, capsT_app, capsV_app] at h9
              exact rdp_take h9 (by rw [capsV_length, capsT_len, HP.out.1])
            have hp9 : p1 ≤ 1000 := by have := HN1.out; omega
            obtain ⟨xA, yA, VA, xB, yB, UA, rA1, rA2, LA, BA⟩ := lrow_A w14.drew 24 24 ra rc p1 (capsT x l1) hcut hp9
            obtain ⟨xC, yC, VC, xD, yD, UC, rC1, rC2, LC, BC⟩ := lrow_B w14.drew 24 24 ra rc p1 (capsT x l1) hcut hp9
            obtain ⟨xE, yE, VE, xF, yF, UE, rE1, rE2, LE, BE⟩ := lrow_C w14.drew 24 24 ra rc p1 (capsT x l1) hcut hp9
            unfold emp at rA1 rC1 rE1
            unfold nul nul6 at rA2 rC1 rE1
            have sA1 : (Builtin.append_ #[24, 24] 24 #[.slice (some ⟨w14.heap.size, 0, none⟩) 0 0, .slice ra p1 rc]).run Tryz.prog (w14.alloc (.cells #[] 37)).drew = .ok (.slice xA p1 yA) VA := rA1
            have sC1 : (Builtin.append_ #[24, 24] 24 #[.slice (some ⟨w14.heap.size, 0, none⟩) 0 0, .slice ra p1 rc]).run Tryz.prog ((w14.alloc (.cells #[] 37)).alloc (.cells nul6 37)).drew = .ok (.slice xC p1 yC) VC := rC1
            have sE1 : (Builtin.append_ #[24, 24] 24 #[.slice (some ⟨w14.heap.size + 1, 0, none⟩) 0 0, .slice ra p1 rc]).run Tryz.prog ((w14.alloc (.cells nul6 37)).alloc (.cells #[] 37)).drew = .ok (.slice xE p1 yE) VE := rE1
            have rC2' : (Builtin.append_ #[24, 24] 24 #[.slice xC p1 yC, .slice (some ⟨w14.heap.size + 1, 0, none⟩) 1 1]).run Tryz.prog VC = .ok (.slice xD (p1 + 1) yD) UC := rC2
            have rE2' : (Builtin.append_ #[24, 24] 24 #[.slice xE p1 yE, .slice (some ⟨w14.heap.size, 0, none⟩) 1 1]).run Tryz.prog VE = .ok (.slice xF (p1 + 1) yF) UE := rE2
            unfold nul6 at sC1 sE1
            have HB1 := Lib.hid (show Below w14.heap.size w14 VA from undrewB BA)
            have HB2 := Lib.hid (show Below w14.heap.size w14 VC from undrewB BC)
            have HB3 := Lib.hid (show Below w14.heap.size w14 VE from undrewB BE)
            have HB4 := Lib.hid (show Below w14.heap.size w14 UA from undrewB LA.below)
            have HB5 := Lib.hid (show Below w14.heap.size w14 UC from undrewB LC.below)
            have HB6 := Lib.hid (show Below w14.heap.size w14 UE from undrewB LE.below)
            have hL : ∀ {U : World} {a : Option Addr} {c : Nat}, LRow w14.drew U a c p1 (capsT x l1) → RdC U G7 a ((capsT x l1) ++ [nullC]) := fun {U a c} h => by
              have h8 := h.own
              rw [← show ((capsT x l1) ++ [nullC]).length = p1 + 1 by rw [List.length_append, capsT_len, HP.out.1]; rfl] at h8
              exact RdC.own (W := w14) h8 HGN.out
            have C4 := Lib.hid (HLS.out UA xB yB HB4.out (hL LA))
            have C5 := Lib.hid (HLS.out UC xD yD HB5.out (hL LC))
            have C6 := Lib.hid (HLS.out UE xF yF HB6.out (hL LE))
            clear hcut rA1 rC1 rC2 rE1 rE2 LA LC LE BA BC BE hL hp9
            go_region_held3 (fun W' => W'.cell? ⟨NB, 0, none⟩ = some (.int .u64 0) ∧ W'.cell? ⟨NB, 1, none⟩ = some (.int .u64 0) ∧ W'.cell? ⟨NB, 2, none⟩ = some (.int .u64 0) ∧ W'.cell? ⟨NB, 3, none⟩ = some (.int .i64 0) ∧ W'.cell? ⟨NB, 4, none⟩ = some (.int .i64 (-1)) ∧ W'.cell? ⟨NB, 5, none⟩ = some (.bool false))
                (first | with_reducible exact HS5.out | exact HK14.out _ (by first | ((repeat (first | with_reducible exact HN0.out | with_reducible exact HB1.out | with_reducible exact HB2.out | with_reducible exact HB3.out | with_reducible exact HB4.out | with_reducible exact HB5.out | with_reducible exact HB6.out | with_reducible refine Below.drew ?_ | with_reducible refine bAlloc ?_ _)); done) | fail))
                (first
                  | (refine step_appR (t := 24) _ rfl (.tmp 106) (.tmp 110) rfl (.slice (some ⟨w14.heap.size, 0, none⟩) 0 0) (.slice ra p1 rc) _ _ rfl rfl sA1 ?_; dsimp only)
                  | (refine step_appR (t := 24) _ rfl (.tmp 106) (.tmp 110) rfl (.slice (some ⟨w14.heap.size, 0, none⟩) 0 0) (.slice ra p1 rc) _ _ rfl rfl sC1 ?_; dsimp only)
                  | (refine step_appR (t := 24) _ rfl (.tmp 106) (.tmp 110) rfl (.slice (some ⟨w14.heap.size + 1, 0, none⟩) 0 0) (.slice ra p1 rc) _ _ rfl rfl sE1 ?_; dsimp only)
                  | (refine step_appR (t := 24) _ rfl (.tmp 111) (.tmp 113) rfl (.slice xA p1 yA) (.slice (some ⟨VA.heap.size, 0, none⟩) 1 1) _ _ rfl rfl rA2 ?_; dsimp only)
                  | (refine step_appR (t := 24) _ rfl (.tmp 111) (.tmp 113) rfl (.slice xC p1 yC) (.slice (some ⟨w14.heap.size + 1, 0, none⟩) 1 1) _ _ rfl rfl rC2' ?_; dsimp only)
                  | (refine step_appR (t := 24) _ rfl (.tmp 111) (.tmp 113) rfl (.slice xE p1 yE) (.slice (some ⟨w14.heap.size, 0, none⟩) 1 1) _ _ rfl rfl rE2' ?_; dsimp only)
                  | (go_simp; go_at_call 39; (with_reducible refine C4.out.mono ?_); rintro e W5 ⟨rfl, hl5⟩; obtain ⟨G9', hq9⟩ := (HS14.out.below HB4.out).list hl5; have HS5 := Lib.hid (six_nul hq9.nb); obtain ⟨G10, hr10, hm10⟩ := hl5; have HL5 : Hid (ListC w14 N G7 R (layC (layD m1 x l) mm ((capsT x l1) ++ [nullC])) W5) := Lib.hid ⟨G10, hr10, mv_trans (Moves.of_below G7 HB4.out) hm10⟩; clear hq9 hr10 hm10)
                  | (go_simp; go_at_call 39; (with_reducible refine C5.out.mono ?_); rintro e W5 ⟨rfl, hl5⟩; obtain ⟨G9', hq9⟩ := (HS14.out.below HB5.out).list hl5; have HS5 := Lib.hid (six_nul hq9.nb); obtain ⟨G10, hr10, hm10⟩ := hl5; have HL5 : Hid (ListC w14 N G7 R (layC (layD m1 x l) mm ((capsT x l1) ++ [nullC])) W5) := Lib.hid ⟨G10, hr10, mv_trans (Moves.of_below G7 HB5.out) hm10⟩; clear hq9 hr10 hm10)
                  | (go_simp; go_at_call 39; (with_reducible refine C6.out.mono ?_); rintro e W5 ⟨rfl, hl5⟩; obtain ⟨G9', hq9⟩ := (HS14.out.below HB6.out).list hl5; have HS5 := Lib.hid (six_nul hq9.nb); obtain ⟨G10, hr10, hm10⟩ := hl5; have HL5 : Hid (ListC w14 N G7 R (layC (layD m1 x l) mm ((capsT x l1) ++ [nullC])) W5) := Lib.hid ⟨G10, hr10, mv_trans (Moves.of_below G7 HB6.out) hm10⟩; clear hq9 hr10 hm10))
            all_goals exact aft24 HL5.out (by simp only [Act.put, List.setIfInBounds_toArray, List.set_cons_zero, List.set_cons_succ]; rfl)
          rintro v104 v105 v106 v107 v108 v109 v110 v111 v112 v113 v114 v115 w15 hC
          obtain ⟨G8, hst⟩ := HS14.out.list hC
          obtain ⟨mB, hmB⟩ : ∃ m', layC (layD m1 x l) mm ((capsT x l1) ++ [nullC]) = m' := ⟨_, rfl⟩
          rw [hmB] at hst
          obtain ⟨u2, hu2⟩ : ∃ u', mm + 32 * (p1 + 1) = u' := ⟨_, rfl⟩
          rw [hu2]
          have HU2 : Hid (u2 < 17030000) := Lib.hid (by have := HU9.out; have := HN1.out; omega)
          have HS15 := Lib.hid hst
          have HEmB := Lib.hid hmB
          have HEu2 := Lib.hid hu2
          clear hC hst hmB hu2 HLS HGN HK14 HN0 HS14
          simp only [Act.put, List.setIfInBounds_toArray, List.set_cons_zero, List.set_cons_succ]
          have hw1 : IntKind.u64.wrap (p2 : Int) = (p2 : Int) := by have := HN2.out; rw [IntKind.wrap_u64]; omega
          have hw2 : IntKind.u64.wrap (32 * (p2 : Int)) = 32 * (p2 : Int) := by have := HN2.out; rw [IntKind.wrap_u64]; omega
          have HOF := Lib.hid (fun W1 => dof_any (u2 : Int) (32 * (p2 : Int)) 9 ((u2 : Int) + 32 * (p2 : Int)) W1 (by have := HN2.out; have := HU2.out; rw [IntKind.wrap_u64]; omega))
          go_wp2_with fail
          refine (HOF.out w15).mono ?_
          rintro e w16 ⟨rfl, hb⟩
          have HS16 := Lib.hid (HS15.out.below hb)
          clear hb HOF hw1 hw2 HS15
          simp only []
          go_at_K
          rename_i hK
          refine hK _ _ ?_
          clear hK
          refine Great.wpList_readTo rfl (some 122) rfl (.pointer (some ⟨SB, 12, none⟩)) (by kernel_rfl) ?_
          refine wpList_store_mid rfl _ _ _ rfl SB 12 #[.int .u64 (u2 : Int), .int .u64 ((u2 : Int) + 32 * (p2 : Int)), .int .u64 (u2 : Int), .int .i64 9, .int .i64 (-1), .bool true] rfl rfl (box_there HS16.out.sb 12 6 (by simp [Array.size_setIfInBounds])) capSize (by kernel_rfl) ?_
          have hst := HS16.out.put6 12 (.int .u64 (u2 : Int)) (.int .u64 ((u2 : Int) + 32 * (p2 : Int))) (.int .u64 (u2 : Int)) (.int .i64 9) (.int .i64 (-1)) (.bool true)
          obtain ⟨w17, hw14⟩ : ∃ w, w16.setCells SB 12 (#[.int .u64 (u2 : Int), .int .u64 ((u2 : Int) + 32 * (p2 : Int)), .int .u64 (u2 : Int), .int .i64 9, .int .i64 (-1), .bool true] : Array Value).toList = w := ⟨_, rfl⟩
          rw [hw14]
          rw [show [.int .u64 (u2 : Int), .int .u64 ((u2 : Int) + 32 * (p2 : Int)), .int .u64 (u2 : Int), .int .i64 9, .int .i64 (-1), .bool true] = (#[.int .u64 (u2 : Int), .int .u64 ((u2 : Int) + 32 * (p2 : Int)), .int .u64 (u2 : Int), .int .i64 9, .int .i64 (-1), .bool true] : Array Value).toList from rfl, hw14] at hst
          have HS17 := Lib.hid hst
          clear hst hw14 HS16
          go_upto_region 26 with fail
          simp only [Act.put, List.setIfInBounds_toArray, List.set_cons_zero, List.set_cons_succ]
          have HK14 := Lib.hid (fun (W' : World) (h : Below w17.heap.size w17 W') => six_nul (boxN_below HS17.out.nb h))
          have HN0 := Lib.hid (Below.refl w17.heap.size w17)
          have HLS := Lib.hid (fun (U : World) (a : Option Addr) (c : Nat) (hb : Below w17.heap.size w17 U) (hr : RdC U G8 a ((capsT (x + lensN l1) l2) ++ [nullC])) => rlist_any U N R G8 mB u2 a c ((capsT (x + lensN l1) l2) ++ [nullC]) (HS17.out.row.below hb) hr (by have := HU2.out; omega) (by rw [List.length_append, capsT_len, HP.out.2.1]; have := HN2.out; simp; omega) (fun c hc => by
            rcases List.mem_append.1 hc with h | h
            · exact caps_fit l2 (x + lensN l1) (by have := HXX.out; have := HZL.out; have := HLN.out; omega) c h
            · rw [List.mem_singleton] at h; subst h; exact ⟨by decide, by decide, by decide, by decide, by decide, by decide⟩))
          rw [show ((capsT (x + lensN l1) l2) ++ [nullC]).length = p2 + 1 by rw [List.length_append, capsT_len, HP.out.2.1]; rfl] at HLS
          have HGN : Hid (∀ q, w17.heap.size ≤ q → ¬ G8 q) := Lib.hid (fun q hq hg => by have := HS17.out.row.lt q hg; omega)
          refine join26 (ListC w17 N G8 R (layC mB u2 ((capsT (x + lensN l1) l2) ++ [nullC]))) (.int .u64 ((u2 + 32 * (p2 + 1) : Nat) : Int)) ?_ ?_
          · rcases HRAF.out with ⟨hra, hqz, hrz⟩ | ⟨g0, hra⟩
            · obtain rfl : p1 = 0 := by have := HLL.out; omega
              obtain rfl : p2 = 0 := by have := HLL.out; omega
              subst hra
              subst hqz
              subst hrz
              have hcut : Rd w17 none (0 * 6) (capsV (capsT (x + lensN l1) l2)) := by
                rw [show capsT (x + lensN l1) l2 = [] from List.eq_nil_of_length_eq_zero (by rw [capsT_len, HP.out.2.1])]
                exact Rd.nil _ _
              have hp9 : 0 ≤ 1000 := by have := HN2.out; omega
              obtain ⟨xA, yA, VA, xB, yB, UA, rA1, rA2, LA, BA⟩ := lrow_A w17.drew 24 24 none 0 0 (capsT (x + lensN l1) l2) hcut hp9
              obtain ⟨xC, yC, VC, xD, yD, UC, rC1, rC2, LC, BC⟩ := lrow_B w17.drew 24 24 none 0 0 (capsT (x + lensN l1) l2) hcut hp9
              obtain ⟨xE, yE, VE, xF, yF, UE, rE1, rE2, LE, BE⟩ := lrow_C w17.drew 24 24 none 0 0 (capsT (x + lensN l1) l2) hcut hp9
              unfold emp at rA1 rC1 rE1
              unfold nul nul6 at rA2 rC1 rE1
              have sA1 : (Builtin.append_ #[24, 24] 24 #[.slice (some ⟨w17.heap.size, 0, none⟩) 0 0, .slice none 0 0]).run Tryz.prog (w17.alloc (.cells #[] 37)).drew = .ok (.slice xA 0 yA) VA := rA1
              have sC1 : (Builtin.append_ #[24, 24] 24 #[.slice (some ⟨w17.heap.size, 0, none⟩) 0 0, .slice none 0 0]).run Tryz.prog ((w17.alloc (.cells #[] 37)).alloc (.cells nul6 37)).drew = .ok (.slice xC 0 yC) VC := rC1
              have sE1 : (Builtin.append_ #[24, 24] 24 #[.slice (some ⟨w17.heap.size + 1, 0, none⟩) 0 0, .slice none 0 0]).run Tryz.prog ((w17.alloc (.cells nul6 37)).alloc (.cells #[] 37)).drew = .ok (.slice xE 0 yE) VE := rE1
              have rC2' : (Builtin.append_ #[24, 24] 24 #[.slice xC 0 yC, .slice (some ⟨w17.heap.size + 1, 0, none⟩) 1 1]).run Tryz.prog VC = .ok (.slice xD (0 + 1) yD) UC := rC2
              have rE2' : (Builtin.append_ #[24, 24] 24 #[.slice xE 0 yE, .slice (some ⟨w17.heap.size, 0, none⟩) 1 1]).run Tryz.prog VE = .ok (.slice xF (0 + 1) yF) UE := rE2
              unfold nul6 at sC1 sE1
              have HB1 := Lib.hid (show Below w17.heap.size w17 VA from undrewB BA)
              have HB2 := Lib.hid (show Below w17.heap.size w17 VC from undrewB BC)
              have HB3 := Lib.hid (show Below w17.heap.size w17 VE from undrewB BE)
              have HB4 := Lib.hid (show Below w17.heap.size w17 UA from undrewB LA.below)
              have HB5 := Lib.hid (show Below w17.heap.size w17 UC from undrewB LC.below)
              have HB6 := Lib.hid (show Below w17.heap.size w17 UE from undrewB LE.below)
              have hL : ∀ {U : World} {a : Option Addr} {c : Nat}, LRow w17.drew U a c 0 (capsT (x + lensN l1) l2) → RdC U G8 a ((capsT (x + lensN l1) l2) ++ [nullC]) := fun {U a c} h => by
                have h8 := h.own
                rw [← show ((capsT (x + lensN l1) l2) ++ [nullC]).length = 0 + 1 by rw [List.length_append, capsT_len, HP.out.2.1]; rfl] at h8
                exact RdC.own (W := w17) h8 HGN.out
              have C4 := Lib.hid (HLS.out UA xB yB HB4.out (hL LA))
              have C5 := Lib.hid (HLS.out UC xD yD HB5.out (hL LC))
              have C6 := Lib.hid (HLS.out UE xF yF HB6.out (hL LE))
              clear hcut rA1 rC1 rC2 rE1 rE2 LA LC LE BA BC BE hL hp9
              go_region_held3 (fun W' => W'.cell? ⟨NB, 0, none⟩ = some (.int .u64 0) ∧ W'.cell? ⟨NB, 1, none⟩ = some (.int .u64 0) ∧ W'.cell? ⟨NB, 2, none⟩ = some (.int .u64 0) ∧ W'.cell? ⟨NB, 3, none⟩ = some (.int .i64 0) ∧ W'.cell? ⟨NB, 4, none⟩ = some (.int .i64 (-1)) ∧ W'.cell? ⟨NB, 5, none⟩ = some (.bool false))
                  (first | with_reducible exact HS5.out | exact HK14.out _ (by first | ((repeat (first | with_reducible exact HN0.out | with_reducible exact HB1.out | with_reducible exact HB2.out | with_reducible exact HB3.out | with_reducible exact HB4.out | with_reducible exact HB5.out | with_reducible exact HB6.out | with_reducible refine Below.drew ?_ | with_reducible refine bAlloc ?_ _)); done) | fail))
                  (first
                    | (refine step_appR (t := 24) _ rfl (.tmp 125) (.tmp 129) rfl (.slice (some ⟨w17.heap.size, 0, none⟩) 0 0) (.slice none 0 0) _ _ rfl rfl sA1 ?_; dsimp only)
                    | (refine step_appR (t := 24) _ rfl (.tmp 125) (.tmp 129) rfl (.slice (some ⟨w17.heap.size, 0, none⟩) 0 0) (.slice none 0 0) _ _ rfl rfl sC1 ?_; dsimp only)
                    | (refine step_appR (t := 24) _ rfl (.tmp 125) (.tmp 129) rfl (.slice (some ⟨w17.heap.size + 1, 0, none⟩) 0 0) (.slice none 0 0) _ _ rfl rfl sE1 ?_; dsimp only)
                    | (refine step_appR (t := 24) _ rfl (.tmp 130) (.tmp 132) rfl (.slice xA 0 yA) (.slice (some ⟨VA.heap.size, 0, none⟩) 1 1) _ _ rfl rfl rA2 ?_; dsimp only)
                    | (refine step_appR (t := 24) _ rfl (.tmp 130) (.tmp 132) rfl (.slice xC 0 yC) (.slice (some ⟨w17.heap.size + 1, 0, none⟩) 1 1) _ _ rfl rfl rC2' ?_; dsimp only)
                    | (refine step_appR (t := 24) _ rfl (.tmp 130) (.tmp 132) rfl (.slice xE 0 yE) (.slice (some ⟨w17.heap.size, 0, none⟩) 1 1) _ _ rfl rfl rE2' ?_; dsimp only)
                    | (go_simp; go_at_call 39; (with_reducible refine C4.out.mono ?_); rintro e W5 ⟨rfl, hl5⟩; obtain ⟨G9', hq9⟩ := (HS17.out.below HB4.out).list hl5; have HS5 := Lib.hid (six_nul hq9.nb); obtain ⟨G10, hr10, hm10⟩ := hl5; have HL5 : Hid (ListC w17 N G8 R (layC mB u2 ((capsT (x + lensN l1) l2) ++ [nullC])) W5) := Lib.hid ⟨G10, hr10, mv_trans (Moves.of_below G8 HB4.out) hm10⟩; clear hq9 hr10 hm10)
                    | (go_simp; go_at_call 39; (with_reducible refine C5.out.mono ?_); rintro e W5 ⟨rfl, hl5⟩; obtain ⟨G9', hq9⟩ := (HS17.out.below HB5.out).list hl5; have HS5 := Lib.hid (six_nul hq9.nb); obtain ⟨G10, hr10, hm10⟩ := hl5; have HL5 : Hid (ListC w17 N G8 R (layC mB u2 ((capsT (x + lensN l1) l2) ++ [nullC])) W5) := Lib.hid ⟨G10, hr10, mv_trans (Moves.of_below G8 HB5.out) hm10⟩; clear hq9 hr10 hm10)
                    | (go_simp; go_at_call 39; (with_reducible refine C6.out.mono ?_); rintro e W5 ⟨rfl, hl5⟩; obtain ⟨G9', hq9⟩ := (HS17.out.below HB6.out).list hl5; have HS5 := Lib.hid (six_nul hq9.nb); obtain ⟨G10, hr10, hm10⟩ := hl5; have HL5 : Hid (ListC w17 N G8 R (layC mB u2 ((capsT (x + lensN l1) l2) ++ [nullC])) W5) := Lib.hid ⟨G10, hr10, mv_trans (Moves.of_below G8 HB6.out) hm10⟩; clear hq9 hr10 hm10))
              all_goals exact aft26 HL5.out (by simp only [Act.put, List.setIfInBounds_toArray, List.set_cons_zero, List.set_cons_succ]; rfl)
            · subst hra
              by_cases hrp : rc = p1
              · obtain hqp : q = p1 := by have := HLL.out; have := HQR.out; omega
                obtain rfl : p2 = 0 := by have := HLL.out; omega
                subst hrp
                subst hqp
                have hcut : Rd w17 (some ⟨g0, 0, none⟩) (0 * 6) (capsV (capsT (x + lensN l1) l2)) := by
                  rw [show capsT (x + lensN l1) l2 = [] from List.eq_nil_of_length_eq_zero (by rw [capsT_len, HP.out.2.1])]
                  exact ⟨rfl, fun h => absurd h (by omega)⟩
                have hp9 : 0 ≤ 1000 := by have := HN2.out; omega
                obtain ⟨xA, yA, VA, xB, yB, UA, rA1, rA2, LA, BA⟩ := lrow_A w17.drew 24 24 (some ⟨g0, 0, none⟩) 0 0 (capsT (x + lensN l1) l2) hcut hp9
                obtain ⟨xC, yC, VC, xD, yD, UC, rC1, rC2, LC, BC⟩ := lrow_B w17.drew 24 24 (some ⟨g0, 0, none⟩) 0 0 (capsT (x + lensN l1) l2) hcut hp9
                obtain ⟨xE, yE, VE, xF, yF, UE, rE1, rE2, LE, BE⟩ := lrow_C w17.drew 24 24 (some ⟨g0, 0, none⟩) 0 0 (capsT (x + lensN l1) l2) hcut hp9
                unfold emp at rA1 rC1 rE1
                unfold nul nul6 at rA2 rC1 rE1
                have sA1 : (Builtin.append_ #[24, 24] 24 #[.slice (some ⟨w17.heap.size, 0, none⟩) 0 0, .slice (some ⟨g0, 0, none⟩) 0 0]).run Tryz.prog (w17.alloc (.cells #[] 37)).drew = .ok (.slice xA 0 yA) VA := rA1
                have sC1 : (Builtin.append_ #[24, 24] 24 #[.slice (some ⟨w17.heap.size, 0, none⟩) 0 0, .slice (some ⟨g0, 0, none⟩) 0 0]).run Tryz.prog ((w17.alloc (.cells #[] 37)).alloc (.cells nul6 37)).drew = .ok (.slice xC 0 yC) VC := rC1
                have sE1 : (Builtin.append_ #[24, 24] 24 #[.slice (some ⟨w17.heap.size + 1, 0, none⟩) 0 0, .slice (some ⟨g0, 0, none⟩) 0 0]).run Tryz.prog ((w17.alloc (.cells nul6 37)).alloc (.cells #[] 37)).drew = .ok (.slice xE 0 yE) VE := rE1
                have rC2' : (Builtin.append_ #[24, 24] 24 #[.slice xC 0 yC, .slice (some ⟨w17.heap.size + 1, 0, none⟩) 1 1]).run Tryz.prog VC = .ok (.slice xD (0 + 1) yD) UC := rC2
                have rE2' : (Builtin.append_ #[24, 24] 24 #[.slice xE 0 yE, .slice (some ⟨w17.heap.size, 0, none⟩) 1 1]).run Tryz.prog VE = .ok (.slice xF (0 + 1) yF) UE := rE2
                unfold nul6 at sC1 sE1
                have HB1 := Lib.hid (show Below w17.heap.size w17 VA from undrewB BA)
                have HB2 := Lib.hid (show Below w17.heap.size w17 VC from undrewB BC)
                have HB3 := Lib.hid (show Below w17.heap.size w17 VE from undrewB BE)
                have HB4 := Lib.hid (show Below w17.heap.size w17 UA from undrewB LA.below)
                have HB5 := Lib.hid (show Below w17.heap.size w17 UC from undrewB LC.below)
                have HB6 := Lib.hid (show Below w17.heap.size w17 UE from undrewB LE.below)
                have hL : ∀ {U : World} {a : Option Addr} {c : Nat}, LRow w17.drew U a c 0 (capsT (x + lensN l1) l2) → RdC U G8 a ((capsT (x + lensN l1) l2) ++ [nullC]) := fun {U a c} h => by
                  have h8 := h.own
                  rw [← show ((capsT (x + lensN l1) l2) ++ [nullC]).length = 0 + 1 by rw [List.length_append, capsT_len, HP.out.2.1]; rfl] at h8
                  exact RdC.own (W := w17) h8 HGN.out
                have C4 := Lib.hid (HLS.out UA xB yB HB4.out (hL LA))
                have C5 := Lib.hid (HLS.out UC xD yD HB5.out (hL LC))
                have C6 := Lib.hid (HLS.out UE xF yF HB6.out (hL LE))
                clear hcut rA1 rC1 rC2 rE1 rE2 LA LC LE BA BC BE hL hp9
                go_region_held3 (fun W' => W'.cell? ⟨NB, 0, none⟩ = some (.int .u64 0) ∧ W'.cell? ⟨NB, 1, none⟩ = some (.int .u64 0) ∧ W'.cell? ⟨NB, 2, none⟩ = some (.int .u64 0) ∧ W'.cell? ⟨NB, 3, none⟩ = some (.int .i64 0) ∧ W'.cell? ⟨NB, 4, none⟩ = some (.int .i64 (-1)) ∧ W'.cell? ⟨NB, 5, none⟩ = some (.bool false))
                    (first | with_reducible exact HS5.out | exact HK14.out _ (by first | ((repeat (first | with_reducible exact HN0.out | with_reducible exact HB1.out | with_reducible exact HB2.out | with_reducible exact HB3.out | with_reducible exact HB4.out | with_reducible exact HB5.out | with_reducible exact HB6.out | with_reducible refine Below.drew ?_ | with_reducible refine bAlloc ?_ _)); done) | fail))
                    (first
                      | (refine step_appR (t := 24) _ rfl (.tmp 125) (.tmp 129) rfl (.slice (some ⟨w17.heap.size, 0, none⟩) 0 0) (.slice (some ⟨g0, 0, none⟩) 0 0) _ _ rfl rfl sA1 ?_; dsimp only)
                      | (refine step_appR (t := 24) _ rfl (.tmp 125) (.tmp 129) rfl (.slice (some ⟨w17.heap.size, 0, none⟩) 0 0) (.slice (some ⟨g0, 0, none⟩) 0 0) _ _ rfl rfl sC1 ?_; dsimp only)
                      | (refine step_appR (t := 24) _ rfl (.tmp 125) (.tmp 129) rfl (.slice (some ⟨w17.heap.size + 1, 0, none⟩) 0 0) (.slice (some ⟨g0, 0, none⟩) 0 0) _ _ rfl rfl sE1 ?_; dsimp only)
                      | (refine step_appR (t := 24) _ rfl (.tmp 130) (.tmp 132) rfl (.slice xA 0 yA) (.slice (some ⟨VA.heap.size, 0, none⟩) 1 1) _ _ rfl rfl rA2 ?_; dsimp only)
                      | (refine step_appR (t := 24) _ rfl (.tmp 130) (.tmp 132) rfl (.slice xC 0 yC) (.slice (some ⟨w17.heap.size + 1, 0, none⟩) 1 1) _ _ rfl rfl rC2' ?_; dsimp only)
                      | (refine step_appR (t := 24) _ rfl (.tmp 130) (.tmp 132) rfl (.slice xE 0 yE) (.slice (some ⟨w17.heap.size, 0, none⟩) 1 1) _ _ rfl rfl rE2' ?_; dsimp only)
                      | (go_simp; go_at_call 39; (with_reducible refine C4.out.mono ?_); rintro e W5 ⟨rfl, hl5⟩; obtain ⟨G9', hq9⟩ := (HS17.out.below HB4.out).list hl5; have HS5 := Lib.hid (six_nul hq9.nb); obtain ⟨G10, hr10, hm10⟩ := hl5; have HL5 : Hid (ListC w17 N G8 R (layC mB u2 ((capsT (x + lensN l1) l2) ++ [nullC])) W5) := Lib.hid ⟨G10, hr10, mv_trans (Moves.of_below G8 HB4.out) hm10⟩; clear hq9 hr10 hm10)
                      | (go_simp; go_at_call 39; (with_reducible refine C5.out.mono ?_); rintro e W5 ⟨rfl, hl5⟩; obtain ⟨G9', hq9⟩ := (HS17.out.below HB5.out).list hl5; have HS5 := Lib.hid (six_nul hq9.nb); obtain ⟨G10, hr10, hm10⟩ := hl5; have HL5 : Hid (ListC w17 N G8 R (layC mB u2 ((capsT (x + lensN l1) l2) ++ [nullC])) W5) := Lib.hid ⟨G10, hr10, mv_trans (Moves.of_below G8 HB5.out) hm10⟩; clear hq9 hr10 hm10)
                      | (go_simp; go_at_call 39; (with_reducible refine C6.out.mono ?_); rintro e W5 ⟨rfl, hl5⟩; obtain ⟨G9', hq9⟩ := (HS17.out.below HB6.out).list hl5; have HS5 := Lib.hid (six_nul hq9.nb); obtain ⟨G10, hr10, hm10⟩ := hl5; have HL5 : Hid (ListC w17 N G8 R (layC mB u2 ((capsT (x + lensN l1) l2) ++ [nullC])) W5) := Lib.hid ⟨G10, hr10, mv_trans (Moves.of_below G8 HB6.out) hm10⟩; clear hq9 hr10 hm10))
                all_goals exact aft26 HL5.out (by simp only [Act.put, List.setIfInBounds_toArray, List.set_cons_zero, List.set_cons_succ]; rfl)
              · skip
                have hq1 : p1 ≤ q := by have := HLL.out; omega
                have hq2 : q ≤ rc := HQR.out
                have hq3 : p1 ≤ rc := Nat.le_trans hq1 hq2
                have hq4 : (0 : Int) ≤ (p1 : Int) := by omega
                have hq5 : (p1 : Int) ≤ (q : Int) := by omega
                have hq6 : decide ((p1 : Int) ≤ (q : Int)) = true := decide_eq_true hq5
                have hq7 : q - p1 = p2 := by have := HLL.out; omega
                have hcut : Rd w17 (some ⟨g0, p1 * 6, none⟩) (p2 * 6) (capsV (capsT (x + lensN l1) l2)) := by
                  have h9 := HS17.out.cr.1
                  rw [← HEQ.out, capsT_app, capsV_app] at h9
                  have h8 := rdp_drop h9 (by rw [capsV_length, capsT_len, HP.out.1]) (by rw [capsV_length, capsT_len, HP.out.2.1])
                  rw [Nat.zero_add] at h8
                  exact h8
                have hp9 : p2 ≤ 1000 := by have := HN2.out; omega
                obtain ⟨xA, yA, VA, xB, yB, UA, rA1, rA2, LA, BA⟩ := lrow_A w17.drew 24 24 (some ⟨g0, p1 * 6, none⟩) (rc - p1) p2 (capsT (x + lensN l1) l2) hcut hp9
                obtain ⟨xC, yC, VC, xD, yD, UC, rC1, rC2, LC, BC⟩ := lrow_B w17.drew 24 24 (some ⟨g0, p1 * 6, none⟩) (rc - p1) p2 (capsT (x + lensN l1) l2) hcut hp9
                obtain ⟨xE, yE, VE, xF, yF, UE, rE1, rE2, LE, BE⟩ := lrow_C w17.drew 24 24 (some ⟨g0, p1 * 6, none⟩) (rc - p1) p2 (capsT (x + lensN l1) l2) hcut hp9
                unfold emp at rA1 rC1 rE1
                unfold nul nul6 at rA2 rC1 rE1
                have sA1 : (Builtin.append_ #[24, 24] 24 #[.slice (some ⟨w17.heap.size, 0, none⟩) 0 0, .slice (some ⟨g0, p1 * 6, none⟩) p2 (rc - p1)]).run Tryz.prog (w17.alloc (.cells #[] 37)).drew = .ok (.slice xA p2 yA) VA := rA1
                have sC1 : (Builtin.append_ #[24, 24] 24 #[.slice (some ⟨w17.heap.size, 0, none⟩) 0 0, .slice (some ⟨g0, p1 * 6, none⟩) p2 (rc - p1)]).run Tryz.prog ((w17.alloc (.cells #[] 37)).alloc (.cells nul6 37)).drew = .ok (.slice xC p2 yC) VC := rC1
                have sE1 : (Builtin.append_ #[24, 24] 24 #[.slice (some ⟨w17.heap.size + 1, 0, none⟩) 0 0, .slice (some ⟨g0, p1 * 6, none⟩) p2 (rc - p1)]).run Tryz.prog ((w17.alloc (.cells nul6 37)).alloc (.cells #[] 37)).drew = .ok (.slice xE p2 yE) VE := rE1
                have rC2' : (Builtin.append_ #[24, 24] 24 #[.slice xC p2 yC, .slice (some ⟨w17.heap.size + 1, 0, none⟩) 1 1]).run Tryz.prog VC = .ok (.slice xD (p2 + 1) yD) UC := rC2
                have rE2' : (Builtin.append_ #[24, 24] 24 #[.slice xE p2 yE, .slice (some ⟨w17.heap.size, 0, none⟩) 1 1]).run Tryz.prog VE = .ok (.slice xF (p2 + 1) yF) UE := rE2
                unfold nul6 at sC1 sE1
                have HB1 := Lib.hid (show Below w17.heap.size w17 VA from undrewB BA)
                have HB2 := Lib.hid (show Below w17.heap.size w17 VC from undrewB BC)
                have HB3 := Lib.hid (show Below w17.heap.size w17 VE from undrewB BE)
                have HB4 := Lib.hid (show Below w17.heap.size w17 UA from undrewB LA.below)
                have HB5 := Lib.hid (show Below w17.heap.size w17 UC from undrewB LC.below)
                have HB6 := Lib.hid (show Below w17.heap.size w17 UE from undrewB LE.below)
                have hL : ∀ {U : World} {a : Option Addr} {c : Nat}, LRow w17.drew U a c p2 (capsT (x + lensN l1) l2) → RdC U G8 a ((capsT (x + lensN l1) l2) ++ [nullC]) := fun {U a c} h => by
                  have h8 := h.own
                  rw [← show ((capsT (x + lensN l1) l2) ++ [nullC]).length = p2 + 1 by rw [List.length_append, capsT_len, HP.out.2.1]; rfl] at h8
                  exact RdC.own (W := w17) h8 HGN.out
                have C4 := Lib.hid (HLS.out UA xB yB HB4.out (hL LA))
                have C5 := Lib.hid (HLS.out UC xD yD HB5.out (hL LC))
                have C6 := Lib.hid (HLS.out UE xF yF HB6.out (hL LE))
                clear hcut rA1 rC1 rC2 rE1 rE2 LA LC LE BA BC BE hL hp9
                go_region_held3 (fun W' => W'.cell? ⟨NB, 0, none⟩ = some (.int .u64 0) ∧ W'.cell? ⟨NB, 1, none⟩ = some (.int .u64 0) ∧ W'.cell? ⟨NB, 2, none⟩ = some (.int .u64 0) ∧ W'.cell? ⟨NB, 3, none⟩ = some (.int .i64 0) ∧ W'.cell? ⟨NB, 4, none⟩ = some (.int .i64 (-1)) ∧ W'.cell? ⟨NB, 5, none⟩ = some (.bool false))
                    (first | with_reducible exact HS5.out | exact HK14.out _ (by first | ((repeat (first | with_reducible exact HN0.out | with_reducible exact HB1.out | with_reducible exact HB2.out | with_reducible exact HB3.out | with_reducible exact HB4.out | with_reducible exact HB5.out | with_reducible exact HB6.out | with_reducible refine Below.drew ?_ | with_reducible refine bAlloc ?_ _)); done) | fail))
                    (first
                      | (refine step_appR (t := 24) _ rfl (.tmp 125) (.tmp 129) rfl (.slice (some ⟨w17.heap.size, 0, none⟩) 0 0) (.slice (some ⟨g0, p1 * 6, none⟩) p2 (rc - p1)) _ _ rfl rfl sA1 ?_; dsimp only)
                      | (refine step_appR (t := 24) _ rfl (.tmp 125) (.tmp 129) rfl (.slice (some ⟨w17.heap.size, 0, none⟩) 0 0) (.slice (some ⟨g0, p1 * 6, none⟩) p2 (rc - p1)) _ _ rfl rfl sC1 ?_; dsimp only)
                      | (refine step_appR (t := 24) _ rfl (.tmp 125) (.tmp 129) rfl (.slice (some ⟨w17.heap.size + 1, 0, none⟩) 0 0) (.slice (some ⟨g0, p1 * 6, none⟩) p2 (rc - p1)) _ _ rfl rfl sE1 ?_; dsimp only)
                      | (refine step_appR (t := 24) _ rfl (.tmp 130) (.tmp 132) rfl (.slice xA p2 yA) (.slice (some ⟨VA.heap.size, 0, none⟩) 1 1) _ _ rfl rfl rA2 ?_; dsimp only)
                      | (refine step_appR (t := 24) _ rfl (.tmp 130) (.tmp 132) rfl (.slice xC p2 yC) (.slice (some ⟨w17.heap.size + 1, 0, none⟩) 1 1) _ _ rfl rfl rC2' ?_; dsimp only)
                      | (refine step_appR (t := 24) _ rfl (.tmp 130) (.tmp 132) rfl (.slice xE p2 yE) (.slice (some ⟨w17.heap.size, 0, none⟩) 1 1) _ _ rfl rfl rE2' ?_; dsimp only)
                      | (go_simp; go_at_call 39; (with_reducible refine C4.out.mono ?_); rintro e W5 ⟨rfl, hl5⟩; obtain ⟨G9', hq9⟩ := (HS17.out.below HB4.out).list hl5; have HS5 := Lib.hid (six_nul hq9.nb); obtain ⟨G10, hr10, hm10⟩ := hl5; have HL5 : Hid (ListC w17 N G8 R (layC mB u2 ((capsT (x + lensN l1) l2) ++ [nullC])) W5) := Lib.hid ⟨G10, hr10, mv_trans (Moves.of_below G8 HB4.out) hm10⟩; clear hq9 hr10 hm10)
                      | (go_simp; go_at_call 39; (with_reducible refine C5.out.mono ?_); rintro e W5 ⟨rfl, hl5⟩; obtain ⟨G9', hq9⟩ := (HS17.out.below HB5.out).list hl5; have HS5 := Lib.hid (six_nul hq9.nb); obtain ⟨G10, hr10, hm10⟩ := hl5; have HL5 : Hid (ListC w17 N G8 R (layC mB u2 ((capsT (x + lensN l1) l2) ++ [nullC])) W5) := Lib.hid ⟨G10, hr10, mv_trans (Moves.of_below G8 HB5.out) hm10⟩; clear hq9 hr10 hm10)
                      | (go_simp; go_at_call 39; (with_reducible refine C6.out.mono ?_); rintro e W5 ⟨rfl, hl5⟩; obtain ⟨G9', hq9⟩ := (HS17.out.below HB6.out).list hl5; have HS5 := Lib.hid (six_nul hq9.nb); obtain ⟨G10, hr10, hm10⟩ := hl5; have HL5 : Hid (ListC w17 N G8 R (layC mB u2 ((capsT (x + lensN l1) l2) ++ [nullC])) W5) := Lib.hid ⟨G10, hr10, mv_trans (Moves.of_below G8 HB6.out) hm10⟩; clear hq9 hr10 hm10))
                all_goals exact aft26 HL5.out (by simp only [Act.put, List.setIfInBounds_toArray, List.set_cons_zero, List.set_cons_succ]; rfl)
          rintro v123 v124 v125 v126 v127 v128 v129 v130 v131 v132 v133 v134 w18 hC
          obtain ⟨G9, hst⟩ := HS17.out.list hC
          obtain ⟨mC, hmC⟩ : ∃ m', layC mB u2 ((capsT (x + lensN l1) l2) ++ [nullC]) = m' := ⟨_, rfl⟩
          rw [hmC] at hst
          obtain ⟨u3, hu3⟩ : ∃ u', u2 + 32 * (p2 + 1) = u' := ⟨_, rfl⟩
          rw [hu3]
          have HU3 : Hid (u3 < 17040000) := Lib.hid (by have := HU2.out; have := HN2.out; omega)
          have HS18 := Lib.hid hst
          have HEmC := Lib.hid hmC
          have HEu3 := Lib.hid hu3
          clear hC hst hmC hu3 HLS HGN HK14 HN0 HS17
          simp only [Act.put, List.setIfInBounds_toArray, List.set_cons_zero, List.set_cons_succ]
          have hw1 : IntKind.u64.wrap (p3 : Int) = (p3 : Int) := by have := HN3.out; rw [IntKind.wrap_u64]; omega
          have hw2 : IntKind.u64.wrap (32 * (p3 : Int)) = 32 * (p3 : Int) := by have := HN3.out; rw [IntKind.wrap_u64]; omega
          have HOF := Lib.hid (fun W1 => dof_any (u3 : Int) (32 * (p3 : Int)) 9 ((u3 : Int) + 32 * (p3 : Int)) W1 (by have := HN3.out; have := HU3.out; rw [IntKind.wrap_u64]; omega))
          go_wp2_with fail
          refine (HOF.out w18).mono ?_
          rintro e w19 ⟨rfl, hb⟩
          have HS19 := Lib.hid (HS18.out.below hb)
          clear hb HOF hw1 hw2 HS18
          simp only []
          go_at_K
          rename_i hK
          refine hK _ _ ?_
          clear hK
          refine Great.wpList_readTo rfl (some 141) rfl (.pointer (some ⟨SB, 18, none⟩)) (by kernel_rfl) ?_
          refine wpList_store_mid rfl _ _ _ rfl SB 18 #[.int .u64 (u3 : Int), .int .u64 ((u3 : Int) + 32 * (p3 : Int)), .int .u64 (u3 : Int), .int .i64 9, .int .i64 (-1), .bool true] rfl rfl (box_there HS19.out.sb 18 6 (by simp [Array.size_setIfInBounds])) capSize (by kernel_rfl) ?_
          have hst := HS19.out.put6 18 (.int .u64 (u3 : Int)) (.int .u64 ((u3 : Int) + 32 * (p3 : Int))) (.int .u64 (u3 : Int)) (.int .i64 9) (.int .i64 (-1)) (.bool true)
          obtain ⟨w20, hw14⟩ : ∃ w, w19.setCells SB 18 (#[.int .u64 (u3 : Int), .int .u64 ((u3 : Int) + 32 * (p3 : Int)), .int .u64 (u3 : Int), .int .i64 9, .int .i64 (-1), .bool true] : Array Value).toList = w := ⟨_, rfl⟩
          rw [hw14]
          rw [show [.int .u64 (u3 : Int), .int .u64 ((u3 : Int) + 32 * (p3 : Int)), .int .u64 (u3 : Int), .int .i64 9, .int .i64 (-1), .bool true] = (#[.int .u64 (u3 : Int), .int .u64 ((u3 : Int) + 32 * (p3 : Int)), .int .u64 (u3 : Int), .int .i64 9, .int .i64 (-1), .bool true] : Array Value).toList from rfl, hw14] at hst
          have HS20 := Lib.hid hst
          clear hst hw14 HS19
          go_upto_region 28 with fail
          simp only [Act.put, List.setIfInBounds_toArray, List.set_cons_zero, List.set_cons_succ]
          have HK14 := Lib.hid (fun (W' : World) (h : Below w20.heap.size w20 W') => six_nul (boxN_below HS20.out.nb h))
          have HN0 := Lib.hid (Below.refl w20.heap.size w20)
          have HLS := Lib.hid (fun (U : World) (a : Option Addr) (c : Nat) (hb : Below w20.heap.size w20 U) (hr : RdC U G9 a (k ++ [nullC])) => rlist_any U N R G9 mC u3 a c (k ++ [nullC]) (HS20.out.row.below hb) hr (by have := HU3.out; omega) (by rw [List.length_append, HP.out.2.2]; have := HN3.out; simp; omega) (fun c hc => by
            rcases List.mem_append.1 hc with h | h
            · exact HFIT.out c h
            · rw [List.mem_singleton] at h; subst h; exact ⟨by decide, by decide, by decide, by decide, by decide, by decide⟩))
          rw [show (k ++ [nullC]).length = p3 + 1 by rw [List.length_append, HP.out.2.2]; rfl] at HLS
          have HGN : Hid (∀ q, w20.heap.size ≤ q → ¬ G9 q) := Lib.hid (fun q hq hg => by have := HS20.out.row.lt q hg; omega)
          refine join28 (ListC w20 N G9 R (layC mC u3 (k ++ [nullC]))) (.int .u64 ((u3 + 32 * (p3 + 1) : Nat) : Int)) ?_ ?_
          · have hcut : Rd w20 a3 (p3 * 6) (capsV k) := by
              have h9 := HS20.out.ar.1
              rw [HP.out.2.2] at h9
              exact h9
            have hp9 : p3 ≤ 1000 := by have := HN3.out; omega
            obtain ⟨xA, yA, VA, xB, yB, UA, rA1, rA2, LA, BA⟩ := lrow_A w20.drew 24 24 a3 c3 p3 k hcut hp9
            obtain ⟨xC, yC, VC, xD, yD, UC, rC1, rC2, LC, BC⟩ := lrow_B w20.drew 24 24 a3 c3 p3 k hcut hp9
            obtain ⟨xE, yE, VE, xF, yF, UE, rE1, rE2, LE, BE⟩ := lrow_C w20.drew 24 24 a3 c3 p3 k hcut hp9
            unfold emp at rA1 rC1 rE1
            unfold nul nul6 at rA2 rC1 rE1
            have sA1 : (Builtin.append_ #[24, 24] 24 #[.slice (some ⟨w20.heap.size, 0, none⟩) 0 0, .slice a3 p3 c3]).run Tryz.prog (w20.alloc (.cells #[] 37)).drew = .ok (.slice xA p3 yA) VA := rA1
            have sC1 : (Builtin.append_ #[24, 24] 24 #[.slice (some ⟨w20.heap.size, 0, none⟩) 0 0, .slice a3 p3 c3]).run Tryz.prog ((w20.alloc (.cells #[] 37)).alloc (.cells nul6 37)).drew = .ok (.slice xC p3 yC) VC := rC1
            have sE1 : (Builtin.append_ #[24, 24] 24 #[.slice (some ⟨w20.heap.size + 1, 0, none⟩) 0 0, .slice a3 p3 c3]).run Tryz.prog ((w20.alloc (.cells nul6 37)).alloc (.cells #[] 37)).drew = .ok (.slice xE p3 yE) VE := rE1
            have rC2' : (Builtin.append_ #[24, 24] 24 #[.slice xC p3 yC, .slice (some ⟨w20.heap.size + 1, 0, none⟩) 1 1]).run Tryz.prog VC = .ok (.slice xD (p3 + 1) yD) UC := rC2
            have rE2' : (Builtin.append_ #[24, 24] 24 #[.slice xE p3 yE, .slice (some ⟨w20.heap.size, 0, none⟩) 1 1]).run Tryz.prog VE = .ok (.slice xF (p3 + 1) yF) UE := rE2
            unfold nul6 at sC1 sE1
            have HB1 := Lib.hid (show Below w20.heap.size w20 VA from undrewB BA)
            have HB2 := Lib.hid (show Below w20.heap.size w20 VC from undrewB BC)
            have HB3 := Lib.hid (show Below w20.heap.size w20 VE from undrewB BE)
            have HB4 := Lib.hid (show Below w20.heap.size w20 UA from undrewB LA.below)
            have HB5 := Lib.hid (show Below w20.heap.size w20 UC from undrewB LC.below)
            have HB6 := Lib.hid (show Below w20.heap.size w20 UE from undrewB LE.below)
            have hL : ∀ {U : World} {a : Option Addr} {c : Nat}, LRow w20.drew U a c p3 k → RdC U G9 a (k ++ [nullC]) := fun {U a c} h => by
              have h8 := h.own
              rw [← show (k ++ [nullC]).length = p3 + 1 by rw [List.length_append, HP.out.2.2]; rfl] at h8
              exact RdC.own (W := w20) h8 HGN.out
            have C4 := Lib.hid (HLS.out UA xB yB HB4.out (hL LA))
            have C5 := Lib.hid (HLS.out UC xD yD HB5.out (hL LC))
            have C6 := Lib.hid (HLS.out UE xF yF HB6.out (hL LE))
            clear hcut rA1 rC1 rC2 rE1 rE2 LA LC LE BA BC BE hL hp9
            go_region_held3 (fun W' => W'.cell? ⟨NB, 0, none⟩ = some (.int .u64 0) ∧ W'.cell? ⟨NB, 1, none⟩ = some (.int .u64 0) ∧ W'.cell? ⟨NB, 2, none⟩ = some (.int .u64 0) ∧ W'.cell? ⟨NB, 3, none⟩ = some (.int .i64 0) ∧ W'.cell? ⟨NB, 4, none⟩ = some (.int .i64 (-1)) ∧ W'.cell? ⟨NB, 5, none⟩ = some (.bool false))
                (first | with_reducible exact HS5.out | exact HK14.out _ (by first | ((repeat (first | with_reducible exact HN0.out | with_reducible exact HB1.out | with_reducible exact HB2.out | with_reducible exact HB3.out | with_reducible exact HB4.out | with_reducible exact HB5.out | with_reducible exact HB6.out | with_reducible refine Below.drew ?_ | with_reducible refine bAlloc ?_ _)); done) | fail))
                (first
                  | (refine step_appR (t := 24) _ rfl (.tmp 144) (.tmp 145) rfl (.slice (some ⟨w20.heap.size, 0, none⟩) 0 0) (.slice a3 p3 c3) _ _ rfl rfl sA1 ?_; dsimp only)
                  | (refine step_appR (t := 24) _ rfl (.tmp 144) (.tmp 145) rfl (.slice (some ⟨w20.heap.size, 0, none⟩) 0 0) (.slice a3 p3 c3) _ _ rfl rfl sC1 ?_; dsimp only)
                  | (refine step_appR (t := 24) _ rfl (.tmp 144) (.tmp 145) rfl (.slice (some ⟨w20.heap.size + 1, 0, none⟩) 0 0) (.slice a3 p3 c3) _ _ rfl rfl sE1 ?_; dsimp only)
                  | (refine step_appR (t := 24) _ rfl (.tmp 146) (.tmp 148) rfl (.slice xA p3 yA) (.slice (some ⟨VA.heap.size, 0, none⟩) 1 1) _ _ rfl rfl rA2 ?_; dsimp only)
                  | (refine step_appR (t := 24) _ rfl (.tmp 146) (.tmp 148) rfl (.slice xC p3 yC) (.slice (some ⟨w20.heap.size + 1, 0, none⟩) 1 1) _ _ rfl rfl rC2' ?_; dsimp only)
                  | (refine step_appR (t := 24) _ rfl (.tmp 146) (.tmp 148) rfl (.slice xE p3 yE) (.slice (some ⟨w20.heap.size, 0, none⟩) 1 1) _ _ rfl rfl rE2' ?_; dsimp only)
                  | (go_simp; go_at_call 39; (with_reducible refine C4.out.mono ?_); rintro e W5 ⟨rfl, hl5⟩; obtain ⟨G9', hq9⟩ := (HS20.out.below HB4.out).list hl5; have HS5 := Lib.hid (six_nul hq9.nb); obtain ⟨G10, hr10, hm10⟩ := hl5; have HL5 : Hid (ListC w20 N G9 R (layC mC u3 (k ++ [nullC])) W5) := Lib.hid ⟨G10, hr10, mv_trans (Moves.of_below G9 HB4.out) hm10⟩; clear hq9 hr10 hm10)
                  | (go_simp; go_at_call 39; (with_reducible refine C5.out.mono ?_); rintro e W5 ⟨rfl, hl5⟩; obtain ⟨G9', hq9⟩ := (HS20.out.below HB5.out).list hl5; have HS5 := Lib.hid (six_nul hq9.nb); obtain ⟨G10, hr10, hm10⟩ := hl5; have HL5 : Hid (ListC w20 N G9 R (layC mC u3 (k ++ [nullC])) W5) := Lib.hid ⟨G10, hr10, mv_trans (Moves.of_below G9 HB5.out) hm10⟩; clear hq9 hr10 hm10)
                  | (go_simp; go_at_call 39; (with_reducible refine C6.out.mono ?_); rintro e W5 ⟨rfl, hl5⟩; obtain ⟨G9', hq9⟩ := (HS20.out.below HB6.out).list hl5; have HS5 := Lib.hid (six_nul hq9.nb); obtain ⟨G10, hr10, hm10⟩ := hl5; have HL5 : Hid (ListC w20 N G9 R (layC mC u3 (k ++ [nullC])) W5) := Lib.hid ⟨G10, hr10, mv_trans (Moves.of_below G9 HB6.out) hm10⟩; clear hq9 hr10 hm10))
            all_goals exact aft28 HL5.out (by simp only [Act.put, List.setIfInBounds_toArray, List.set_cons_zero, List.set_cons_succ]; rfl)
          rintro v142 v143 v144 v145 v146 v147 v148 v149 v150 w21 hC
          obtain ⟨G11, hst⟩ := HS20.out.list hC
          obtain ⟨mD, hmD⟩ : ∃ m', layC mC u3 (k ++ [nullC]) = m' := ⟨_, rfl⟩
          rw [hmD] at hst
          obtain ⟨u4, hu4⟩ : ∃ u', u3 + 32 * (p3 + 1) = u' := ⟨_, rfl⟩
          rw [hu4]
          have HU4 : Hid (u4 < 17050000) := Lib.hid (by have := HU3.out; have := HN3.out; omega)
          have HS21 := Lib.hid hst
          have HEmD := Lib.hid hmD
          have HEu4 := Lib.hid hu4
          clear hC hst hmD hu4 HLS HGN HK14 HN0 HS20
          simp only [Act.put, List.setIfInBounds_toArray, List.set_cons_zero, List.set_cons_succ]
          obtain ⟨o1, o2, o3⟩ := HO.out
          obtain ⟨y, hy⟩ : ∃ y, ((f : Int) + p).toNat * 256 = y := ⟨_, rfl⟩
          have vp : IntKind.u64.wrap p = p := by rw [IntKind.wrap_u64]; omega
          have vfp : IntKind.u64.wrap ((f : Int) + p) = (f : Int) + p := by rw [IntKind.wrap_u64]; omega
          have vy : IntKind.u64.wrap (256 * ((f : Int) + p)) = (y : Int) := by rw [IntKind.wrap_u64]; omega
          have HY := Lib.hid hy
          clear hy o1 o2 o3
          go_upto_region 30 with fail
          apply wp_region_lit
          refine Great.wpList_readTo rfl (some 156) rfl (.int .u64 (u4 : Int)) rfl ?_
          refine Great.wpList_readTo rfl (some 157) rfl (.int .u64 (y : Int)) rfl ?_
          refine Great.wpList_readTo rfl (some 158) rfl (.int .u64 (y : Int)) rfl ?_
          refine wpList_buildTo rfl 37 _ rfl (some 159) rfl #[.int .u64 (u4 : Int), .int .u64 (y : Int), .int .u64 (y : Int), .int .i64 27, .int .i64 (-1), .bool true] (by kernel_rfl) ?_
          refine Great.wpList_readTo rfl (some 160) rfl (.pointer (some ⟨SB, 0, none⟩)) (by kernel_rfl) ?_
          simp only [Act.put, List.setIfInBounds_toArray, List.set_cons_zero, List.set_cons_succ]
          refine wpList_store_mid rfl _ _ _ rfl SB 0 #[.int .u64 (u4 : Int), .int .u64 (y : Int), .int .u64 (y : Int), .int .i64 27, .int .i64 (-1), .bool true] rfl rfl (box_there HS21.out.sb 0 6 (by simp [Array.size_setIfInBounds])) capSize (by kernel_rfl) ?_
          have hst := HS21.out.put6 0 (.int .u64 (u4 : Int)) (.int .u64 (y : Int)) (.int .u64 (y : Int)) (.int .i64 27) (.int .i64 (-1)) (.bool true)
          obtain ⟨w22, hw22⟩ : ∃ w, w21.setCells SB 0 (#[.int .u64 (u4 : Int), .int .u64 (y : Int), .int .u64 (y : Int), .int .i64 27, .int .i64 (-1), .bool true] : Array Value).toList = w := ⟨_, rfl⟩
          rw [hw22]
          rw [show [.int .u64 (u4 : Int), .int .u64 (y : Int), .int .u64 (y : Int), .int .i64 27, .int .i64 (-1), .bool true] = (#[.int .u64 (u4 : Int), .int .u64 (y : Int), .int .u64 (y : Int), .int .i64 27, .int .i64 (-1), .bool true] : Array Value).toList from rfl, hw22] at hst
          have hdv : startV (startS x (((f : Int) + p).toNat * 256) l1 l2 k) = #[.int .u64 (u4 : Int), .int .u64 (y : Int), .int .u64 (y : Int), .int .i64 27, .int .i64 (-1), .bool true, .int .u64 (mm : Int), .int .u64 ((mm : Int) + 32 * (p1 : Int)), .int .u64 (mm : Int), .int .i64 9, .int .i64 (-1), .bool true, .int .u64 (u2 : Int), .int .u64 ((u2 : Int) + 32 * (p2 : Int)), .int .u64 (u2 : Int), .int .i64 9, .int .i64 (-1), .bool true, .int .u64 (u3 : Int), .int .u64 ((u3 : Int) + 32 * (p3 : Int)), .int .u64 (u3 : Int), .int .i64 9, .int .i64 (-1), .bool true] := by
            have e0 : listN x l1 l2 = mm := by
              unfold listN
              rw [Nat.add_assoc, ← HLN.out, HZ.out]
              exact HU.out.1
            rw [HY.out]
            unfold startS
            rw [e0, HP.out.1, HP.out.2.1, HP.out.2.2]
            simp only []
            rw [HEu2.out, HEu3.out, HEu4.out]
            have c1 : ((mm + 32 * p1 : Nat) : Int) = (mm : Int) + 32 * (p1 : Int) := by omega
            have c2 : ((u2 + 32 * p2 : Nat) : Int) = (u2 : Int) + 32 * (p2 : Int) := by omega
            have c3 : ((u3 + 32 * p3 : Nat) : Int) = (u3 : Int) + 32 * (p3 : Int) := by omega
            rw [c1, c2, c3]
            rfl
          obtain ⟨D, hD⟩ : ∃ D : Array Value, #[.int .u64 (u4 : Int), .int .u64 (y : Int), .int .u64 (y : Int), .int .i64 27, .int .i64 (-1), .bool true, .int .u64 (mm : Int), .int .u64 ((mm : Int) + 32 * (p1 : Int)), .int .u64 (mm : Int), .int .i64 9, .int .i64 (-1), .bool true, .int .u64 (u2 : Int), .int .u64 ((u2 : Int) + 32 * (p2 : Int)), .int .u64 (u2 : Int), .int .i64 9, .int .i64 (-1), .bool true, .int .u64 (u3 : Int), .int .u64 ((u3 : Int) + 32 * (p3 : Int)), .int .u64 (u3 : Int), .int .i64 9, .int .i64 (-1), .bool true] = D := ⟨_, rfl⟩
          have hD2 : BoxN w22 SB D := (fun X (h : BoxN w22 SB X) (e : X = D) => e ▸ h : ∀ X, BoxN w22 SB X → X = D → BoxN w22 SB D) _ hst.sb (by rw [← hD]; kernel_rfl)
          have hD1 : D.all (·.oneCell') = true := by rw [← hD]; kernel_rfl
          have hDs : D.size = 24 := by rw [← hD]; rfl
          rw [hD] at hdv
          have hmd : layDm m1 x l1 l2 k = mD := by
            have e0 : listN x l1 l2 = mm := by
              unfold listN
              rw [Nat.add_assoc, ← HLN.out, HZ.out]
              exact HU.out.1
            unfold layDm
            rw [e0, HP.out.1, HP.out.2.1, HEu2.out, HEu3.out, HEQ.out, HEmB.out, HEmC.out, HEmD.out]
          have HDV := Lib.hid hdv
          have HMD := Lib.hid hmd
          have hg22 : w22.rangeAt SB 0 D.toList := fun j v hv => by
            rw [Nat.zero_add, hD2.cell j]
            simpa using hv
          have htW : w22.there W.heap.size 0 24 := hst.zb.there
          have HROW := Lib.hid hst.row
          have HMV := Lib.hid hst.mv
          have HNZ9 := Lib.hid hst.nz
          have HZL9 := Lib.hid hst.zl
          have HG22 := Lib.hid hg22
          have HTW := Lib.hid htW
          have HD1 := Lib.hid hD1
          have HDS := Lib.hid hDs
          clear hst hw22 hdv hD hD2 hD1 hDs hmd hg22 htW HS21
          go_upto_region 31 with fail
          apply wp_region_lit
          refine wpList_load_mid rfl _ _ rfl SB 0 rfl D.toList _ HG22.out Tryz.underlying42 rfl (by rw [Array.length_toList, HDS.out]; exact startSizeD) ?_
          rw [Array.toArray_toList]
          refine wpList_store_mid rfl _ _ _ rfl W.heap.size 0 D rfl rfl (by rw [HDS.out]; exact HTW.out) (by rw [HDS.out]; exact startSizeD) HD1.out ?_
          obtain ⟨w23, hw23⟩ : ∃ w, w22.setCells W.heap.size 0 D.toList = w := ⟨_, rfl⟩
          have hr23 : w23.rangeAt W.heap.size 0 D.toList := by rw [← hw23]; exact World.rangeAt_setCells_same w22 W.heap.size 0 D.toList (by rw [Array.length_toList, HDS.out]; exact HTW.out)
          have hro : ROw w23 N G11 R mD := by rw [← hw23]; exact HROW.out.setCells HNZ9.out _ _
          have hmv : Moves W w23 G G11 := by rw [← hw23]; exact ⟨HMV.out.sub, kp_setCells _ (Or.inl (Nat.le_refl _)) _ _ _ HMV.out.kp⟩
          rw [hw23]
          clear hw23
          go_wp2_with fail
          refine bodyPost_ret (v := .tuple #[.agg D.toList.toArray, .int .i64 0]) ?_ rfl ⟨by rw [Array.toArray_toList, HDV.out], G11, by rw [HMD.out]; exact hro, hmv⟩
          exact results_cell_tmp Tryz.results12 _ _ W.heap.size D.toList _ _ rfl rfl hr23 Tryz.underlying42 rfl (by rw [Array.length_toList, HDS.out]; exact startSizeD)
        · obtain ⟨tt, ht⟩ : ∃ tt : Nat, mm % 32 = tt := ⟨_, rfl⟩
          have e1 : (mm : Int).tmod 32 = (tt : Int) := by rw [Int.tmod_eq_emod_of_nonneg (by omega)]; omega
          have e2 : IntKind.u64.wrap (tt : Int) = (tt : Int) := by rw [IntKind.wrap_u64]; omega
          have e3 : ((tt : Int) == 0) = false := by simp; omega
          have e4 : ((tt : Int) != 0) = true := by simp; omega
          have e5 : IntKind.u64.wrap ((mm : Int) + 1) = ((mm : Int) + 1) := by rw [IntKind.wrap_u64]; omega
          have HM := Lib.hid (show mm + 1 ≤ u by omega)
          have HM1 := Lib.hid m1'
          clear huu hzz m1' m2' hd ht
          go_wp2_with fail
          go_roundw
          case rel => exact ⟨mm + 1, by go_num, by have := HM1.out; omega, HM.out, trivial⟩
          case measure => have := HM.out; simp [intOf]; omega
end Go.Proofs.YtjefkhieihigiaaGreat
