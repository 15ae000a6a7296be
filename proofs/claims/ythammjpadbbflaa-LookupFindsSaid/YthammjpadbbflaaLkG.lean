/- A place's definition of a name: contract. -/
import Derived.Test.YthammjpadbbflaaLkF
namespace Go.Proofs.Ythammjpadbbflaa
set_option linter.unusedVariables false
set_option linter.unusedSimpArgs false
open Go.Joins Go.ChangeShapes Go.WideShapes Go.ChangeAt Go.RowKit Go.Deep Go.Shelf
attribute [local go_sem] Oper.semAt_some

/-- between two rounds of find -/
def FindI (W0 : World) (rb ab : Nat) (r : Int) (pre : List Unit) (W : World) : Prop :=
  (∃ v, BoxN W rb #[v]) ∧ (∃ q : Int, BoxN W ab #[.int .i64 q] ∧ (pre = [] → q = 0)) ∧ (pre ≠ [] → r = -1) ∧ KP W0.heap.size (fun b => b = rb ∨ b = ab) W0 W
def FindX (W0 : World) (rb ab : Nat) (r : Int) (c : Code) (pre : List Unit) (W : World) : Prop :=
  c = .ret ∧ BoxN W rb #[.int .i64 r] ∧ KP W0.heap.size (fun b => b = rb ∨ b = ab) W0 W
theorem findI_own (W0 : World) (rb ab : Nat) (r : Int) : OwnFrom W0.heap.size (FindI W0 rb ab r) := by
  rintro pre A W row ⟨⟨v, h1⟩, ⟨q, h2, h2'⟩, h3, h4⟩ hg hr
  have hr' : ∀ r, row = some r → ∃ o : Go.Obj, A.heap[r]? = some o ∧ o.isCells = false := fun r e => (hr r e).2
  exact ⟨⟨v, h1.kept hg hr'⟩, ⟨q, h2.kept hg hr', h2'⟩, h3, h4.grown hg h4.size (fun r e => Or.inl (hr r e).1)⟩
theorem findX_own (W0 : World) (rb ab : Nat) (r : Int) (c : Code) : OwnFrom W0.heap.size (FindX W0 rb ab r c) := by
  rintro pre A W row ⟨h0, h1, h4⟩ hg hr
  have hr' : ∀ r, row = some r → ∃ o : Go.Obj, A.heap[r]? = some o ∧ o.isCells = false := fun r e => (hr r e).2
  exact ⟨h0, h1.kept hg hr', h4.grown hg h4.size (fun r e => Or.inl (hr r e).1)⟩
theorem kf_of_kp {n : Nat} {S : Nat → Prop} {W W' : World} (h : KP W.heap.size S W W') (hS : ∀ b, S b → b < n) : KeepsFrom n W W' :=
  ⟨h.size, fun j o hj ho hc => (h.block j (Array.getElem?_eq_some_iff.1 ho).1 (fun e => by have := hS j e; omega)).trans ho⟩
theorem findZ_bounds (l : List Sym) (name ver : List UInt8) : -1 ≤ findZ l name ver 0 ∧ findZ l name ver 0 < (l.length : Int) + 1 := by
  unfold findZ
  cases h : (l.drop 0).findIdx? (hitS name ver) with
  | none => simp only []; omega
  | some k =>
    rw [List.findIdx?_eq_some_iff_getElem] at h
    obtain ⟨hk, -⟩ := h
    simp at hk
    simp only []
    omega
theorem pfin {base lo B : Nat} {obj : Int} {l : List Sym} {w W4 w5 W0 Wf : World} (hP5 : PlaceD base lo (fun b => lo ≤ b ∧ (b < w.heap.size ∨ w.heap.size + 4 ≤ b)) w5 B obj l 1) (h4 : Below w.heap.size w W4) (z4 : W4.heap.size = w.heap.size + 4) (hBl : B < w.heap.size) (hk5 : KP W4.heap.size (· = B) W4 w5) (h0 : Below w5.heap.size w5 W0)
    (k : KP W0.heap.size (fun b => b = w.heap.size + 1 + 1 + 1 ∨ b = w5.heap.size) W0 Wf) (hbB : base ≤ B) : PlaceAt base lo Wf B obj l ∧ KP w.heap.size (· = B) w Wf := by
  have s5 := hk5.size
  have s0 := h0.size
  have hp := hP5.mono (P' := fun b => lo ≤ b ∧ b < w5.heap.size ∧ (b < w.heap.size ∨ w.heap.size + 4 ≤ b)) (fun b q1 q2 => ⟨q2.1, q1, q2.2⟩)
  have hp := (hp.below h0).kp k (Nat.le_refl _) (by show ¬ (_ ∨ _); omega) (fun b hb q => by rcases q with q | q <;> omega) (fun b hb q => by rcases q with q | q <;> omega)
  refine ⟨⟨1, hp.mono fun b _ q => q.1⟩, ?_⟩
  exact (((kp_of_below h4 (Nat.le_refl _)).trans (hk5.mono (by omega) (fun b _ q => q))).trans (kp_of_below h0 (by omega))).trans (k.mono (by omega) (fun b hb q => by rcases q with q | q <;> omega))
theorem findZ_nil (name ver : List UInt8) : findZ [] name ver 0 = -1 := findZ_end [] name ver 0 (Nat.le_refl _)
set_option maxRecDepth 100000 in
set_option maxHeartbeats 4000000 in
theorem pfind_any (base lo : Nat) (w : World) (B : Nat) (obj : Int) (l : List Sym) (name ver : List UInt8) (h : PlaceAt base lo w B obj l) (hlo : lo ≤ w.heap.size) (hm : l.length ≤ 40) (hnm : ∀ s ∈ l, s.name.length < 9223372036854775808) (hname : name.length < 9223372036854775808) :
    Calls Try.prog 40 #[.pointer (some ⟨B, 0, none⟩), .string ⟨name.toArray⟩, .string ⟨ver.toArray⟩] w fun e w' => e = .returned (.int .i64 (findZ l name ver 0)) ∧ PlaceAt base lo w' B obj l ∧ KP w.heap.size (· = B) w w' := by
  obtain ⟨d, h⟩ := h
  have h := h.mono (P' := fun b => lo ≤ b ∧ b < w.heap.size) (fun b h1 h2 => ⟨h2, h1⟩)
  have hBl : B < w.heap.size := Nat.lt_of_lt_of_le h.2.1 hlo
  have hbB := h.1
  have hBlo := h.2.1
  have HDO := Lib.hid (fun W (hW : PlaceD base lo (fun b => lo ≤ b ∧ b < w.heap.size) W B obj l d) (hl : w.heap.size + 4 ≤ W.heap.size) => do_any base lo (fun b => lo ≤ b ∧ b < w.heap.size) (fun b => lo ≤ b ∧ (b < w.heap.size ∨ w.heap.size + 4 ≤ b)) (fun b q => ⟨q.1, Or.inl q.2⟩) W B obj d l (fun b q => ⟨by omega, Or.inr (by omega)⟩) hW (by omega) hm hnm)
  have HF := Lib.hid (fun ab ac sa cb cc c W (hW : RdS W sa l) (hb : Rd W ab 32 (i64s (bucketsZ l 32 32))) (hch : Rd W ac l.length (i64s (chainZ l 32 l.length))) => find_any ab ac sa l cb cc c 32 name ver W hW (by omega) (by decide) (by decide) hname hb hch)
  have HP := Lib.hid h
  obtain ⟨m, hlm⟩ : ∃ m, l.length = m := ⟨_, rfl⟩
  have HLM := Lib.hid hlm
  rw [hlm] at hm HF
  obtain ⟨r, hr⟩ : ∃ r, findZ l name ver 0 = r := ⟨_, rfl⟩
  have HRB := Lib.hid (show -1 ≤ r ∧ r < 41 by have := findZ_bounds l name ver; omega)
  have HR := Lib.hid hr
  rw [hr] at HF ⊢
  clear h hnm hlm hr
  refine (callsIn_wide (n := 9)).1 ?_
  refine callsIn_of_wp_marks Try.func40 rfl trivial ?_ rfl
  simp only [Try.ntmps40, List.size_toArray, List.length_cons, List.length_nil, Nat.reduceAdd, Nat.reduceSub, Array.replicate_succ, Array.replicate_zero, List.push_toArray, List.append_toArray, List.nil_append, List.cons_append]
  refine wpIn_wide.2 ?_
  go_wp2_with fail
  have b0 := (BoxN.new w #[.pointer (some ⟨B, 0, none⟩)] 66).below (bAlloc (bAlloc (bAlloc (Below.refl (w.alloc (.cells #[.pointer (some ⟨B, 0, none⟩)] 66)).heap.size _) (.cells #[.string ⟨name.toArray⟩] 9)) (.cells #[.string ⟨ver.toArray⟩] 9)) (.cells #[.int .i64 0] 3)) (by simp)
  have b1 := (BoxN.new (w.alloc (.cells #[.pointer (some ⟨B, 0, none⟩)] 66)) #[.string ⟨name.toArray⟩] 9).below (bAlloc (bAlloc (Below.refl _ _) (.cells #[.string ⟨ver.toArray⟩] 9)) (.cells #[.int .i64 0] 3)) (by simp)
  have b2 := (BoxN.new ((w.alloc (.cells #[.pointer (some ⟨B, 0, none⟩)] 66)).alloc (.cells #[.string ⟨name.toArray⟩] 9)) #[.string ⟨ver.toArray⟩] 9).below (bAlloc (Below.refl _ _) (.cells #[.int .i64 0] 3)) (by simp)
  have b3 := BoxN.new (((w.alloc (.cells #[.pointer (some ⟨B, 0, none⟩)] 66)).alloc (.cells #[.string ⟨name.toArray⟩] 9)).alloc (.cells #[.string ⟨ver.toArray⟩] 9)) #[.int .i64 0] 3
  have z4 : ((((w.alloc (.cells #[.pointer (some ⟨B, 0, none⟩)] 66)).alloc (.cells #[.string ⟨name.toArray⟩] 9)).alloc (.cells #[.string ⟨ver.toArray⟩] 9)).alloc (.cells #[.int .i64 0] 3)).heap.size = w.heap.size + 4 := by rw [size_alloc, size_alloc, size_alloc, size_alloc]
  have hb4 : Below w.heap.size w ((((w.alloc (.cells #[.pointer (some ⟨B, 0, none⟩)] 66)).alloc (.cells #[.string ⟨name.toArray⟩] 9)).alloc (.cells #[.string ⟨ver.toArray⟩] 9)).alloc (.cells #[.int .i64 0] 3)) := bAlloc (bAlloc (bAlloc (bAlloc (Below.refl _ _) _) _) _) _
  rw [size_alloc] at b1
  rw [size_alloc, size_alloc] at b2
  rw [size_alloc, size_alloc, size_alloc] at b3
  have B0 := Lib.hid b0
  have B1 := Lib.hid b1
  have B2 := Lib.hid b2
  have B3 := Lib.hid b3
  have HB4 := Lib.hid hb4
  have Z4 := Lib.hid z4
  clear b0 b1 b2 b3 hb4 z4
  generalize (((w.alloc (.cells #[.pointer (some ⟨B, 0, none⟩)] 66)).alloc (.cells #[.string ⟨name.toArray⟩] 9)).alloc (.cells #[.string ⟨ver.toArray⟩] 9)).alloc (.cells #[.int .i64 0] 3) = W4 at *
  have hz4 := Z4.out
  have HD4 := Lib.hid (fun W (hW : Below W4.heap.size W4 W) => HDO.out W ((HP.out.below HB4.out).below hW) (by have := hW.size; omega))
  have HX4 := Lib.hid (B0.out.cell 0)
  have hx4 := B0.out.cell 0
  go_region_held3 (fun W => W.cell? ⟨w.heap.size, 0, none⟩ = some (.pointer (some ⟨B, 0, none⟩)))
    (first | exact HX4.out | exact HK5.out.cell (by omega) (by show ¬ (w.heap.size = B); omega) HX4.out | go_keep)
    (first | (go_at_call 47; (with_reducible refine (HD4.out _ (Below.drew (Below.refl _ _))).mono ?_); rintro e w5 ⟨rfl, hp5, hk5⟩; have HP5 := Lib.hid hp5; have HK5 := Lib.hid (show KP W4.heap.size (· = B) W4 w5 from ((KP.refl _ _ W4).drew).trans hk5); clear hp5 hk5))
  have hs5 := HK5.out.size
  obtain ⟨-, -, sa, sc, tb, hbx, hsy, hsc, hsb, htab⟩ := HP5.out
  have htab : TabAt (fun b => lo ≤ b ∧ (b < w.heap.size ∨ w.heap.size + 4 ≤ b)) w5 l tb := by
    rcases htab with ⟨h, -⟩ | ⟨-, h⟩
    · cases h
    · exact h
  rw [HLM.out] at hbx hsc hsb
  have x5 := HK5.out.cell (b := w.heap.size) (by omega) (by show ¬ (w.heap.size = B); omega) HX4.out
  have x6 : w5.cell? ⟨B, 1, none⟩ = some (.slice sa m sc) := hbx.cell 1
  have hB5 := hbx.lt
  have x7 : w.heap.size < w5.heap.size := by omega
  have C0 := Lib.hid (B0.out.kp HK5.out (by omega) (by show ¬ (w.heap.size = B); omega))
  have C1 := Lib.hid (B1.out.kp HK5.out (by omega) (by show ¬ (w.heap.size + 1 = B); omega))
  have C2 := Lib.hid (B2.out.kp HK5.out (by omega) (by show ¬ (w.heap.size + 1 + 1 = B); omega))
  have C3 := Lib.hid (B3.out.kp HK5.out (by omega) (by show ¬ (w.heap.size + 1 + 1 + 1 = B); omega))
  have CB := Lib.hid hbx
  have SY := Lib.hid hsy
  have SB := Lib.hid hsb
  have TB := Lib.hid htab
  clear hbx hsy hsb htab B0 B1 B2 B3 hx4 HD4 HDO
  go_wp2_with fail
  refine (chunk_any _ _ _ _).mono ?_; rintro e w' ⟨rfl, rfl⟩
  go_wp2_with fail
  have a0 := (BoxN.new w5 #[.int .i64 0] 3).below (bAlloc (bAlloc (Below.refl (w5.alloc (.cells #[.int .i64 0] 3)).heap.size _) (.cells #[.slice sa m sc] 34)) (.cells #[.int .i64 40] 3)) (by simp)
  have a1 := (BoxN.new (w5.alloc (.cells #[.int .i64 0] 3)) #[.slice sa m sc] 34).below (bAlloc (Below.refl _ _) (.cells #[.int .i64 40] 3)) (by simp)
  have a2 := BoxN.new ((w5.alloc (.cells #[.int .i64 0] 3)).alloc (.cells #[.slice sa m sc] 34)) #[.int .i64 40] 3
  have z0 : (((w5.alloc (.cells #[.int .i64 0] 3)).alloc (.cells #[.slice sa m sc] 34)).alloc (.cells #[.int .i64 40] 3)).heap.size = w5.heap.size + 3 := by rw [size_alloc, size_alloc, size_alloc]
  have hb0 : Below w5.heap.size w5 (((w5.alloc (.cells #[.int .i64 0] 3)).alloc (.cells #[.slice sa m sc] 34)).alloc (.cells #[.int .i64 40] 3)) := bAlloc (bAlloc (bAlloc (Below.refl _ _) _) _) _
  rw [size_alloc] at a1
  rw [size_alloc, size_alloc] at a2
  have A0 := Lib.hid a0
  have A1 := Lib.hid a1
  have A2 := Lib.hid a2
  have HB0 := Lib.hid hb0
  have Z0 := Lib.hid z0
  clear a0 a1 a2 hb0 z0 x5 x6
  generalize ((w5.alloc (.cells #[.int .i64 0] 3)).alloc (.cells #[.slice sa m sc] 34)).alloc (.cells #[.int .i64 40] 3) = W0 at *
  have hz0 := Z0.out
  have ha : 0 < m → ∃ b off, sa = some ⟨b, off, none⟩ := fun h0 => by
    obtain ⟨b, off, e, -⟩ := SY.out (by rw [HLM.out]; exact h0)
    exact ⟨b, off, e⟩
  have HCH := Lib.hid (chunk_stops Fence.wide 8 trivial rfl (by decide) (w5.heap.size + 1) W0.heap.size (fun b => b = w.heap.size + 1 + 1 + 1 ∨ b = w5.heap.size) sa m sc hm hsc (by omega) (by show ¬ (_ ∨ _); omega) (by show ¬ (_ ∨ _); omega) ha W0 (A1.out.cell 0) (A2.out.cell 0))
  clear ha
  refine (wpIn_wide (n := 9)).1 ?_
  refine wpIn_rangeFunc_ownG rfl (by decide) (gf := 66) (lb := #[.pointer (some ⟨w5.heap.size + 1, 0, none⟩), .pointer (some ⟨w5.heap.size + 1 + 1, 0, none⟩)]) rfl trivial (enters_of Try.func66 (by kernel_rfl) rfl) HCH.out (fun h k => h.trans k) (fun W lo o o' hl _ _ _ => KP.putObj W lo o' hl) (Below.refl _ _) (fun _ => rfl)
    (FindI W0 (w.heap.size + 1 + 1 + 1) w5.heap.size r) (FindX W0 (w.heap.size + 1 + 1 + 1) w5.heap.size r) (findI_own _ _ _ _) (fun c => findX_own _ _ _ _ c)
    ⟨⟨_, C3.out.below HB0.out (by omega)⟩, ⟨0, A0.out, fun _ => rfl⟩, fun h => absurd rfl h, KP.refl _ _ _⟩
    (fun x => { tmps := #[.pointer (some ⟨B, 0, none⟩), .string ⟨name.toArray⟩, .string ⟨ver.toArray⟩, .pointer (some ⟨w.heap.size, 0, none⟩), .pointer (some ⟨w.heap.size + 1, 0, none⟩), .pointer (some ⟨w.heap.size + 1 + 1, 0, none⟩), .pointer (some ⟨w.heap.size + 1 + 1 + 1, 0, none⟩), .pointer (some ⟨w5.heap.size, 0, none⟩), .slice sa m m, undef, .pointer (some ⟨B, 0, none⟩), .pointer (some ⟨B, 0, none⟩), .pointer (some ⟨B, 2, none⟩), .pointer (some ⟨B, 0, none⟩), .func (.func 48) #[.pointer (some ⟨B, 0, none⟩)] #[], .tuple #[], .pointer (some ⟨B, 0, none⟩), .pointer (some ⟨B, 0, none⟩), .pointer (some ⟨B, 1, none⟩), .slice sa m sc, .func (.func 66) #[] #[.pointer (some ⟨w5.heap.size + 1, 0, none⟩), .pointer (some ⟨w5.heap.size + 1 + 1, 0, none⟩)], .slice sa m m, undef, undef, undef, undef, undef, undef, undef, undef, undef, undef, undef, undef, undef, undef, undef, undef, undef, undef, undef, undef, undef], defers := [] }) ?assign ?body ?done ?stop
  case assign =>
    intro lp x W K hK
    gi_wp2
    exact hK
  case body =>
    rintro lp pre x W ⟨⟨v, h1⟩, ⟨q, h2, h2'⟩, h3, h4⟩ hpre
    obtain rfl : pre = [] := List.eq_nil_of_length_eq_zero (by have := pieces_le m; omega)
    obtain rfl : q = 0 := h2' rfl
    have hm0 := pieces_pos hpre
    have hl0 : l ≠ [] := fun e => by have := HLM.out; rw [e] at this; simp at this; omega
    have htb := TB.out
    unfold TabAt at htb
    rw [if_neg hl0] at htb
    have htb := htb.mono (P' := fun b => b < w5.heap.size ∧ (b < w.heap.size ∨ w.heap.size + 4 ≤ b)) (fun b q1 q2 => ⟨q1, q2.2⟩) hl0
    have htb := htb.kp (kp_of_below (S := fun _ => False) HB0.out (Nat.le_refl _)) (Nat.le_refl _) (fun _ _ => id)
    have htb := htb.kp h4 (Nat.le_refl _) (fun b hb q => by rcases q with q | q <;> omega)
    obtain ⟨T, cT, Bk, C, rfl, hT, hBk, hC, t0, t1, r1, r2⟩ := htb
    rw [HLM.out] at t1 r2
    have hWs := h4.size
    have k1 := (C0.out.below HB0.out x7).kp h4 (by omega) (by show ¬ (_ ∨ _); omega)
    have k2 := (CB.out.below HB0.out hB5).kp h4 (by omega) (by show ¬ (_ ∨ _); omega)
    have k6 := (C1.out.below HB0.out (by omega)).kp h4 (by omega) (by show ¬ (_ ∨ _); omega)
    have k7 := (C2.out.below HB0.out (by omega)).kp h4 (by omega) (by show ¬ (_ ∨ _); omega)
    have sy := h4.rdS (SY.out.below HB0.out) (fun b off h0 e => by
      have := SB.out b off (by rw [← HLM.out]; exact h0) e
      exact ⟨by omega, by show ¬ (_ ∨ _); omega⟩)
    have HFI := Lib.hid (fun W' (hW : Below W.heap.size W W') => HF.out (some ⟨Bk, 0, none⟩) (some ⟨C, 0, none⟩) sa 32 m m W' (sy.below hW) (r1.below hW) (r2.below hW))
    have HSS := Lib.hid (show W.drew.cell? ⟨w.heap.size, 0, none⟩ = some (.pointer (some ⟨B, 0, none⟩)) ∧ W.drew.cell? ⟨B, 5, none⟩ = some (.slice (some ⟨T, 0, none⟩) 1 cT) ∧ W.drew.cell? ⟨w5.heap.size, 0, none⟩ = some (.int .i64 0) ∧ W.drew.cell? ⟨T, 0, none⟩ = some (.slice (some ⟨Bk, 0, none⟩) 32 32) ∧ W.drew.cell? ⟨T, 1, none⟩ = some (.slice (some ⟨C, 0, none⟩) m m) ∧ W.drew.cell? ⟨w.heap.size + 1, 0, none⟩ = some (.string ⟨name.toArray⟩) ∧ W.drew.cell? ⟨w.heap.size + 1 + 1, 0, none⟩ = some (.string ⟨ver.toArray⟩) from ⟨k1.cell 0, k2.cell 5, h2.cell 0, t0, t1, k6.cell 0, k7.cell 0⟩)
    have HSK := Lib.hid (fun W' (hW : Below W.drew.heap.size W.drew W') => show W'.cell? ⟨w.heap.size, 0, none⟩ = some (.pointer (some ⟨B, 0, none⟩)) ∧ W'.cell? ⟨B, 5, none⟩ = some (.slice (some ⟨T, 0, none⟩) 1 cT) ∧ W'.cell? ⟨w5.heap.size, 0, none⟩ = some (.int .i64 0) ∧ W'.cell? ⟨T, 0, none⟩ = some (.slice (some ⟨Bk, 0, none⟩) 32 32) ∧ W'.cell? ⟨T, 1, none⟩ = some (.slice (some ⟨C, 0, none⟩) m m) ∧ W'.cell? ⟨w.heap.size + 1, 0, none⟩ = some (.string ⟨name.toArray⟩) ∧ W'.cell? ⟨w.heap.size + 1 + 1, 0, none⟩ = some (.string ⟨ver.toArray⟩) from
      have q := HSS.out
      ⟨(hW.cell (heap_lt_of_cell q.1)).trans q.1, (hW.cell (heap_lt_of_cell q.2.1)).trans q.2.1, (hW.cell (heap_lt_of_cell q.2.2.1)).trans q.2.2.1, (hW.cell (heap_lt_of_cell q.2.2.2.1)).trans q.2.2.2.1, (hW.cell (heap_lt_of_cell q.2.2.2.2.1)).trans q.2.2.2.2.1, (hW.cell (heap_lt_of_cell q.2.2.2.2.2.1)).trans q.2.2.2.2.2.1, (hW.cell (heap_lt_of_cell q.2.2.2.2.2.2)).trans q.2.2.2.2.2.2⟩)
    have H1 := Lib.hid h1
    have H2 := Lib.hid h2
    have H4 := Lib.hid h4
    clear h1 h2 h2' h3 h4 k1 k2 k6 k7 sy r1 r2 t0 t1 hl0 hpre
    gi_wp2
    refine region_round (S := fun W => W.cell? ⟨w.heap.size, 0, none⟩ = some (.pointer (some ⟨B, 0, none⟩)) ∧ W.cell? ⟨B, 5, none⟩ = some (.slice (some ⟨T, 0, none⟩) 1 cT) ∧ W.cell? ⟨w5.heap.size, 0, none⟩ = some (.int .i64 0) ∧ W.cell? ⟨T, 0, none⟩ = some (.slice (some ⟨Bk, 0, none⟩) 32 32) ∧ W.cell? ⟨T, 1, none⟩ = some (.slice (some ⟨C, 0, none⟩) m m) ∧ W.cell? ⟨w.heap.size + 1, 0, none⟩ = some (.string ⟨name.toArray⟩) ∧ W.cell? ⟨w.heap.size + 1 + 1, 0, none⟩ = some (.string ⟨ver.toArray⟩)) mixed (by kernel_rfl) HSS.out (fun hHeld => ?_)
    refine wpAnyH_take (i := 0) (oi := { dst := some 22, op := Op.load 66 (Operand.tmp 3), type := 66, pos := "place.go:57", after := #[], guard := none }) (v := .pointer (some ⟨B, 0, none⟩)) rfl (by kernel_rfl) (by kernel_rfl) (by kernel_rfl) (fun _ _ _ h => h) (Or.inl ⟨by rfl, ?_⟩) (by assumption) ?_
    · intro W hSw; (try dsimp only at hSw); go_simp
    simp only [Act.put, List.setIfInBounds_toArray, List.set_cons_zero, List.set_cons_succ]
    refine wpAnyH_take (i := 1) (oi := { dst := some 23, op := Op.nilCheck (Operand.tmp 22), type := 0, pos := "place.go:57", after := #[{ on := 0, ground := Ground.data }], guard := none }) (v := .pointer (some ⟨B, 0, none⟩)) rfl (by kernel_rfl) (by kernel_rfl) (by kernel_rfl) (fun _ _ _ h => h) (Or.inl ⟨by rfl, ?_⟩) (by assumption) ?_
    · intro W hSw; (try dsimp only at hSw); go_simp
    simp only [Act.put, List.setIfInBounds_toArray, List.set_cons_zero, List.set_cons_succ]
    refine wpAnyH_take (i := 2) (oi := { dst := some 24, op := Op.fieldAddr 81 (Operand.tmp 23) 3, type := 0, pos := "place.go:57", after := #[{ on := 1, ground := Ground.data }], guard := none }) (v := .pointer (some ⟨B, 5, none⟩)) rfl (by kernel_rfl) (by kernel_rfl) (by kernel_rfl) (fun _ _ _ h => h) (Or.inl ⟨by rfl, ?_⟩) (by assumption) ?_
    · intro W hSw; (try dsimp only at hSw); go_simp
    simp only [Act.put, List.setIfInBounds_toArray, List.set_cons_zero, List.set_cons_succ]
    refine wpAnyH_take (i := 3) (oi := { dst := some 25, op := Op.load 79 (Operand.tmp 24), type := 79, pos := "place.go:57", after := #[{ on := 2, ground := Ground.data }], guard := none }) (v := .slice (some ⟨T, 0, none⟩) 1 cT) rfl (by kernel_rfl) (by kernel_rfl) (by kernel_rfl) (fun _ _ _ h => h) (Or.inl ⟨by rfl, ?_⟩) (by assumption) ?_
    · intro W hSw; (try dsimp only at hSw); go_simp
    simp only [Act.put, List.setIfInBounds_toArray, List.set_cons_zero, List.set_cons_succ]
    refine wpAnyH_take (i := 4) (oi := { dst := some 26, op := Op.load 3 (Operand.tmp 7), type := 3, pos := "place.go:57", after := #[], guard := none }) (v := .int .i64 0) rfl (by kernel_rfl) (by kernel_rfl) (by kernel_rfl) (fun _ _ _ h => h) (Or.inl ⟨by rfl, ?_⟩) (by assumption) ?_
    · intro W hSw; (try dsimp only at hSw); go_simp
    simp only [Act.put, List.setIfInBounds_toArray, List.set_cons_zero, List.set_cons_succ]
    refine wpAnyH_take (i := 5) (oi := { dst := some 27, op := Op.binOp BinOp.quo 3 (Operand.tmp 26) (Operand.const (Value.int IntKind.i64 40)) 3, type := 3, pos := "place.go:57", after := #[{ on := 4, ground := Ground.data }], guard := none }) (v := .int .i64 0) rfl (by kernel_rfl) (by kernel_rfl) (by kernel_rfl) (fun _ _ _ h => h) (Or.inl ⟨by rfl, ?_⟩) (by assumption) ?_
    · intro W hSw; (try dsimp only at hSw); (first | (go_simp; done) | (go_simp; rfl))
    simp only [Act.put, List.setIfInBounds_toArray, List.set_cons_zero, List.set_cons_succ]
    refine wpAnyH_take (i := 6) (oi := { dst := some 28, op := Op.indexAddr 79 (Operand.tmp 25) (Operand.tmp 27), type := 0, pos := "place.go:57", after := #[{ on := 3, ground := Ground.data }, { on := 5, ground := Ground.data }], guard := none }) (v := .pointer (some ⟨T, 0, none⟩)) rfl (by kernel_rfl) (by kernel_rfl) (by kernel_rfl) (fun _ _ _ h => h) (Or.inl ⟨by rfl, ?_⟩) (by assumption) ?_
    · intro W hSw; (try dsimp only at hSw); go_simp
    simp only [Act.put, List.setIfInBounds_toArray, List.set_cons_zero, List.set_cons_succ]
    refine wpAnyH_take (i := 7) (oi := { dst := some 29, op := Op.load 100 (Operand.tmp 28), type := 100, pos := "place.go:57", after := #[{ on := 6, ground := Ground.data }], guard := none }) (v := .agg #[.slice (some ⟨Bk, 0, none⟩) 32 32, .slice (some ⟨C, 0, none⟩) m m]) rfl (by kernel_rfl) (by kernel_rfl) (by kernel_rfl) (fun _ _ _ h => h) (Or.inl ⟨by rfl, ?_⟩) (by assumption) ?_
    · intro W hSw; (try dsimp only at hSw); go_simp
    simp only [Act.put, List.setIfInBounds_toArray, List.set_cons_zero, List.set_cons_succ]
    refine wpAnyH_take (i := 8) (oi := { dst := some 30, op := Op.move (Operand.tmp 8), type := 34, pos := "place.go:57", after := #[], guard := none }) (v := .slice sa m m) rfl (by kernel_rfl) (by kernel_rfl) (by kernel_rfl) (fun _ _ _ h => h) (Or.inl ⟨by rfl, ?_⟩) (by assumption) ?_
    · intro W hSw; (try dsimp only at hSw); go_simp
    simp only [Act.put, List.setIfInBounds_toArray, List.set_cons_zero, List.set_cons_succ]
    refine wpAnyH_take (i := 9) (oi := { dst := some 31, op := Op.load 9 (Operand.tmp 4), type := 9, pos := "place.go:57", after := #[], guard := none }) (v := .string ⟨name.toArray⟩) rfl (by kernel_rfl) (by kernel_rfl) (by kernel_rfl) (fun _ _ _ h => h) (Or.inl ⟨by rfl, ?_⟩) (by assumption) ?_
    · intro W hSw; (try dsimp only at hSw); go_simp
    simp only [Act.put, List.setIfInBounds_toArray, List.set_cons_zero, List.set_cons_succ]
    refine wpAnyH_take (i := 10) (oi := { dst := some 32, op := Op.load 9 (Operand.tmp 5), type := 9, pos := "place.go:57", after := #[], guard := none }) (v := .string ⟨ver.toArray⟩) rfl (by kernel_rfl) (by kernel_rfl) (by kernel_rfl) (fun _ _ _ h => h) (Or.inl ⟨by rfl, ?_⟩) (by assumption) ?_
    · intro W hSw; (try dsimp only at hSw); go_simp
    simp only [Act.put, List.setIfInBounds_toArray, List.set_cons_zero, List.set_cons_succ]
    refine wpAnyH_ready (rs := [11]) (by kernel_rfl) (by simp) ?_
    refine AllReadyH.cons rfl (fun K hK => ?_) ?_
    rotate_left
    · exact AllReadyH.nil
    go_simp
    refine (HFI.out _ (Below.drew (Below.refl _ _))).mono ?_; rintro e w6 ⟨rfl, hb6⟩
    simp only []
    refine hK.out _ _ ?_ (fun hHeld => ?_)
    · exact HSK.out _ hb6
    clear hK K
    try simp only [Act.put, List.setIfInBounds_toArray, List.set_cons_zero, List.set_cons_succ]
    refine wpAnyH_take (i := 12) (oi := { dst := some 9, op := Op.assign (Operand.tmp 33), type := 3, pos := "place.go:57", after := #[{ on := 11, ground := Ground.data }, { on := 11, ground := Ground.chain }, { on := 0, ground := Ground.phase }, { on := 1, ground := Ground.phase }, { on := 2, ground := Ground.phase }, { on := 3, ground := Ground.phase }, { on := 4, ground := Ground.phase }, { on := 5, ground := Ground.phase }, { on := 6, ground := Ground.phase }, { on := 7, ground := Ground.phase }, { on := 8, ground := Ground.phase }, { on := 9, ground := Ground.phase }, { on := 10, ground := Ground.phase }, { on := 11, ground := Ground.phase }], guard := none }) (v := .int .i64 r) rfl (by kernel_rfl) (by kernel_rfl) (by kernel_rfl) (fun _ _ _ h => h) (Or.inl ⟨by rfl, ?_⟩) (by assumption) ?_
    · intro W hSw; (try dsimp only at hSw); go_simp
    simp only [Act.put, List.setIfInBounds_toArray, List.set_cons_zero, List.set_cons_succ]
    refine wpAnyH_done (by kernel_rfl) ?_ _
    simp only [OnlyN]
    have hb6 : Below W.heap.size W w6 := (Below.drew (Below.refl W.heap.size W)).trans hb6
    have BR := Lib.hid (H1.out.below hb6 (by omega))
    have BA := Lib.hid (H2.out.below hb6 (by omega))
    have KW := Lib.hid (kp_of_below (n := W.heap.size) (S := fun b => b = w.heap.size + 1 + 1 + 1 ∨ b = w5.heap.size) hb6 (Nat.le_refl _))
    have g1 := BR.out.cell 0
    have g2 := BR.out.frozen 0
    have g3 : w6.cell? ⟨w5.heap.size, 0, none⟩ = some (.int .i64 0) := BA.out.cell 0
    have g4 := BA.out.frozen 0
    have g1 : w6.cell? ⟨w.heap.size + 1 + 1 + 1, 0, none⟩ = some v := g1
    have hwr : wrap64 r = r := by have := HRB.out; unfold wrap64; omega
    have hwm : wrap64 (m : Int) = (m : Int) := by unfold wrap64; omega
    clear hb6 hHeld
    by_cases hr0 : 0 ≤ r
    · have hrd : decide (0 ≤ r) = true := decide_eq_true hr0
      clear hz0
      gi_wp2
      have hz0 := Z0.out
      have kk := KW.out.set (p := ⟨w.heap.size + 1 + 1 + 1, 0, none⟩) (Or.inr (Or.inl rfl)) (.int .i64 r)
      exact ⟨kf_of_kp kk (fun b q => by rcases q with q | q <;> omega), rfl, BR.out.set 0 _, H4.out.trans (kk.mono (by omega) (fun b _ q => q))⟩
    · have hrd : decide (0 ≤ r) = false := decide_eq_false hr0
      have HRM := Lib.hid (show r = -1 by have := HRB.out; omega)
      clear hz0
      gi_wp2
      have hz0 := Z0.out
      have kk := KW.out.set (p := ⟨w5.heap.size, 0, none⟩) (Or.inr (Or.inr rfl)) (.int .i64 (m : Int))
      have kk0 := kk.mono (m := W0.heap.size) (T := fun b => b = w.heap.size + 1 + 1 + 1 ∨ b = w5.heap.size) (by omega) (fun b _ q => q)
      exact ⟨kf_of_kp kk (fun b q => by rcases q with q | q <;> omega), kk0, ⟨⟨v, BR.out.other (by omega)⟩, ⟨m, BA.out.set 0 _, fun e => absurd e (by simp)⟩, fun _ => HRM.out, H4.out.trans kk0⟩⟩
  case done =>
    rintro D ys W hD rfl ⟨⟨v, h1⟩, ⟨q, h2, h2'⟩, h3, h4⟩ hKD
    have hr1 : r = -1 := by
      rcases Nat.eq_zero_or_pos m with h0 | h0
      · rw [← HR.out, List.eq_nil_of_length_eq_zero (HLM.out.trans h0)]; exact findZ_nil _ _
      · exact h3 (by unfold pieces; rw [if_neg (by omega)]; simp)
    have HR1 := Lib.hid hr1
    have H1 := Lib.hid h1
    have H4 := Lib.hid h4
    have HKD := Lib.hid hKD
    have g1 : W.cell? ⟨w.heap.size + 1 + 1 + 1, 0, none⟩ = some v := h1.cell 0
    have g2 := h1.frozen 0
    clear h2 h2' h3 hr1 h1 h4 hKD hz0
    go_wp2_with fail
    have hz0 := Z0.out
    have hK2 : (W.setCell ⟨w.heap.size + 1 + 1 + 1, 0, none⟩ (.int .i64 (-1))).heap[D]? = some (.deferred (some [])) := (Below.heap_setCell _ _ _ _ (show D ≠ w.heap.size + 1 + 1 + 1 by omega)).trans HKD.out
    refine ⟨by simp, .inl ⟨D, _, rfl, run_takeDeferred hK2, ?_⟩⟩
    have kf : KP W0.heap.size (fun b => b = w.heap.size + 1 + 1 + 1 ∨ b = w5.heap.size) W0 (World.putObj (W.setCell ⟨w.heap.size + 1 + 1 + 1, 0, none⟩ (.int .i64 (-1))) D (.deferred none)) := (H4.out.set (p := ⟨w.heap.size + 1 + 1 + 1, 0, none⟩) (Or.inr (Or.inl rfl)) (.int .i64 (-1))).trans (KP.putObj _ D _ hD)
    have hb := (H1.out.set 0 (.int .i64 (-1))).kept (grownBy_putObj' _ D (.deferred none)) (fun r e => by cases e; exact ⟨_, hK2, rfl⟩)
    have hc := hb.cell 0
    have hfin := pfin HP5.out HB4.out hz4 hBl HK5.out HB0.out kf hbB
    refine leaves_plain (v := .int .i64 (-1)) ?_ ⟨by rw [HR1.out], hfin⟩
    have hc' : (World.putObj (W.setCell ⟨w.heap.size + 1 + 1 + 1, 0, none⟩ (.int .i64 (-1))) D (.deferred none)).cell? ⟨w.heap.size + 1 + 1 + 1, 0, none⟩ = some (.int .i64 (-1)) := hc
    simp [results, Try.results40, go_sem, hc']
  case stop =>
    rintro D c pre W hD _ ⟨rfl, h1, h4⟩ hKD
    gi_wp2
    refine ⟨by simp, .inl ⟨D, _, rfl, run_takeDeferred hKD, ?_⟩⟩
    have kf : KP W0.heap.size (fun b => b = w.heap.size + 1 + 1 + 1 ∨ b = w5.heap.size) W0 (World.putObj W D (.deferred none)) := h4.trans (KP.putObj _ D _ hD)
    have hb := h1.kept (grownBy_putObj' _ D (.deferred none)) (fun r e => by cases e; exact ⟨_, hKD, rfl⟩)
    have hc' : (World.putObj W D (.deferred none)).cell? ⟨w.heap.size + 1 + 1 + 1, 0, none⟩ = some (.int .i64 r) := hb.cell 0
    have hfin := pfin HP5.out HB4.out hz4 hBl HK5.out HB0.out kf hbB
    refine leaves_plain (v := .int .i64 r) ?_ ⟨rfl, hfin⟩
    simp [results, Try.results40, go_sem, hc']
end Go.Proofs.Ythammjpadbbflaa
