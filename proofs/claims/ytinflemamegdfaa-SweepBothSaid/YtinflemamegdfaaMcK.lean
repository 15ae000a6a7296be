/- SweepPlays: the walk. -/
import Derived.Test.YtinflemamegdfaaMcJ
namespace Go.Proofs.Ytinflemamegdfaa
set_option linter.unusedVariables false
set_option linter.unusedSimpArgs false
open Go.Joins Go.ChangeShapes Go.WideShapes Go.ChangeAt Go.RowKit Go.Deep

set_option maxRecDepth 100000 in
set_option maxHeartbeats 4000000 in
theorem pleft_any (W : World) (N M A : Nat) (F : Nat → Prop) (m : Mm) (pc : Cp) (rs : List Cp) (f n ty : Int) (hO : Own1 W N F M m) (hm : McAt W A M pc rs) :
    Calls Try.prog 12 #[.pointer (some ⟨A, 0, none⟩), .int .u64 f, .int .u64 n, .int .i64 ty] W fun e W' => ∃ (ra : Option Addr) (rc : Nat), e = .returned (.slice ra (gran f n ty m).length rc) ∧ W'.ownsRow W.heap.size 22 1 (.slice ra (gran f n ty m).length rc) (gran f n ty m).length (u64s (gran f n ty m)) ∧ Below W.heap.size W W' := by
  have HO := Lib.hid hO
  have HM := Lib.hid hm
  obtain ⟨H, hH⟩ : ∃ H, W.heap.size = H := ⟨_, rfl⟩
  have HH := Lib.hid hH
  have CT := Lib.hid (touching_at f n ty W H hH)
  have CG := Lib.hid (fun w (hb : Below W.heap.size W w) htc => gran_any w N M A (H + 2) (H + 1) H (H + 3) F m pc rs f n ty (hO.below hb) (hm.below hb) htc)
  unfold tchV at CG
  clear hO hm hH
  go_enter Try.func12, Try.ntmps12
  go_wp2_with fail
  refine CT.out.mono ?_; rintro e W1 ⟨rfl, t1, t2, t3, t4, hb⟩
  have B1 := Lib.hid hb
  have C := Lib.hid (CG.out W1 hb ⟨t1, t2, t3, t4⟩)
  clear hb t1 t2 t3 t4 CT CG
  go_wp2_with fail
  refine C.out.mono ?_; rintro e W2 ⟨ra, rc, rfl, hor, hb⟩
  have HOR := Lib.hid hor
  have B2 := Lib.hid (B1.out.trans (hb.mono B1.out.size))
  clear hor hb C
  go_wp2_with fail
  go_ret
  exact ⟨ra, rc, rfl, own_base HOR.out B1.out.size, B2.out⟩
/-- a row, and where it lies -/
structure RowAt (W : World) (base : Nat) (a : Option Addr) (n : Nat) (xs : List Value) : Prop where
  rd : Rd W a n xs
  wh : ∀ b off, 0 < n → a = some ⟨b, off, none⟩ → base ≤ b ∧ b < W.heap.size
theorem RowAt.of {W : World} {base n c : Nat} {e : TypeId} {a : Option Addr} {xs : List Value} (h : W.ownsRow base e 1 (.slice a n c) n xs) : RowAt W base a n xs :=
  ⟨row_later h (Below.refl _ _), fun b off h0 e => by
    rcases h.2 with ⟨e1, h1⟩ | ⟨g', cap', cur', e1, hg', hbk, -⟩
    · omega
    · cases e1; cases e; exact ⟨hg', (Array.getElem?_eq_some_iff.1 hbk).1⟩⟩
theorem RowAt.kp {W W' : World} {base n : Nat} {a : Option Addr} {xs : List Value} {S : Nat → Prop} (h : RowAt W base a n xs) (hk : KP W.heap.size S W W') (hS : ∀ b, base ≤ b → ¬ S b) : RowAt W' base a n xs :=
  ⟨hk.rd h.rd (fun b off h0 e => ⟨(h.wh b off h0 e).2, hS b (h.wh b off h0 e).1⟩), fun b off h0 e => ⟨(h.wh b off h0 e).1, Nat.lt_of_lt_of_le (h.wh b off h0 e).2 hk.size⟩⟩
theorem RowAt.below {W W' : World} {base n : Nat} {a : Option Addr} {xs : List Value} (h : RowAt W base a n xs) (hb : Below W.heap.size W W') : RowAt W' base a n xs := h.kp (KP.of_below (fun _ => False) hb) (fun _ _ => id)
theorem arrSize (qs : List Cp) (h : qs.length = 32) : (Try.prog.info? 39).map (·.size) = some (capsV qs).length := by
  rw [capsV_len, h]
  kernel_rfl
theorem McAt.regs {W : World} {A M : Nat} {pc : Cp} {rs : List Cp} (h : McAt W A M pc rs) : W.rangeAt A 6 (capsV rs) := range_mid (pre := capC pc) (mid := capsV rs) h.box
theorem swR_len (f n ty : Int) (rs : List Cp) : (swR f n ty rs).length = rs.length := by
  unfold swR
  rw [List.length_append, List.length_map, List.length_take, List.length_drop]; omega
set_option maxRecDepth 100000 in
set_option maxHeartbeats 8000000 in
theorem SweepPlays_walk (W : World) (pc : Cp) (pa : Option Addr) (pcap : Nat) (l : List Pt) (f n ty : Int) (hp : RdPt W pa l) (hm : l.length < 9223372036854775808) (hfp : FitC pc) (hfl : ∀ p ∈ l, FitC p.c) (f0 : 0 ≤ f) (f1 : f < 18446744073709551616) (n0 : 0 ≤ n) (n1 : n < 18446744073709551616) :
    Calls Try.prog 4 #[.agg (capC pc).toArray, .slice pa l.length pcap, .int .u64 f, .int .u64 n, .int .i64 ty] W fun e W' => e = .returned (.bool true) ∧ Below W.heap.size W W' := by
  have CB := Lib.hid (fun w (hb : Below W.heap.size W w) => both_any w pc pa pcap l (hp.below hb) hm hfp hfl)
  have CL := Lib.hid (fun (w : World) (N M A : Nat) (F : Nat → Prop) (m : Mm) (rs : List Cp) (h1 : Own1 w N F M m) (h2 : McAt w A M pc rs) => pleft_any w N M A F m pc rs f n ty h1 h2)
  have CRL := Lib.hid (fun (w : World) (R A : Nat) (G : Nat → Prop) (m : Mm) (rs : List Cp) (h1 : RmAt w R G m) (h2 : McAt w A R pc rs) => rleft_any w R A G m pc rs f n ty h1 h2 f0 f1 n0 n1)
  have CS := Lib.hid (fun (w : World) (N M A : Nat) (F : Nat → Prop) (m : Mm) (rs : List Cp) (h1 : Own1 w N F M m) (h2 : McAt w A M pc rs) (h3 : ¬ F A) => psweep_any w N M A F m pc rs f n ty h1 h2 h3)
  have CRS := Lib.hid (fun (w : World) (R A : Nat) (G : Nat → Prop) (m : Mm) (rs : List Cp) (h1 : RmAt w R G m) (h2 : McAt w A R pc rs) (h3 : ¬ G A) (h4 : ∀ c ∈ rs, FitC c) => rsweep_any w R A G m pc rs f n ty h1 h2 h3 hfp h4 f0 f1 n0 n1)
  obtain ⟨cb, ct, ca, cp, cy, cg⟩ := pc
  rw [show (capC ⟨cb, ct, ca, cp, cy, cg⟩).toArray = #[.int .u64 cb, .int .u64 ct, .int .u64 ca, .int .i64 cp, .int .i64 cy, .bool cg] from rfl] at CB ⊢
  generalize l.length = pn at *
  clear hp hm hfp hfl f0 f1 n0 n1
  go_enter Try.func4, Try.ntmps4
  go_wp2_with fail
  refine (awake_any _).mono ?_; rintro e W1 ⟨rfl, hb⟩
  have B1 := Lib.hid (bTrans (bAlloc (Below.refl _ _) _) hb)
  have X1 := boxN_below (BoxN.new W #[.int .u64 cb, .int .u64 ct, .int .u64 ca, .int .i64 cp, .int .i64 cy, .bool cg] 24) hb
  obtain ⟨⟨x0, x1, x2, x3, x4, x5⟩, -⟩ := boxN6 X1
  clear hb X1
  go_wp2_with fail
  refine (CB.out W1 B1.out).mono ?_; rintro e W2 ⟨hb, hno | ⟨A, B, M, R, F, G, mm, rs, rfl, hs⟩⟩
  · have B2 := Lib.hid (B1.out.trans (hb.mono B1.out.size))
    unfold NoBoth at hno
    subst hno
    clear hb x0 x1 x2 x3 x4 x5 B1
    go_wp2_with fail
    go_ret
    exact ⟨rfl, B2.out⟩
  have B2 := Lib.hid (B1.out.trans (hb.mono B1.out.size))
  have S2 := Lib.hid hs
  obtain ⟨N, hN⟩ : ∃ N, W1.heap.size = N := ⟨_, rfl⟩
  rw [hN] at S2
  have HN : Hid (W.heap.size ≤ N ∧ N ≤ W2.heap.size) := Lib.hid ⟨by rw [← hN]; exact B1.out.size, by rw [← hN]; exact hb.size⟩
  clear hb hs x0 x1 x2 x3 x4 x5 B1 CB hN
  have C := Lib.hid (CL.out W2 N M A F mm rs S2.out.own S2.out.ma)
  go_wp2_with fail
  refine C.out.mono ?_; rintro e W3 ⟨la, lc, rfl, hor, hb⟩
  have S3 := Lib.hid (S2.out.below hb)
  have L3 := Lib.hid (RowAt.of hor)
  have B3 := Lib.hid (B2.out.trans (hb.mono B2.out.size))
  have HZ : Hid (W2.heap.size ≤ W3.heap.size ∧ (∀ b, F b → b < W2.heap.size) ∧ (∀ b, G b → b < W2.heap.size) ∧ A < W2.heap.size ∧ B < W2.heap.size) := Lib.hid ⟨hb.size, S2.out.own.lt, S2.out.rma.lt, S2.out.ma.lt, S2.out.mb.lt⟩
  clear hor hb C S2 B2 CL
  have C := Lib.hid (CRL.out W3 R B G mm rs S3.out.rma S3.out.mb)
  go_wp2_with fail
  refine C.out.mono ?_; rintro e W4 ⟨ra, rc, rfl, hor, hb⟩
  have S4 := Lib.hid (S3.out.below hb)
  have L4 := Lib.hid (L3.out.below hb)
  have K4 := Lib.hid (RowAt.of (own_base hor HZ.out.1))
  have B4 := Lib.hid (B3.out.trans (hb.mono B3.out.size))
  have H4 : Hid (W2.heap.size ≤ W4.heap.size) := Lib.hid (Nat.le_trans HZ.out.1 hb.size)
  clear hor hb C S3 L3 B3 CRL
  have C := Lib.hid (CS.out W4 N M A F mm rs S4.out.own S4.out.ma S4.out.fa)
  have hsame := sw_same S4.out.own.ok f n ty
  rw [hsame] at C
  have CR := Lib.hid (fun w (h1 : RmAt w R G mm) h2 => CRS.out w R B G mm rs h1 h2 S4.out.gb S4.out.fit)
  obtain ⟨gl, hgl⟩ : ∃ gl, gran f n ty mm = gl := ⟨_, rfl⟩
  rw [hgl] at C CR L4 K4
  (try rw [hgl])
  obtain ⟨m2, hm2⟩ : ∃ m2, (swD mm gl).1 = m2 := ⟨_, rfl⟩
  rw [hm2] at C CR
  obtain ⟨ct9, hct⟩ : ∃ c, cnt f n ty ⟨cb, ct, ca, cp, cy, cg⟩ + cntN f n ty rs 32 + (swD mm gl).2 = c := ⟨_, rfl⟩
  rw [hct] at C CR
  obtain ⟨pq, hpq⟩ : ∃ pq, swp f n ty ⟨cb, ct, ca, cp, cy, cg⟩ = pq := ⟨_, rfl⟩
  rw [hpq] at C CR
  have hql := swR_len f n ty rs
  rw [S4.out.ma.len] at hql
  obtain ⟨qs, hqs⟩ : ∃ qs, swR f n ty rs = qs := ⟨_, rfl⟩
  rw [hqs] at C CR hql
  obtain ⟨gd, hgd⟩ : ∃ d, gl.length = d := ⟨_, rfl⟩
  have HGD : Hid (gd ≤ 2048) := Lib.hid (by
    rw [← hgd, ← hgl]
    unfold gran
    refine Nat.le_trans (List.length_filter_le _ _) ?_
    rw [List.length_map]
    exact mks_len S4.out.own.ok)
  rw [hgd] at L4 K4
  (try rw [hgd])
  have HQL := Lib.hid hql
  clear hsame hgl hm2 hct hpq hql hqs hgd CS CRS
  go_wp2_with fail
  refine C.out.mono ?_; rintro e W5 ⟨rfl, F5, h5, hsub, hna, hma, hk⟩
  have O5 := Lib.hid h5
  have A5 := Lib.hid hma
  have hd : ∀ b, G b → ¬ (F b ∨ b = A) := fun b hb hg => by
    rcases hg with e | e
    · exact S4.out.fg b e hb
    · exact S4.out.ga (e ▸ hb)
  have R5 := Lib.hid (S4.out.rma.kp hk (Nat.le_refl _) hd)
  have M5 := Lib.hid (S4.out.mb.kp hk S4.out.mb.lt (fun e => by rcases e with e | e; exact S4.out.fb e; exact S4.out.ab e.symm))
  have hro : ∀ b, W2.heap.size ≤ b → ¬ (F b ∨ b = A) := fun b hb hg => by
    rcases hg with e | e
    · have := HZ.out.2.1 b e; omega
    · have := HZ.out.2.2.2.1; omega
  have L5 := Lib.hid (L4.out.kp hk hro)
  have K5 := Lib.hid (K4.out.kp hk hro)
  have hN5 : Below N W4 W5 := hk.to_below (m := N) (by have := HN.out.2; have := H4.out; omega) (fun b hb hg => by
    rcases hg with e | e
    · have := S4.out.own.ge b e; omega
    · have := S4.out.na; omega)
  have B5 := Lib.hid (B4.out.trans (hN5.mono HN.out.1))
  have HF5 : Hid (∀ b, F5 b → ¬ (G b ∨ b = B)) := Lib.hid (fun b hb hg => by
    have z := H4.out
    rcases hsub b hb with h1 | h1 <;> rcases hg with e | e
    · exact S4.out.fg b h1 e
    · exact S4.out.fb (e ▸ h1)
    · have := HZ.out.2.2.1 b e; omega
    · have := HZ.out.2.2.2.2; omega)
  clear h5 hsub hna hma hk hd hro hN5 L4 K4 B4 C
  have C := Lib.hid (CR.out W5 R5.out M5.out)
  go_wp2_with fail
  refine C.out.mono ?_; rintro e W6 ⟨rfl, G6, h6, hsub, hna, hmb, hk⟩
  have O6 := Lib.hid (O5.out.beside (G := fun b => G b ∨ b = B) (G' := fun b => G b ∨ b = B) ⟨fun b hb => Or.inl hb, hk⟩ HF5.out).1
  have A6 := Lib.hid (A5.out.kp hk A5.out.lt (fun e => by rcases e with e | e; exact S4.out.ga e; exact S4.out.ab e))
  have R6 := Lib.hid h6
  have M6 := Lib.hid hmb
  have hro : ∀ b, W2.heap.size ≤ b → ¬ (G b ∨ b = B) := fun b hb hg => by
    rcases hg with e | e
    · have := HZ.out.2.2.1 b e; omega
    · have := HZ.out.2.2.2.2; omega
  have L6 := Lib.hid (L5.out.kp hk hro)
  have K6 := Lib.hid (K5.out.kp hk hro)
  have hz5 : N ≤ W5.heap.size := by have := O5.out.sz; omega
  have hN6 : Below N W5 W6 := hk.to_below (m := N) hz5 (fun b hb hg => by
    rcases hg with e | e
    · have := S4.out.gn b e; omega
    · have := S4.out.nb; omega)
  have B6 := Lib.hid (B5.out.trans (hN6.mono HN.out.1))
  clear h6 hsub hna hmb hk hro hN6 hz5 L5 K5 B5 O5 A5 R5 M5 C CR S4 HF5 HZ H4
  have am := A6.out.mem
  have C := Lib.hid (sbytes_any W6 N M F5 m2 O6.out 0 2048 (by decide) (by decide) (by decide))
  obtain ⟨by_, hby⟩ : ∃ b, bytesF m2 ((0 : Nat) : Int) 2048 = b := ⟨_, rfl⟩
  have CRB := Lib.hid (fun w (h : RmAt w R G6 m2) => rbytes_any w R G6 m2 h 0 2048 (by decide))
  rw [hby, show ((0 : Nat) : Int) = 0 from rfl] at C CRB
  have hbl : by_.length ≤ 2048 := by
    rw [← hby]
    unfold bytesF
    split
    · exact Nat.zero_le _
    · split
      · rw [manyB_len]; decide
      · exact Nat.zero_le _
  obtain ⟨bn, hbn⟩ : ∃ n, by_.length = n := ⟨_, rfl⟩
  rw [hbn] at C CRB hbl
  have HBL := Lib.hid hbl
  clear hby hbl hbn
  go_wp2_with fail
  refine C.out.mono ?_; rintro e W7 ⟨⟨ba, bc, rfl, hor⟩, hb⟩
  have O7 := Lib.hid (O6.out.below hb)
  have A7 := Lib.hid (A6.out.below hb)
  have R7 := Lib.hid (R6.out.below hb)
  have M7 := Lib.hid (M6.out.below hb)
  have L7 := Lib.hid (L6.out.below hb)
  have K7 := Lib.hid (K6.out.below hb)
  have P7 := Lib.hid (RowAt.of hor)
  have B7 := Lib.hid (B6.out.trans (hb.mono B6.out.size))
  clear hor hb C O6 A6 R6 M6 L6 K6 B6 am
  have bm := M7.out.mem
  have C := Lib.hid (CRB.out W7 R7.out)
  clear CRB
  go_wp2_with fail
  refine C.out.mono ?_; rintro e W8 ⟨⟨da, dc, rfl, hor⟩, hb⟩
  have O8 := Lib.hid (O7.out.below hb)
  have A8 := Lib.hid (A7.out.below hb)
  have R8 := Lib.hid (R7.out.below hb)
  have M8 := Lib.hid (M7.out.below hb)
  have L8 := Lib.hid (L7.out.below hb)
  have K8 := Lib.hid (K7.out.below hb)
  have P8 := Lib.hid (P7.out.below hb)
  have Q8 := Lib.hid (RowAt.of hor)
  have B8 := Lib.hid (B7.out.trans (hb.mono B7.out.size))
  clear hor hb C O7 A7 R7 M7 L7 K7 P7 B7 bm
  have am := A8.out.mem
  have C := Lib.hid (stags_any W8 N M F5 m2 O8.out)
  obtain ⟨tl, htl⟩ : ∃ t, m2.mks.map (32 * ·) = t := ⟨_, rfl⟩
  obtain ⟨kn, hkn⟩ : ∃ k, m2.mks.length = k := ⟨_, rfl⟩
  have hkl : kn ≤ 2048 := by rw [← hkn]; exact mks_len O8.out.ok
  rw [htl, hkn] at C
  have HKL := Lib.hid hkl
  have HTL := Lib.hid (And.intro htl hkn)
  clear htl hkn hkl
  go_wp2_with fail
  refine C.out.mono ?_; rintro e W9 ⟨ta, tc, rfl, hor, hb⟩
  have A9 := Lib.hid (A8.out.below hb)
  have R9 := Lib.hid (R8.out.below hb)
  have M9 := Lib.hid (M8.out.below hb)
  have L9 := Lib.hid (L8.out.below hb)
  have K9 := Lib.hid (K8.out.below hb)
  have P9 := Lib.hid (P8.out.below hb)
  have Q9 := Lib.hid (Q8.out.below hb)
  have T9 := Lib.hid (RowAt.of hor)
  have B9 := Lib.hid (B8.out.trans (hb.mono B8.out.size))
  clear hor hb C O8 A8 R8 M8 L8 K8 P8 Q8 B8 am
  obtain ⟨ka, kc, hk0, hk1⟩ := R9.out.marks
  rw [HTL.out.1, HTL.out.2] at hk1
  rw [HTL.out.2] at hk0
  have HK1 := Lib.hid hk1
  have hpr := range6 A9.out.pcAt
  simp only [Nat.zero_add] at hpr
  have hrg := A9.out.regs
  have hbm := M9.out.mem
  have CSM := Lib.hid (fun w (h : McAt w B R pq qs) => mcsame_any w B R pq qs h)
  obtain ⟨eb, et, ea, ep, ey, eg⟩ := pq
  rw [show (capC ⟨eb, et, ea, ep, ey, eg⟩).toArray = #[.int .u64 eb, .int .u64 et, .int .u64 ea, .int .i64 ep, .int .i64 ey, .bool eg] from rfl] at CSM
  obtain ⟨p0, p1, p2, p3, p4, p5⟩ := hpr
  simp only [] at p0 p1 p2 p3 p4 p5
  have HS0 : Hid (W9.cell? ⟨A, 0, none⟩ = some (.int .u64 eb) ∧ W9.cell? ⟨A, 1, none⟩ = some (.int .u64 et) ∧ W9.cell? ⟨A, 2, none⟩ = some (.int .u64 ea) ∧ W9.cell? ⟨A, 3, none⟩ = some (.int .i64 ep) ∧ W9.cell? ⟨A, 4, none⟩ = some (.int .i64 ey) ∧ W9.cell? ⟨A, 5, none⟩ = some (.bool eg) ∧ W9.rangeAt A 6 (capsV qs) ∧ W9.cell? ⟨B, 198, none⟩ = some (.pointer (some ⟨R, 0, none⟩)) ∧ W9.cell? ⟨R, 2, none⟩ = some (.slice ka kn kc)) := Lib.hid ⟨p0, p1, p2, p3, p4, p5, hrg, hbm, hk0⟩
  have HSd : Hid (W9.drew.cell? ⟨A, 0, none⟩ = some (.int .u64 eb) ∧ W9.drew.cell? ⟨A, 1, none⟩ = some (.int .u64 et) ∧ W9.drew.cell? ⟨A, 2, none⟩ = some (.int .u64 ea) ∧ W9.drew.cell? ⟨A, 3, none⟩ = some (.int .i64 ep) ∧ W9.drew.cell? ⟨A, 4, none⟩ = some (.int .i64 ey) ∧ W9.drew.cell? ⟨A, 5, none⟩ = some (.bool eg) ∧ W9.drew.rangeAt A 6 (capsV qs) ∧ W9.drew.cell? ⟨B, 198, none⟩ = some (.pointer (some ⟨R, 0, none⟩)) ∧ W9.drew.cell? ⟨R, 2, none⟩ = some (.slice ka kn kc)) := Lib.hid HS0.out
  have hu := Try.underlying39
  have hsz := arrSize qs HQL.out
  clear hk0 hk1 hrg hbm p0 p1 p2 p3 p4 p5
  go_upto_region 12 with fail
  go_region_held3 (fun W => W.cell? ⟨A, 0, none⟩ = some (.int .u64 eb) ∧ W.cell? ⟨A, 1, none⟩ = some (.int .u64 et) ∧ W.cell? ⟨A, 2, none⟩ = some (.int .u64 ea) ∧ W.cell? ⟨A, 3, none⟩ = some (.int .i64 ep) ∧ W.cell? ⟨A, 4, none⟩ = some (.int .i64 ey) ∧ W.cell? ⟨A, 5, none⟩ = some (.bool eg) ∧ W.rangeAt A 6 (capsV qs) ∧ W.cell? ⟨B, 198, none⟩ = some (.pointer (some ⟨R, 0, none⟩)) ∧ W.cell? ⟨R, 2, none⟩ = some (.slice ka kn kc))
    (first | with_reducible exact HSd.out | with_reducible exact HS1.out | with_reducible exact HS2.out | with_reducible exact HS3.out | with_reducible exact HS4.out | go_keep)
    (first
      | (go_at_call 19; (with_reducible refine (usame_any la ra gd lc gd rc gl gl W9.drew (L9.out.rd.below (Below.drew (Below.refl _ _))) (K9.out.rd.below (Below.drew (Below.refl _ _))) (by have := HGD.out; omega) (by have := HGD.out; omega)).mono ?_); rintro e v1 ⟨rfl, hb⟩; have hb := undrewB hb; rw [decide_eq_true rfl]; have q := HS0.out; have HS1 : Hid (v1.cell? ⟨A, 0, none⟩ = some (.int .u64 eb) ∧ v1.cell? ⟨A, 1, none⟩ = some (.int .u64 et) ∧ v1.cell? ⟨A, 2, none⟩ = some (.int .u64 ea) ∧ v1.cell? ⟨A, 3, none⟩ = some (.int .i64 ep) ∧ v1.cell? ⟨A, 4, none⟩ = some (.int .i64 ey) ∧ v1.cell? ⟨A, 5, none⟩ = some (.bool eg) ∧ v1.rangeAt A 6 (capsV qs) ∧ v1.cell? ⟨B, 198, none⟩ = some (.pointer (some ⟨R, 0, none⟩)) ∧ v1.cell? ⟨R, 2, none⟩ = some (.slice ka kn kc)) := Lib.hid (And.intro ((hb.cell (heap_lt_of_cell q.1)).trans q.1) (And.intro ((hb.cell (heap_lt_of_cell q.2.1)).trans q.2.1) (And.intro ((hb.cell (heap_lt_of_cell q.2.2.1)).trans q.2.2.1) (And.intro ((hb.cell (heap_lt_of_cell q.2.2.2.1)).trans q.2.2.2.1) (And.intro ((hb.cell (heap_lt_of_cell q.2.2.2.2.1)).trans q.2.2.2.2.1) (And.intro ((hb.cell (heap_lt_of_cell q.2.2.2.2.2.1)).trans q.2.2.2.2.2.1) (And.intro (fun j v hv => (hb.cell (heap_lt_of_cell (q.2.2.2.2.2.2.1 j v hv))).trans (q.2.2.2.2.2.2.1 j v hv)) (And.intro ((hb.cell (heap_lt_of_cell q.2.2.2.2.2.2.2.1)).trans q.2.2.2.2.2.2.2.1) ((hb.cell (heap_lt_of_cell q.2.2.2.2.2.2.2.2)).trans q.2.2.2.2.2.2.2.2))))))))); have HB1 := Lib.hid hb; clear hb q; dsimp only)
      | (go_at_call 20; (with_reducible refine (CSM.out v1 (M9.out.below HB1.out)).mono ?_); rintro e v2 ⟨rfl, hb⟩; have hb := HB1.out.trans (hb.mono HB1.out.size); have q := HS0.out; have HS2 : Hid (v2.cell? ⟨A, 0, none⟩ = some (.int .u64 eb) ∧ v2.cell? ⟨A, 1, none⟩ = some (.int .u64 et) ∧ v2.cell? ⟨A, 2, none⟩ = some (.int .u64 ea) ∧ v2.cell? ⟨A, 3, none⟩ = some (.int .i64 ep) ∧ v2.cell? ⟨A, 4, none⟩ = some (.int .i64 ey) ∧ v2.cell? ⟨A, 5, none⟩ = some (.bool eg) ∧ v2.rangeAt A 6 (capsV qs) ∧ v2.cell? ⟨B, 198, none⟩ = some (.pointer (some ⟨R, 0, none⟩)) ∧ v2.cell? ⟨R, 2, none⟩ = some (.slice ka kn kc)) := Lib.hid (And.intro ((hb.cell (heap_lt_of_cell q.1)).trans q.1) (And.intro ((hb.cell (heap_lt_of_cell q.2.1)).trans q.2.1) (And.intro ((hb.cell (heap_lt_of_cell q.2.2.1)).trans q.2.2.1) (And.intro ((hb.cell (heap_lt_of_cell q.2.2.2.1)).trans q.2.2.2.1) (And.intro ((hb.cell (heap_lt_of_cell q.2.2.2.2.1)).trans q.2.2.2.2.1) (And.intro ((hb.cell (heap_lt_of_cell q.2.2.2.2.2.1)).trans q.2.2.2.2.2.1) (And.intro (fun j v hv => (hb.cell (heap_lt_of_cell (q.2.2.2.2.2.2.1 j v hv))).trans (q.2.2.2.2.2.2.1 j v hv)) (And.intro ((hb.cell (heap_lt_of_cell q.2.2.2.2.2.2.2.1)).trans q.2.2.2.2.2.2.2.1) ((hb.cell (heap_lt_of_cell q.2.2.2.2.2.2.2.2)).trans q.2.2.2.2.2.2.2.2))))))))); have HB2 := Lib.hid hb; clear hb q; dsimp only)
      | (go_at_call 21; (with_reducible refine (same_any ba da bn bc bn dc by_ by_ v2 (P9.out.rd.below HB2.out) (Q9.out.rd.below HB2.out) (by have := HBL.out; omega) (by have := HBL.out; omega)).mono ?_); rintro e v3 ⟨rfl, hq3⟩; have hb := HB2.out.trans ((show Below v2.heap.size v2 v3 from by obtain ⟨nn, rfl⟩ := hq3; exact below_drewN _ nn).mono HB2.out.size); rw [decide_eq_true rfl]; have q := HS0.out; have HS3 : Hid (v3.cell? ⟨A, 0, none⟩ = some (.int .u64 eb) ∧ v3.cell? ⟨A, 1, none⟩ = some (.int .u64 et) ∧ v3.cell? ⟨A, 2, none⟩ = some (.int .u64 ea) ∧ v3.cell? ⟨A, 3, none⟩ = some (.int .i64 ep) ∧ v3.cell? ⟨A, 4, none⟩ = some (.int .i64 ey) ∧ v3.cell? ⟨A, 5, none⟩ = some (.bool eg) ∧ v3.rangeAt A 6 (capsV qs) ∧ v3.cell? ⟨B, 198, none⟩ = some (.pointer (some ⟨R, 0, none⟩)) ∧ v3.cell? ⟨R, 2, none⟩ = some (.slice ka kn kc)) := Lib.hid (And.intro ((hb.cell (heap_lt_of_cell q.1)).trans q.1) (And.intro ((hb.cell (heap_lt_of_cell q.2.1)).trans q.2.1) (And.intro ((hb.cell (heap_lt_of_cell q.2.2.1)).trans q.2.2.1) (And.intro ((hb.cell (heap_lt_of_cell q.2.2.2.1)).trans q.2.2.2.1) (And.intro ((hb.cell (heap_lt_of_cell q.2.2.2.2.1)).trans q.2.2.2.2.1) (And.intro ((hb.cell (heap_lt_of_cell q.2.2.2.2.2.1)).trans q.2.2.2.2.2.1) (And.intro (fun j v hv => (hb.cell (heap_lt_of_cell (q.2.2.2.2.2.2.1 j v hv))).trans (q.2.2.2.2.2.2.1 j v hv)) (And.intro ((hb.cell (heap_lt_of_cell q.2.2.2.2.2.2.2.1)).trans q.2.2.2.2.2.2.2.1) ((hb.cell (heap_lt_of_cell q.2.2.2.2.2.2.2.2)).trans q.2.2.2.2.2.2.2.2))))))))); have HB3 := Lib.hid hb; clear hb q hq3; dsimp only)
      | (go_at_call 19; (with_reducible refine (usame_any ta ka kn tc kn kc tl tl v3 (T9.out.rd.below HB3.out) (HK1.out.below HB3.out) (by have := HKL.out; omega) (by have := HKL.out; omega)).mono ?_); rintro e v4 ⟨rfl, hb⟩; have hb := HB3.out.trans (hb.mono HB3.out.size); rw [decide_eq_true rfl]; have q := HS0.out; have HS4 : Hid (v4.cell? ⟨A, 0, none⟩ = some (.int .u64 eb) ∧ v4.cell? ⟨A, 1, none⟩ = some (.int .u64 et) ∧ v4.cell? ⟨A, 2, none⟩ = some (.int .u64 ea) ∧ v4.cell? ⟨A, 3, none⟩ = some (.int .i64 ep) ∧ v4.cell? ⟨A, 4, none⟩ = some (.int .i64 ey) ∧ v4.cell? ⟨A, 5, none⟩ = some (.bool eg) ∧ v4.rangeAt A 6 (capsV qs) ∧ v4.cell? ⟨B, 198, none⟩ = some (.pointer (some ⟨R, 0, none⟩)) ∧ v4.cell? ⟨R, 2, none⟩ = some (.slice ka kn kc)) := Lib.hid (And.intro ((hb.cell (heap_lt_of_cell q.1)).trans q.1) (And.intro ((hb.cell (heap_lt_of_cell q.2.1)).trans q.2.1) (And.intro ((hb.cell (heap_lt_of_cell q.2.2.1)).trans q.2.2.1) (And.intro ((hb.cell (heap_lt_of_cell q.2.2.2.1)).trans q.2.2.2.1) (And.intro ((hb.cell (heap_lt_of_cell q.2.2.2.2.1)).trans q.2.2.2.2.1) (And.intro ((hb.cell (heap_lt_of_cell q.2.2.2.2.2.1)).trans q.2.2.2.2.2.1) (And.intro (fun j v hv => (hb.cell (heap_lt_of_cell (q.2.2.2.2.2.2.1 j v hv))).trans (q.2.2.2.2.2.2.1 j v hv)) (And.intro ((hb.cell (heap_lt_of_cell q.2.2.2.2.2.2.2.1)).trans q.2.2.2.2.2.2.2.1) ((hb.cell (heap_lt_of_cell q.2.2.2.2.2.2.2.2)).trans q.2.2.2.2.2.2.2.2))))))))); have HB4 := Lib.hid hb; clear hb q; dsimp only))
  have B10 := Lib.hid (B9.out.trans (HB4.out.mono B9.out.size))
  clear hsz
  go_wp2_with fail
  go_ret
  exact ⟨rfl, B10.out⟩
end Go.Proofs.Ytinflemamegdfaa
