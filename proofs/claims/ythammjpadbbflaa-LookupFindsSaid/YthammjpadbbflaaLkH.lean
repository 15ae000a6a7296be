/- Objects and their symbols; a scope's places; what a name means in it: contracts. -/
import Derived.Test.YthammjpadbbflaaLkG
namespace Go.Proofs.Ythammjpadbbflaa
set_option linter.unusedVariables false
set_option linter.unusedSimpArgs false
open Go.Joins Go.ChangeShapes Go.WideShapes Go.ChangeAt Go.RowKit Go.Deep Go.Shelf

/-- an object: its symbols and its relocations -/
structure Ob where
  syms : List Sym
  rels : List (Int × Int)
/-- the slice of address a reads as these relocations -/
def RdR (w : World) (a : Option Addr) (l : List (Int × Int)) : Prop :=
  0 < l.length → ∃ b off, a = some ⟨b, off, none⟩ ∧ b < w.heap.size ∧ ∀ k (h : k < l.length), w.cell? ⟨b, off + k * 2, none⟩ = some (.int .u64 l[k].1) ∧ w.cell? ⟨b, off + k * 2 + 1, none⟩ = some (.int .i64 l[k].2)
theorem RdR.below {w w' : World} {a : Option Addr} {l : List (Int × Int)} (h : RdR w a l) (hb : Below w.heap.size w w') : RdR w' a l := fun hn => by
  obtain ⟨b, off, e, hl, hc⟩ := h hn
  exact ⟨b, off, e, Nat.lt_of_lt_of_le hl hb.size, fun k hk => ⟨(hb.cell (p := ⟨b, off + k * 2, none⟩) hl).trans (hc k hk).1, (hb.cell (p := ⟨b, off + k * 2 + 1, none⟩) hl).trans (hc k hk).2⟩⟩
theorem RdR.at_ {w : World} {a : Option Addr} {l : List (Int × Int)} (h : RdR w a l) {k : Nat} (hk : k < l.length) : ∃ b off, a = some ⟨b, off, none⟩ ∧ b < w.heap.size ∧ w.cell? ⟨b, off + k * 2, none⟩ = some (.int .u64 l[k].1) ∧ w.cell? ⟨b, off + k * 2 + 1, none⟩ = some (.int .i64 l[k].2) := by
  obtain ⟨b, off, e, hl, hc⟩ := h (by omega)
  exact ⟨b, off, e, hl, hc k hk⟩
def ObAt (w : World) (b o : Nat) (x : Ob) : Prop := ∃ sa sc ra rc, w.cell? ⟨b, o + 3, none⟩ = some (.slice sa x.syms.length sc) ∧ w.cell? ⟨b, o + 4, none⟩ = some (.slice ra x.rels.length rc) ∧ RdS w sa x.syms ∧ x.syms.length ≤ sc ∧ RdR w ra x.rels
theorem ObAt.below {w w' : World} {b o : Nat} {x : Ob} (h : ObAt w b o x) (hb : Below w.heap.size w w') : ObAt w' b o x := by
  obtain ⟨sa, sc, ra, rc, h1, h2, h3, h4, h5⟩ := h
  exact ⟨sa, sc, ra, rc, (hb.cell (heap_lt_of_cell h1)).trans h1, (hb.cell (heap_lt_of_cell h2)).trans h2, h3.below hb, h4, h5.below hb⟩
def RdL (w : World) (a : Option Addr) (l : List Ob) : Prop := 0 < l.length → ∃ b off, a = some ⟨b, off, none⟩ ∧ b < w.heap.size ∧ ∀ k (h : k < l.length), ObAt w b (off + k * 7) l[k]
theorem RdL.below {w w' : World} {a : Option Addr} {l : List Ob} (h : RdL w a l) (hb : Below w.heap.size w w') : RdL w' a l := fun hn => by
  obtain ⟨b, off, e, hl, hc⟩ := h hn
  exact ⟨b, off, e, Nat.lt_of_lt_of_le hl hb.size, fun k hk => (hc k hk).below hb⟩
theorem RdL.at_ {w : World} {a : Option Addr} {l : List Ob} (h : RdL w a l) {k : Nat} (hk : k < l.length) : ∃ b off, a = some ⟨b, off, none⟩ ∧ b < w.heap.size ∧ ObAt w b (off + k * 7) l[k] := by
  obtain ⟨b, off, e, hl, hc⟩ := h (by omega)
  exact ⟨b, off, e, hl, hc k hk⟩
/-- few objects, with few symbols of short names -/
def FewO (l : List Ob) : Prop := l.length ≤ 10 ∧ ∀ x ∈ l, x.syms.length ≤ 40 ∧ ∀ s ∈ x.syms, s.name.length < 9223372036854775808
def symsAt (l : List Ob) (k : Nat) : List Sym := match l[k]? with
  | some x => x.syms
  | none => []
theorem symsAt_eq {l : List Ob} {k : Nat} (h : k < l.length) : symsAt l k = l[k].syms := by unfold symsAt; rw [List.getElem?_eq_getElem h]
theorem FewO.at_ {l : List Ob} (h : FewO l) (k : Nat) : (symsAt l k).length ≤ 40 ∧ ∀ s ∈ symsAt l k, s.name.length < 9223372036854775808 := by
  unfold symsAt
  cases e : l[k]? with
  | none => exact ⟨by simp, fun s hs => by simp at hs⟩
  | some x => exact h.2 x (List.mem_of_getElem? e)
/-- where a name is defined: the first one of a scope -/
def inL (l : List Ob) (name ver : List UInt8) : List Nat → Int × Int
  | [] => (-1, -1)
  | k :: r => if 0 ≤ findZ (symsAt l k) name ver 0 then ((k : Int), findZ (symsAt l k) name ver 0) else inL l name ver r
theorem inL_end (l : List Ob) (name ver : List UInt8) (sc : List Nat) (i : Nat) (h : sc.length ≤ i) : inL l name ver (sc.drop i) = (-1, -1) := by rw [List.drop_eq_nil_of_le h]; rfl
theorem inL_hit (l : List Ob) (name ver : List UInt8) (sc : List Nat) (i : Nat) (h : i < sc.length) (hb : 0 ≤ findZ (symsAt l sc[i]) name ver 0) : inL l name ver (sc.drop i) = ((sc[i] : Int), findZ (symsAt l sc[i]) name ver 0) := by
  rw [List.drop_eq_getElem_cons h]
  unfold inL
  rw [if_pos hb]
theorem inL_miss (l : List Ob) (name ver : List UInt8) (sc : List Nat) (i : Nat) (h : i < sc.length) (hb : ¬ 0 ≤ findZ (symsAt l sc[i]) name ver 0) : inL l name ver (sc.drop i) = inL l name ver (sc.drop (i + 1)) := by
  rw [List.drop_eq_getElem_cons h]
  show (if _ then _ else _) = _
  rw [if_neg hb]
/-- numbers of places, as values -/
def ordV (l : List Nat) : List Value := l.map fun (k : Nat) => Value.int .i64 (k : Int)
theorem ordV_len (l : List Nat) : (ordV l).length = l.length := by simp [ordV]
theorem ordV_get (l : List Nat) (k : Nat) (h : k < l.length) : (ordV l)[k]? = some (.int .i64 (l[k] : Int)) := by simp [ordV, h]
def ptrV (l : List Nat) : List Value := l.map fun (B : Nat) => Value.pointer (some ⟨B, 0, none⟩)
theorem ptrV_len (l : List Nat) : (ptrV l).length = l.length := by simp [ptrV]
theorem ptrV_get (l : List Nat) (k : Nat) (h : k < l.length) : (ptrV l)[k]? = some (.pointer (some ⟨l[k], 0, none⟩)) := by simp [ptrV, h]
/-- the places of a scope -/
structure PlsAt (base lo : Nat) (W : World) (a : Option Addr) (l : List Ob) (sc Bs : List Nat) : Prop where
  len : Bs.length = sc.length
  nd : Bs.Nodup
  rd : Rd W a sc.length (ptrV Bs)
  pl : ∀ k (h : k < sc.length), PlaceAt base lo W (Bs[k]'(by omega)) (sc[k] : Int) (symsAt l sc[k])
  lo : lo ≤ W.heap.size
theorem PlaceAt.box {base lo : Nat} {W : World} {B : Nat} {obj : Int} {l : List Sym} (h : PlaceAt base lo W B obj l) : base ≤ B ∧ B < lo ∧ ∃ u1 u2 u3 u4 u5 a n c a' n' c' : _, BoxN W B #[.int .i64 obj, .slice a n c, .int .u32 u3, .int .i32 u4, .int .u32 u5, .slice a' n' c'] ∧ u1 = () ∧ u2 = () := by
  obtain ⟨d, h1, h2, sa, sc, tb, h3, -, -, -, h7⟩ := h
  have ht : ∃ a' n' c', tb = .slice a' n' c' := by
    rcases h7 with ⟨-, rfl⟩ | ⟨-, h⟩
    · exact ⟨_, _, _, rfl⟩
    · unfold TabAt at h
      split at h
      · exact ⟨_, _, _, h⟩
      · obtain ⟨T, c, Bk, C, rfl, -⟩ := h
        exact ⟨_, _, _, rfl⟩
  obtain ⟨a', n', c', rfl⟩ := ht
  exact ⟨h1, h2, (), (), _, _, _, _, _, _, _, _, _, h3, rfl, rfl⟩
theorem PlsAt.row_ne {base lo : Nat} {W : World} {a : Option Addr} {l : List Ob} {sc Bs : List Nat} (h : PlsAt base lo W a l sc Bs) {b off : Nat} (hn : 0 < sc.length) (e : a = some ⟨b, off, none⟩) (k : Nat) (hk : k < sc.length) : b ≠ Bs[k]'(by have := h.len; omega) := fun q => by
  obtain ⟨b', off', e', -, hc⟩ := h.rd.2 hn
  rw [e] at e'
  cases e'
  have h0 := hc 0 hn
  rw [ptrV_get Bs 0 (by have := h.len; omega)] at h0
  obtain ⟨-, -, _, _, _, _, _, _, _, _, _, _, _, hx, -, -⟩ := (h.pl k hk).box
  rw [← q] at hx
  have hy := (hx.cell (off + 0)).symm.trans h0
  rcases off with _ | _ | _ | _ | _ | _ | off <;> simp at hy
theorem PlsAt.step {base lo : Nat} {W W' : World} {a : Option Addr} {l : List Ob} {sc Bs : List Nat} (h : PlsAt base lo W a l sc Bs) (k : Nat) (hk : k < sc.length) (hp : PlaceAt base lo W' (Bs[k]'(by have := h.len; omega)) (sc[k] : Int) (symsAt l sc[k])) (hkp : KP W.heap.size (· = Bs[k]'(by have := h.len; omega)) W W') : PlsAt base lo W' a l sc Bs := by
  have hlen := h.len
  obtain ⟨hb1, hb2, -⟩ := (h.pl k hk).box
  refine ⟨h.len, h.nd, hkp.rd h.rd fun b off h0 e => ⟨?_, h.row_ne h0 e k hk⟩, fun j hj => ?_, Nat.le_trans h.lo hkp.size⟩
  · obtain ⟨b', off', e', hl, -⟩ := h.rd.2 h0
    rw [e] at e'; cases e'; exact hl
  · by_cases hjk : j = k
    · subst hjk; exact hp
    · refine (h.pl j hj).kp hkp (Nat.le_refl _) (fun q => ?_) (fun b hb q => ?_) (fun b hb q => ?_)
      · rcases Nat.lt_or_gt_of_ne hjk with hl | hl
        · exact List.pairwise_iff_getElem.1 h.nd j k (by omega) (by omega) hl q
        · exact List.pairwise_iff_getElem.1 h.nd k j (by omega) (by omega) hl (Eq.symm q)
      · have : b = Bs[k] := q; omega
      · have : b = Bs[k] := q; omega
theorem PlsAt.below {base lo : Nat} {W W' : World} {a : Option Addr} {l : List Ob} {sc Bs : List Nat} (h : PlsAt base lo W a l sc Bs) (hb : Below W.heap.size W W') : PlsAt base lo W' a l sc Bs :=
  ⟨h.len, h.nd, h.rd.below hb, fun k hk => (h.pl k hk).kp (kp_of_below (S := fun _ => False) hb (Nat.le_refl _)) (Nat.le_refl _) id (fun _ _ => id) (fun _ _ => id), Nat.le_trans h.lo hb.size⟩
theorem below_kp {n m : Nat} {S : Nat → Prop} {A B C : World} (h : Below n A B) (k : KP m S B C) (hn : n ≤ m) (hS : ∀ b, b < n → ¬ S b) : Below n A C :=
  h.trans ⟨k.os, k.tape, k.output, k.size, fun b hb => k.block b (by omega) (hS b hb)⟩
set_option maxHeartbeats 1000000 in
set_option maxRecDepth 100000 in
theorem psfind_any (base lo : Nat) (w : World) (a : Option Addr) (c : Nat) (l : List Ob) (sc Bs : List Nat) (name ver : List UInt8) (h : PlsAt base lo w a l sc Bs) (hf : FewO l) (hsc : sc.length ≤ 100) (hname : name.length < 9223372036854775808) :
    Calls Try.prog 31 #[.slice a sc.length c, .string ⟨name.toArray⟩, .string ⟨ver.toArray⟩] w fun e w' => e = .returned (.tuple #[.int .i64 (inL l name ver sc).1, .int .i64 (inL l name ver sc).2]) ∧ PlsAt base lo w' a l sc Bs ∧ Below base w w' := by
  have HP := Lib.hid h
  have HF := Lib.hid hf
  have HC := Lib.hid (fun W (B : Nat) (obj : Int) (k : Nat) (hW : PlaceAt base lo W B obj (symsAt l k)) (hl : lo ≤ W.heap.size) => pfind_any base lo W B obj (symsAt l k) name ver hW hl (hf.at_ k).1 (hf.at_ k).2 hname)
  obtain ⟨r1, r2, hr⟩ : ∃ r1 r2, inL l name ver sc = (r1, r2) := ⟨_, _, rfl⟩
  have HR := Lib.hid (show inL l name ver (sc.drop 0) = (r1, r2) by simpa using hr)
  rw [hr]
  obtain ⟨n, hn⟩ : ∃ n, sc.length = n := ⟨_, rfl⟩
  have HN := Lib.hid hn
  rw [hn] at hsc ⊢
  clear h hf hr hn
  go_enter Try.func31, Try.ntmps31
  go_wp2_with fail
  go_loopw [13] (fun i wr => ∃ k : Nat, i = .int .i64 k ∧ k ≤ n ∧ Hid (inL l name ver (sc.drop k) = (r1, r2)) ∧ Hid (PlsAt base lo wr a l sc Bs) ∧ Hid (Below base w wr)) (fun i _ => n - (intOf i).toNat)
  case atStart => exact ⟨0, rfl, by omega, HR, HP, Lib.hid (Below.refl _ _)⟩
  case round =>
    obtain ⟨k, rfl, hk, HRK, HPK, HB⟩ := hrel
    by_cases hlt : k < n
    · have hkl : k < sc.length := by rw [HN.out]; exact hlt
      have hkb : k < Bs.length := by rw [HPK.out.len]; exact hkl
      obtain ⟨g, off, hae, -, hc⟩ := HPK.out.rd.at_ hkl
      subst hae
      rw [ptrV_get Bs k hkb] at hc
      have hpl := HPK.out.pl k hkl
      have hst := fun W' => HPK.out.step (W' := W') k hkl
      have hhit := inL_hit l name ver sc k hkl
      have hmis := inL_miss l name ver sc k hkl
      obtain ⟨B, hB⟩ : ∃ B, Bs[k] = B := ⟨_, rfl⟩
      obtain ⟨o, ho⟩ : ∃ o, sc[k] = o := ⟨_, rfl⟩
      simp only [hB, ho] at hc hpl hst hhit hmis
      obtain ⟨hb1, hb2, -⟩ := hpl.box
      have HCC := Lib.hid (HC.out wr B o o hpl HPK.out.lo)
      have HST := Lib.hid hst
      obtain ⟨r, hr⟩ : ∃ r, findZ (symsAt l o) name ver 0 = r := ⟨_, rfl⟩
      rw [hr] at HCC hhit hmis
      have HHI := Lib.hid hhit
      have HMI := Lib.hid hmis
      have kk0 : (0 : Int) ≤ (k : Int) := by omega
      have kk1 : (k : Int) < (n : Int) := by omega
      clear hpl hst hB ho hr hkl hkb hhit hmis
      go_wp2_with fail
      refine HCC.out.mono ?_; rintro e w' ⟨rfl, hp', hk'⟩
      have HP' := Lib.hid (HST.out w' hp' hk')
      have HB' := Lib.hid (below_kp HB.out hk' (Nat.le_trans (Nat.le_trans hb1 (Nat.le_of_lt hb2)) HPK.out.lo) (fun b hb q => by have : b = B := q; omega))
      obtain ⟨-, -, _, _, _, _, _, _, _, _, _, _, _, hx, -, -⟩ := hp'.box
      have x0 := hx.cell 0
      have x0 : w'.cell? ⟨B, 0, none⟩ = some (.int .i64 (o : Int)) := x0
      clear hp' hk' hx
      by_cases hr0 : 0 ≤ r
      · have hrd : decide (0 ≤ r) = true := decide_eq_true hr0
        have he := (HHI.out hr0).symm.trans HRK.out
        have he1 : (o : Int) = r1 := congrArg Prod.fst he
        have he2 : r = r2 := congrArg Prod.snd he
        have HE1 := Lib.hid he1
        have HE2 := Lib.hid he2
        clear he he1 he2
        go_wp2_with fail
        go_ret2
        exact ⟨by rw [← HE1.out, ← HE2.out]; rfl, HP'.out, HB'.out⟩
      · have hrd : decide (0 ≤ r) = false := decide_eq_false hr0
        have HK2 := Lib.hid ((HMI.out (by omega)).symm.trans HRK.out)
        go_wp2_with fail
        go_roundw
        case rel => exact ⟨k + 1, by go_num, by omega, HK2, HP', HB'⟩
        case measure => simp [intOf]; omega
    · have he := (inL_end l name ver sc k (by rw [HN.out]; omega)).symm.trans HRK.out
      have he1 : (-1 : Int) = r1 := congrArg Prod.fst he
      have he2 : (-1 : Int) = r2 := congrArg Prod.snd he
      subst he1
      subst he2
      clear he
      go_wp2_with fail
      go_ret2
      exact ⟨rfl, HPK.out, HB.out⟩
set_option maxHeartbeats 1000000 in
theorem knows_any (base lo : Nat) (w : World) (a : Option Addr) (c : Nat) (l : List Ob) (sc Bs : List Nat) (name : List UInt8) (h : PlsAt base lo w a l sc Bs) (hf : FewO l) (hsc : sc.length ≤ 100) (hname : name.length < 9223372036854775808) :
    Calls Try.prog 33 #[.slice a sc.length c, .string ⟨name.toArray⟩] w fun e w' => e = .returned (.bool (decide (0 ≤ (inL l name [] sc).1))) ∧ PlsAt base lo w' a l sc Bs ∧ Below base w w' := by
  have HC := Lib.hid (psfind_any base lo w a c l sc Bs name [] h hf hsc hname)
  obtain ⟨r1, r2, hr⟩ : ∃ r1 r2, inL l name [] sc = (r1, r2) := ⟨_, _, rfl⟩
  rw [hr] at HC ⊢
  generalize sc.length = n at *
  go_enter Try.func33, Try.ntmps33
  go_wp2_with fail
  refine HC.out.mono ?_; rintro e w' ⟨rfl, hp', hb'⟩
  have HP' := Lib.hid hp'
  have HB' := Lib.hid hb'
  clear hp' hb'
  go_wp2_with fail
  go_ret
  exact ⟨rfl, HP'.out, HB'.out⟩
end Go.Proofs.Ythammjpadbbflaa
