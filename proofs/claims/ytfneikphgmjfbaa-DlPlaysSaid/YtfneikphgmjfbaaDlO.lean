/- Calls as they come in; the document's Needed; DlNeeded: its walk. -/
import Derived.Test.YtfneikphgmjfbaaDlN
import Derived.Test.YtfneikphgmjfbaaGrP
namespace Go.Proofs.Ytfneikphgmjfbaa
set_option linter.unusedVariables false
set_option linter.unusedSimpArgs false
open Go.Joins Go.ChangeShapes Go.WideShapes Go.ChangeAt Go.RowKit Go.Deep

theorem opCells : Try.prog.cellsOf 37 = 2 := by kernel_rfl
section
variable {H : Type} {enc : TypeId × Value → H}
theorem two_of {P : Program} {w : World} {base fuel : Nat} {spare : Nat → Bool} {held : Bool} {t : TypeId} {f0 f1 : Field} {cs : List Value} {x : DataW H × List MemPlace}
    (hs : P.underlying t = some (.struct #[f0, f1])) (hone : oneCellFields P #[f0, f1] = true) (hC : P.cellsOf t = 2) (h : DataW.trod enc P w base spare held fuel t cs = some x) :
    ∃ (v0 v1 : Value) (y0 y1 : DataW H × List MemPlace) (n : Nat), cs = [v0, v1] ∧ DataW.trod enc P w base spare held n f0.type [v0] = some y0 ∧ DataW.trod enc P w base spare held n f1.type [v1] = some y1 := by
  obtain ⟨xs, n, _, hx, hcl, hlen, hg⟩ := DataW.trod_struct hs h
  match cs, hcl.trans hC with
  | [c0, c1], _ =>
    obtain ⟨o0, k0⟩ := hone_of hone 0 f0 rfl
    obtain ⟨o1, k1⟩ := hone_of hone 1 f1 rfl
    match xs, hlen with
    | [y0, y1], _ =>
      exact ⟨c0, c1, y0, y1, n, rfl, by simpa [o0, k0] using hg 0 f0 rfl, by simpa [o1, k1] using hg 1 f1 rfl⟩
/-- a slice of calls as it comes in -/
theorem open_ops {W : World} {v : Value} {d : DataW H} {p : List MemPlace} {a0 : Option Addr} {len cap : Nat} (hv : v = .slice a0 len cap)
    (h : DataW.Trod enc Try.prog W 0 (fun _ => true) true 23 v d p) :
    ∃ l : List (Bool × List UInt8), l.length = len ∧ RdP W a0 l ∧ (∀ o ∈ l, o.2.length ≤ maxLen) ∧ len ≤ maxLen := by
  subst hv
  obtain ⟨fuel, hf⟩ := h
  rcases open_slice Try.underlying23 hf with ⟨hcs, -⟩ | ⟨a, len', cap', m, n, D, Pl, hcs, -, hl, hm, hmm, -, hi⟩
  · simp [Value.cells] at hcs
    obtain ⟨rfl, rfl, rfl⟩ := hcs
    exact ⟨[], rfl, fun h => absurd h (by simp), by simp, Nat.zero_le _⟩
  · simp [Value.cells] at hcs
    obtain ⟨rfl, rfl, rfl⟩ := hcs
    simp only [if_true] at hmm
    subst hmm
    rw [opCells] at hi
    obtain ⟨l, hll, hq⟩ := list_of (n := len) (Q := fun i (o : Bool × List UInt8) => W.cells? 0 (a.add (i * 2)) 2 = some [.bool o.1, .string ⟨o.2.toArray⟩] ∧ o.2.length ≤ maxLen) fun i hin => by
      obtain ⟨cs', hc, ht⟩ := hi i (by omega)
      obtain ⟨v0, v1, y0, y1, n, rfl, h0, h1⟩ := two_of Try.underlying37 (by kernel_rfl) opCells ht
      obtain ⟨q, e0, -⟩ := DataW.trod_bool Try.underlying4 h0
      cases e0
      obtain ⟨nm, e1, -, k0⟩ := DataW.trod_string Try.underlying9 h1
      cases e1
      exact ⟨(q, nm.data.toList), by simp only [bytes_eta]; exact hc, by simpa using k0⟩
    refine ⟨l, hll, fun h0 => ?_, fun o ho => ?_, by omega⟩
    · obtain ⟨b, off, spot⟩ := a
      have hcell : ∀ i (hi : i < l.length) j, j < 2 → W.cell? ((⟨b, off, spot⟩ : Addr).add (i * 2 + j)) = ([Value.bool l[i].1, .string ⟨l[i].2.toArray⟩])[j]? := fun i hi' j hj => by
        obtain ⟨hc, -⟩ := hq i hi'
        obtain ⟨_, hcl, hat⟩ := World.cells?_some hc
        have := hat j hj
        rwa [Go.Deep.add_add] at this
      have c0' : W.cell? ((⟨b, off, spot⟩ : Addr).add (0 * 2 + 0)) = some (.bool l[0].1) := hcell 0 h0 0 (by decide)
      have hspot : spot = none := by simpa [Addr.add] using World.cell?_spot c0'
      subst hspot
      refine ⟨b, off, rfl, fun k hk => ?_⟩
      have g : ∀ j, j < 2 → W.cell? ⟨b, off + k * 2 + j, none⟩ = ([Value.bool l[k].1, .string ⟨l[k].2.toArray⟩])[j]? := fun j hj => by
        have := hcell k hk j hj
        rw [add_plain] at this
        rw [Nat.add_assoc]; exact this
      exact ⟨g 0 (by decide), g 1 (by decide)⟩
    · obtain ⟨i, hi', rfl⟩ := List.getElem_of_mem ho
      exact (hq i hi').2
end
set_option maxHeartbeats 2000000 in
theorem rneeded_any (a : Option Addr) (l : List Obj) (c : Nat) (b : Option Addr) (op : List Nat) (d k0 : Nat) (w : World) (hl : RdO w a l) (hm : l.length ≤ 100) (hnm : Named l) (ho : Rd w b op.length (i64s (ordZ op))) (hop : ∀ k ∈ op, k < l.length) (hon : op.length ≤ 100000) :
    Calls Try.prog 24 #[.slice a l.length c, .slice b op.length d, .int .i64 (k0 : Int)] w fun e w' => e = .returned (.bool (needP l op k0)) ∧ Below w.heap.size w w' := by
  have HL := Lib.hid hl
  have HO := Lib.hid ho
  have HOP := Lib.hid hop
  have HRE := Lib.hid (fun s W (hW : RdO W a l) (h : s < l.length) => rreach_any a l c s W hW (by omega) hnm h)
  obtain ⟨r, hr⟩ : ∃ r, needP l op k0 = r := ⟨_, rfl⟩
  rw [hr]
  have HR := Lib.hid hr
  clear hl ho hop hnm hr
  obtain ⟨n, hn⟩ : ∃ n, op.length = n := ⟨_, rfl⟩
  obtain ⟨ml, hml⟩ : ∃ n, l.length = n := ⟨_, rfl⟩
  rw [hn] at HO hon ⊢
  rw [hml] at hm HRE ⊢
  have HN := Lib.hid hn
  have HML := Lib.hid hml
  clear hn hml
  go_enter Try.func24, Try.ntmps24
  go_wp2_with fail
  go_loopw [7] (fun i wr => ∃ k : Nat, k ≤ n ∧ i = .int .i64 k ∧ Hid (∀ j, j < k → ∀ p, op[j]? = some p → ¬ RE l p k0) ∧ Hid (Below w.heap.size w wr)) (fun i _ => n - (intOf i).toNat)
  case atStart => exact ⟨0, by omega, rfl, Lib.hid (fun j h => by omega), Lib.hid (Below.refl _ _)⟩
  case round =>
    obtain ⟨k, hk, rfl, HK, HB⟩ := hrel
    by_cases hlt : k < n
    · have hkl : k < op.length := by rw [HN.out]; exact hlt
      obtain ⟨g, off, rfl, -, hc⟩ := (HO.out.below HB.out).at_ hlt
      rw [ordZ_get op k hkl] at hc
      have hp0 := List.getElem?_eq_getElem hkl
      have hmem := List.getElem_mem hkl
      obtain ⟨s, hs⟩ : ∃ s, op[k] = s := ⟨_, rfl⟩
      rw [hs] at hc hp0 hmem
      have HP0 := Lib.hid hp0
      have HMS := Lib.hid hmem
      have hsl := HOP.out s hmem
      have HSL := Lib.hid hsl
      have HRS := Lib.hid (HRE.out s wr (HL.out.below HB.out) (by rw [← HML.out]; exact hsl))
      clear hs hp0 hmem hsl
      go_wp2_with fail
      refine HRS.out.mono ?_; rintro e w3 ⟨a3, c3, o3, rfl, hr3, hs3, hm3, hb3⟩
      have hl3 : o3.length ≤ 9223372036854775807 := by
        have := nodup_le l.length o3 (hs3.imp fun {a b} h => by omega) fun k hk => by
          have hre := (hm3 k).1 hk
          cases hre with
          | refl => exact HSL.out
          | step _ hj => exact (by
              unfold needsI at hj
              obtain ⟨u, -, hu⟩ := List.mem_map.1 hj
              exact fidx_lt hu)
        have := HML.out
        omega
      have HHA := Lib.hid (has_any a3 (ordZ o3) o3.length c3 (k0 : Int) w3 hr3 hl3)
      rw [ordZ_contains] at HHA
      have HB3 := Lib.hid (bTrans HB.out hb3)
      obtain ⟨q, hq⟩ : ∃ q, o3.contains k0 = q := ⟨_, rfl⟩
      rw [hq] at HHA
      have HQ := Lib.hid (show q = true ↔ RE l s k0 by rw [← hq, List.contains_iff_mem]; exact hm3 k0)
      clear hr3 hs3 hm3 hb3 hl3 hq
      generalize o3.length = n3 at *
      go_wp2_with fail
      refine HHA.out.mono ?_; rintro e w4 ⟨rfl, rfl⟩
      cases q with
      | true =>
        have HT := Lib.hid (show true = r by rw [← HR.out]; exact ((needP_iff _ _ _).2 ⟨s, HMS.out, HQ.out.1 rfl⟩).symm)
        go_wp2_with fail
        go_ret
        exact ⟨ret_bool HT.out, HB3.out⟩
      | false =>
        go_wp2_with fail
        go_roundw
        case rel => exact ⟨k + 1, by omega, by go_num, Lib.hid (fun j hj p hp hre => by
          rcases Nat.lt_or_ge j k with h1 | h1
          · exact HK.out j h1 p hp hre
          · obtain rfl : j = k := by omega
            rw [HP0.out] at hp
            cases hp
            exact Bool.false_ne_true (HQ.out.2 hre)), HB3⟩
        case measure => simp [intOf]; omega
    · have HF := Lib.hid (show false = r by
        rw [← HR.out]
        cases h : needP l op k0 with
        | false => rfl
        | true =>
          obtain ⟨p, hp, hre⟩ := (needP_iff _ _ _).1 h
          obtain ⟨j, hj, rfl⟩ := List.getElem_of_mem hp
          exact absurd hre (HK.out j (by have := HN.out; omega) _ (List.getElem?_eq_getElem hj)))
      go_wp2_with fail
      go_ret
      exact ⟨ret_bool HF.out, HB.out⟩
end Go.Proofs.Ytfneikphgmjfbaa
