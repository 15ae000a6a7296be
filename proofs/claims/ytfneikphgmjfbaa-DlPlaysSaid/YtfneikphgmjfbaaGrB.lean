/- places: a map of where names are found: contract. -/
import Derived.Test.YtfneikphgmjfbaaGrA
import Derived.Maps.OwnSet
namespace Go.Proofs.Ytfneikphgmjfbaa
set_option linter.unusedVariables false
set_option linter.unusedSimpArgs false
open Go.Joins Go.ChangeShapes Go.WideShapes Go.ChangeAt Go.RowKit

theorem keyed : Maps.Keyed Try.prog 9 := Maps.string_keyed Try.underlying9
theorem zeroInt (w : World) : (zeroValue 3).run Try.prog w = .ok (.int .i64 0) w := by kernel_rfl
/-- the map says of each name where the first object with it stands, and whether there is one -/
def MapSays (D : DataW Unit) (l : List Obj) : Prop :=
  ∀ name : List UInt8, D.atKey (.string name) (.lit (.int .i64 0)) = .lit (.int .i64 (((fidx l name).getD 0 : Nat) : Int)) ∧ Maps.has D (.string name) = (fidx l name).isSome
/-- block b of w is such a map -/
def PlacesAt (w : World) (b : Nat) (l : List Obj) : Prop :=
  ∃ n D, w.ownsMap (H := Unit) Try.prog 9 (plainElem Try.prog 3) b n D ∧ n ≤ l.length ∧ MapSays D l
theorem PlacesAt.lt {w : World} {b : Nat} {l : List Obj} (h : PlacesAt w b l) : b < w.heap.size := by obtain ⟨n, D, ho, _⟩ := h; exact ho.lt
theorem PlacesAt.block {w w' : World} {b : Nat} {l : List Obj} (h : PlacesAt w b l) (hb : w'.heap[b]? = w.heap[b]?) : PlacesAt w' b l := by
  obtain ⟨n, D, ⟨es, clock, h1, r⟩, hn, hs⟩ := h
  exact ⟨n, D, ⟨es, clock, hb.trans h1, r⟩, hn, hs⟩
theorem PlacesAt.below {w w' : World} {b : Nat} {l : List Obj} (h : PlacesAt w b l) (hb : Below w.heap.size w w') : PlacesAt w' b l := h.block (hb.block b h.lt)
theorem fidx_snoc (l : List Obj) (o : Obj) (name : List UInt8) : fidx (l ++ [o]) name = match fidx l name with
    | some k => some k
    | none => if (o.name == name) = true then some l.length else none := by
  unfold fidx
  rw [List.findIdx?_append]
  cases h : l.findIdx? (fun x => x.name == name) with
  | some k => simp
  | none => by_cases hb : (o.name == name) = true <;> simp [List.findIdx?_cons, hb]
theorem MapSays.keep {D : DataW Unit} {l : List Obj} {o : Obj} (h : MapSays D l) (hi : (fidx l o.name).isSome = true) : MapSays D (l ++ [o]) := by
  intro name
  rw [fidx_snoc]
  cases hf : fidx l name with
  | some k => have := h name; rw [hf] at this; exact this
  | none =>
    have hne : ¬ (o.name == name) = true := by
      intro e
      rw [beq_iff_eq] at e
      rw [e, hf] at hi
      cases hi
    have := h name
    rw [hf] at this
    rw [if_neg hne]
    exact this
theorem MapSays.put {D : DataW Unit} {l : List Obj} {o : Obj} (h : MapSays D l) (hm : Maps.IsMap D) (hk : WideAt.IsKeyLit (.string o.name)) (hi : fidx l o.name = none) : MapSays (D.put (.string o.name) (.lit (.int .i64 (l.length : Int)))) (l ++ [o]) := by
  intro name
  rw [fidx_snoc]
  by_cases e : o.name = name
  · subst e
    rw [hi, Maps.atKey_put_same hm hk, Maps.has_put_same hm hk]
    simp
  · have hne : (Lit.string name) ≠ Lit.string o.name := fun q => e (by injection q with q; exact q.symm)
    rw [Maps.atKey_put_other hne, Maps.has_put_other hne]
    have hx : ¬ (o.name == name) = true := by rw [beq_iff_eq]; exact e
    cases hf : fidx l name with
    | some k => have := h name; rw [hf] at this; exact this
    | none => have := h name; rw [hf] at this; rw [if_neg hx]; exact this
theorem mapSays_nil : MapSays (.map []) [] := fun name => ⟨rfl, rfl⟩
theorem key_of (name : List UInt8) (h : name.length ≤ maxLen) : keyOf Try.prog 9 (.string ⟨name.toArray⟩) = some (.string name) := by
  have := WideMaps.keyOf_string_mk (P := Try.prog) Try.underlying9 (s := ⟨name.toArray⟩) (by show name.toArray.size ≤ maxLen; simpa using h)
  simpa using this
theorem run_makeMap_n (n : Nat) (w : World) : (Instr.makeMap 74 (some (.int .i64 (n : Int)))).run Try.prog w = .ok (.map (some w.heap.size)) (w.alloc (.map #[] 0)) := by
  unfold Instr.makeMap
  simp [Sem.run_bind, run_underlying Try.underlying74, go_sem]
set_option maxHeartbeats 1000000 in
theorem places_any (a : Option Addr) (l : List Obj) (c : Nat) (w : World) (hl : RdO w a l) (hm : l.length ≤ 1000000) (hnm : ∀ o ∈ l, o.name.length ≤ maxLen) :
    Calls Try.prog 44 #[.slice a l.length c] w fun e w' => ∃ b, e = .returned (.map (some b)) ∧ PlacesAt w' b l ∧ w.heap.size ≤ b ∧ Below w.heap.size w w' := by
  have HL := Lib.hid hl
  have HNM := Lib.hid hnm
  clear hl hnm
  generalize hlm : l.length = m at *
  have HLM := Lib.hid hlm
  clear hlm
  have hmm := run_makeMap_n m w
  go_enter Try.func44, Try.ntmps44
  go_wp2_with fail
  clear hmm
  go_loopw [13] (fun i wr => ∃ k : Nat, k ≤ m ∧ i = .int .i64 k ∧ Hid (PlacesAt wr w.heap.size (l.take k)) ∧ Hid (Below w.heap.size w wr)) (fun i _ => m - (intOf i).toNat)
  case atStart => exact ⟨0, by omega, rfl, Lib.hid ⟨0, .map [], World.ownsMap_made _ _ _ _, Nat.le_refl _, by simpa using mapSays_nil⟩, Lib.hid (bAlloc (Below.refl _ _) _)⟩
  case round =>
    obtain ⟨k, hk, rfl, HP, HB⟩ := hrel
    by_cases h : k < m
    · have hkl : k < l.length := by rw [HLM.out]; exact h
      obtain ⟨B, o, rfl, hc⟩ := (HL.out.below HB.out).at_ hkl
      have hnm := HNM.out _ (List.getElem_mem hkl)
      have htk : l.take (k + 1) = l.take k ++ [l[k]] := List.take_succ_eq_append_getElem hkl
      obtain ⟨x, hx⟩ : ∃ x, l[k] = x := ⟨_, rfl⟩
      rw [hx] at hc hnm htk
      have HTK := Lib.hid htk
      have hkey := key_of x.name hnm
      have HKEY := Lib.hid hkey
      obtain ⟨n, D, hown, hnl, hsay⟩ := HP.out
      have hlen : (l.take k).length = k := by rw [List.length_take]; omega
      have hsz := HB.out.size
      have hhas := (hsay x.name).2
      have HSAY := Lib.hid hsay
      have HNL := Lib.hid hnl
      have HOWN := Lib.hid hown
      have HLEN := Lib.hid hlen
      obtain ⟨h0, h1, h2, h3, h4, h5, h6⟩ := hc
      clear hx htk hkey hsay hnl hown hlen hnm
      by_cases hf : (fidx (l.take k) x.name).isSome = true
      · rw [hf] at hhas
        have HH := Lib.hid hhas
        have HF := Lib.hid hf
        clear hhas hf
        go_wp2_with (at_lookup; refine wpList_lookup_own_ok_int (H := Unit) _ rfl _ _ 74 rfl 9 3 .i64 keyed Try.underlying74 Try.underlying3 (zeroInt _) w.heap.size n D rfl (HOWN.out.alloc _) _ _ rfl HKEY.out ?_; intro cc hat hwc; rw [HH.out]; clear hat)
        go_roundw
        case rel => exact ⟨k + 1, by omega, by go_num, Lib.hid ⟨n, D, HOWN.out.alloc _, by rw [HTK.out, List.length_append]; have := HNL.out; omega, by rw [HTK.out]; exact HSAY.out.keep HF.out⟩, Lib.hid (bAlloc HB.out _)⟩
        case measure => simp [intOf]; omega
      · have hfn : fidx (l.take k) x.name = none := by cases hq : fidx (l.take k) x.name with
          | none => rfl
          | some q => rw [hq] at hf; exact absurd rfl hf
        rw [hfn] at hhas
        have HH := Lib.hid hhas
        have HF := Lib.hid hfn
        clear hhas hf hfn
        go_wp2_with (first
          | (at_lookup; refine wpList_lookup_own_ok_int (H := Unit) _ rfl _ _ 74 rfl 9 3 .i64 keyed Try.underlying74 Try.underlying3 (zeroInt _) w.heap.size n D rfl (HOWN.out.alloc _) _ _ rfl HKEY.out ?_; intro cc hat hwc; rw [HH.out]; clear hat)
          | (at_mapUpdate; refine wpList_mapUpdate_own _ rfl _ _ _ 74 rfl 9 3 keyed Try.underlying74 _ w.heap.size n D rfl (HOWN.out.alloc _) (by unfold maxLen; have := HNL.out; have := HLEN.out; omega) _ _ _ rfl rfl HKEY.out (.lit (.int .i64 (k : Int))) [] (plainElem_int Try.underlying3 (WalkArith.wf_i64 (by omega))) ?_; intro w1 hown1 hgrow1))
        go_roundw
        case rel => exact ⟨k + 1, by omega, by go_num, Lib.hid ⟨n + 1, _, hown1, by rw [HTK.out, List.length_append]; have := HNL.out; show n + 1 ≤ _ + 1; omega, by rw [HTK.out]; have := HSAY.out.put (o := x) HOWN.out.isMap trivial HF.out; rw [HLEN.out] at this; exact this⟩, Lib.hid ((bAlloc HB.out _).grown hgrow1 (by rw [size_alloc]; omega) (fun q hq => by cases hq; exact Nat.le_refl _))⟩
        case measure => simp [intOf]; omega
    · obtain rfl : k = m := by omega
      have htk : l.take k = l := List.take_of_length_le (by rw [HLM.out]; exact Nat.le_refl _)
      have hp := HP.out
      rw [htk] at hp
      have HP2 := Lib.hid hp
      clear htk hp
      go_wp2_with fail
      go_ret
      exact ⟨_, rfl, HP2.out, Nat.le_refl _, HB.out⟩
end Go.Proofs.Ytfneikphgmjfbaa
