/- AsmJoin: the law's walk. -/
import Derived.Test.YtdpmihlmfephiaaGreatDoorAe3
namespace Go.Proofs.YtdpmihlmfephiaaGreatDoor
set_option linter.unusedVariables false
set_option linter.unusedSimpArgs false
open Go.Joins Go.ChangeShapes Go.WideShapes Go.ChangeAt Go.RowKit Go.Deep

theorem wpList_appG {P : Program} (sl el : TypeId) (z : Value) (k bytes : Nat) (hu : P.underlying sl = some (.slice el)) (hinfo : (P.info? el).map (fun i => (i.zero, i.size, i.bytes)) = some (some z, k, bytes)) (hzs : z.cells.size = k) (hk : 0 < k) (hby : bytes ≤ 1000)
    (w : World) {ops : Array Oper} {rest : List Oper} {o : Oper} {a : Act} {Q : Exit → Act → World → Prop} (hw : Region.wanted o (yielded ops a.tmps) = true) (s x : Operand) (ho : o.op = .call { callee := .builtin .append, args := #[s, x], argTypes := #[sl, sl] })
    (B : Nat) (v : Value) (n : Nat) (xs : List Value) (hs : a.eval s = v) (hown : w.ownsRow B el k v n xs) (am : Option Addr) (m c : Nat) (ys : List Value) (hx : a.eval x = .slice am m c) (hr : Rd w am (m * k) ys) (hone : ∀ u ∈ ys, u.oneCell' = true) (hnm : n + m ≤ 1000000) (hB : B ≤ w.heap.size)
    (h : ∀ a' c' w', w'.ownsRow B el k (.slice a' (n + m) c') (n + m) (xs ++ ys) → w.grownBy w' v.ownBlock → ((Value.slice a' (n + m) c').ownBlock = v.ownBlock ∨ (Value.slice a' (n + m) c').ownBlock = some w.heap.size) → wpList P ops Q rest (a.put o.dst (.slice a' (n + m) c')) w') : wpList P ops Q (o :: rest) a w := by
  refine wpList_step fun K hK => ?_
  rw [if_pos hw]
  obtain ⟨a', c', w', hrun, h2, h3, h4⟩ := run_appE sl el z k bytes hu hinfo hzs hk hby w o.type B v n xs hown am m c ys hr hone hnm hB
  unfold Oper.wp execOp
  simp only [ho, resolve, invoke, builtin, Sem.run_bind, Sem.run_pure, Result.andThen_ok, List.map_toArray, List.map_cons, List.map_nil, hs, hx, hrun]
  exact hK _ _ (h a' c' w' h2 h3 h4)
set_option maxRecDepth 100000 in
set_option maxHeartbeats 4000000 in
theorem AsmJoin_walk (s t : List UInt8) (w : World) (hn : NA w) :
    Calls Tryz.prog 11 #[.string ⟨s.toArray⟩, .string ⟨t.toArray⟩] w fun e w' => e = .returned (.bool true) ∧ Below w.heap.size w w' := by
  have HAW := Lib.hid (awake_any w hn)
  have HN := Lib.hid hn
  have hsz : (⟨s.toArray⟩ : ByteArray).size = s.length := mk_size s
  have htz : (⟨t.toArray⟩ : ByteArray).size = t.length := mk_size t
  obtain ⟨n, hnl⟩ : ∃ n, s.length = n := ⟨_, rfl⟩
  obtain ⟨m, hml⟩ : ∃ m, t.length = m := ⟨_, rfl⟩
  rw [hnl] at hsz
  rw [hml] at htz
  by_cases hl : 700 < n
  · have hli : (700 : Int) < (n : Int) := by omega
    have hd : decide ((700 : Int) < (n : Int)) = true := decide_eq_true hli
    have hd2 : decide (700 < n) = true := decide_eq_true hl
    clear hn hnl hml
    go_enter Tryz.func11, Tryz.ntmps11
    go_wp2_with (go_at_call 12; refine HAW.out.mono ?_; rintro e w1 ⟨rfl, hb⟩; have HB1 := Lib.hid hb; clear hb)
    go_ret
    exact ⟨rfl, HB1.out⟩
  have hli : ¬ (700 : Int) < (n : Int) := by omega
  have hd : decide ((700 : Int) < (n : Int)) = false := decide_eq_false hli
  have hd2 : decide (700 < n) = false := decide_eq_false hl
  by_cases hk : 700 < m
  · have hki : (700 : Int) < (m : Int) := by omega
    have hc : decide ((700 : Int) < (m : Int)) = true := decide_eq_true hki
    have hc2 : decide (700 < m) = true := decide_eq_true hk
    clear hn hnl hml
    go_enter Tryz.func11, Tryz.ntmps11
    go_wp2_with (go_at_call 12; refine HAW.out.mono ?_; rintro e w1 ⟨rfl, hb⟩; have HB1 := Lib.hid hb; clear hb)
    go_ret
    exact ⟨rfl, HB1.out⟩
  have hki : ¬ (700 : Int) < (m : Int) := by omega
  have hc : decide ((700 : Int) < (m : Int)) = false := decide_eq_false hki
  have hc2 : decide (700 < m) = false := decide_eq_false hk
  have hnm : IntKind.i64.wrap ((n : Int) + (m : Int)) = (n : Int) + (m : Int) := by rw [IntKind.wrap_i64]; omega
  obtain ⟨st, hst⟩ : ∃ st, s ++ t = st := ⟨_, rfl⟩
  have hadd := add_l s t st hst (by omega) (by omega)
  have hstl : st.length = n + m := by rw [← hst, List.length_append]; omega
  have HST := Lib.hid hst
  have HNL := Lib.hid hnl
  have HML := Lib.hid hml
  have HSL := Lib.hid hstl
  clear hn hnl hml hst hstl
  go_enter Tryz.func11, Tryz.ntmps11
  go_wp2_with (go_at_call 12; refine HAW.out.mono ?_; rintro e w1 ⟨rfl, hb⟩; have HB1 := Lib.hid hb; have HN1 := Lib.hid (HN.out.on hb); clear hb)
  go_loopw [6] (fun i wr => ∃ k : Nat, k ≤ n + m ∧ i = .int .i64 (k : Int) ∧ Hid (∀ j (hj : j < st.length), j < k → st[j] ≠ 58) ∧ w1 = wr) (fun i _ => n + m - (intOf i).toNat)
  case atStart => exact ⟨0, Nat.zero_le _, rfl, Lib.hid (fun j _ h => absurd h (by omega)), rfl⟩
  case round =>
    obtain ⟨k, hk9, rfl, HP, rfl⟩ := hrel
    by_cases hlt : k < n + m
    · have hks : k < st.length := by rw [HSL.out]; exact hlt
      have hlti : (k : Int) < (n : Int) + (m : Int) := by omega
      have hkd : decide ((k : Int) < (n : Int) + (m : Int)) = true := decide_eq_true hlti
      by_cases hq : st[k] = 58
      · have hce : ((ByteArray.mk st.toArray)[k]'hks).toNat = 58 := by show st[k].toNat = 58; rw [hq]; rfl
        clear hq
        go_wp2_with fail
        go_ret
        exact ⟨rfl, HB1.out⟩
      · have hnx : ∀ j (hj : j < st.length), j < k + 1 → st[j] ≠ 58 := fun j hj hjk => by
          by_cases e : j = k
          · subst e; exact hq
          · exact HP.out j hj (by omega)
        obtain ⟨c, hcc⟩ : ∃ c, st[k].toNat = c := ⟨_, rfl⟩
        have hce : ((ByteArray.mk st.toArray)[k]'hks).toNat = c := hcc
        have hne : ¬ c = 58 := fun e => hq (by apply UInt8.toNat_inj.1; rw [hcc, e]; rfl)
        have hneI : ¬ (c : Int) = 58 := by omega
        have d1 : ((c : Int) == 58) = false := by simpa using hneI
        have d2 : (c == 58) = false := by simpa using hne
        have HNX := Lib.hid hnx
        clear hnx hcc hq
        go_wp2_with fail
        go_roundw
        case rel => exact ⟨k + 1, by omega, by go_num, HNX, trivial⟩
        case measure => simp [intOf]; omega
    · have hno : 58 ∉ s ++ t := fun hm => by
        rw [HST.out] at hm
        obtain ⟨j, hj, e⟩ := List.getElem_of_mem hm
        exact HP.out j hj (by have := HSL.out; omega) e
      have hlti : ¬ (k : Int) < (n : Int) + (m : Int) := by omega
      have hkd : decide ((k : Int) < (n : Int) + (m : Int)) = false := decide_eq_false hlti
      have hs58 : 58 ∉ s := fun h => hno (List.mem_append_left _ h)
      have ht58 : 58 ∉ t := fun h => hno (List.mem_append_right _ h)
      have hls : s.length ≤ 700 := by rw [HNL.out]; omega
      have hlt7 : t.length ≤ 700 := by rw [HML.out]; omega
      have had1 := add_l s [10] (s ++ [10]) rfl (by omega) (by decide)
      have had2 := add_l (s ++ [10]) t (s ++ [10] ++ t) rfl (by rw [List.length_append]; simp; omega) (by omega)
      have hl3 : (s ++ [10] ++ t).length < 1000000 := by simp only [List.length_append, List.length_cons, List.length_nil]; omega
      have HP1 := Lib.hid (fun W (hW : NA W) => program_any s W hW (by omega))
      have HP2 := Lib.hid (fun W (hW : NA W) => program_any t W hW (by omega))
      have HP3 := Lib.hid (fun W (hW : NA W) => program_any (s ++ [10] ++ t) W hW hl3)
      have htwo := prog_two hs58 ht58 hls hlt7
      obtain ⟨s1, hs1⟩ : ∃ s1, s ++ [10] = s1 := ⟨_, rfl⟩
      rw [hs1] at had1 had2 HP3 htwo
      obtain ⟨s3, hs3⟩ : ∃ s3, s1 ++ t = s3 := ⟨_, rfl⟩
      rw [hs3] at had2 HP3 htwo
      rcases htwo with ⟨c, d, p1, p2, p3⟩ | ⟨n1, e1, c1, m1, f1, d1, k1, g1, p1, p2, p3, hg, hef⟩
      · rw [p1] at HP1
        rw [p2] at HP2
        rw [p3] at HP3
        have hc4 : c.length ≤ 8000 := by
          rcases prog_cases s with ⟨n0, e0, hp, he⟩ | ⟨ys, -, hyl, hp⟩
          · rw [p1] at hp; cases hp; exact absurd rfl he
          · rw [p1] at hp; cases hp; rw [codeY_len]; omega
        have hd4 : d.length ≤ 8000 := by
          rcases prog_cases t with ⟨n0, e0, hp, he⟩ | ⟨ys, -, hyl, hp⟩
          · rw [p2] at hp; cases hp; exact absurd rfl he
          · rw [p2] at hp; cases hp; rw [codeY_len]; omega
        unfold ProPost at HP1 HP2 HP3
        simp only [List.length_append] at HP1 HP2 HP3
        obtain ⟨x, hx⟩ : ∃ x, c.length = x := ⟨_, rfl⟩
        obtain ⟨y, hy⟩ : ∃ y, d.length = y := ⟨_, rfl⟩
        rw [hx] at HP1 HP3 hc4
        rw [hy] at HP2 HP3 hd4
        have HSA := Lib.hid (fun a b ca cb W (ha : Rd W a (x + y) (u8B (c ++ d))) (hb : Rd W b (x + y) (u8B (c ++ d))) => same_any a b (x + y) ca (x + y) cb ((c ++ d).map UInt8.toNat) ((c ++ d).map UInt8.toNat) W (u8B_s (c ++ d) ▸ ha) (u8B_s (c ++ d) ▸ hb) (by omega) (by omega))
        simp only [decide_true] at HSA
        clear hno hs58 ht58 hls hlt7 hl3 p1 p2 p3 hx hy hs1 hs3 HP
        go_wp2_with (first
          | (go_at_call 17; refine (HP3.out _ HN3.out).mono ?_; rintro e w4 ⟨a4, c4, rfl, hr, -, hb⟩; have HB4 := Lib.hid (HB3.out.trans (hb.mono HB3.out.size)); have HR41 := Lib.hid (HR31.out.below hb); have HR42 := Lib.hid (HR32.out.below hb); have HR43 := Lib.hid hr; clear hb hr)
          | (go_at_call 17; refine (HP2.out _ HN2.out).mono ?_; rintro e w3 ⟨a3, c3, rfl, hr, -, hb⟩; have HB3 := Lib.hid (HB2.out.trans (hb.mono HB2.out.size)); have HN3 := Lib.hid (HN2.out.on hb); have HR31 := Lib.hid (HR2.out.below hb); have HR32 := Lib.hid hr; clear hb hr)
          | (go_at_call 17; refine (HP1.out _ HN1.out).mono ?_; rintro e w2 ⟨a2, c2, rfl, hr, -, hb⟩; have HB2 := Lib.hid (HB1.out.trans (hb.mono HB1.out.size)); have HN2 := Lib.hid (HN1.out.on hb); have HR2 := Lib.hid hr; clear hb hr)
          | (refine wpList_appG 32 5 (.int .u8 0) 1 1 Tryz.underlying32 infoU8 rfl (by decide) (by decide) _ rfl _ _ rfl w4.heap.size (.slice a5 x c5) x (u8B c) rfl HO5.out a3 y c3 (u8B d) rfl (by rw [Nat.mul_one]; exact HR52.out) (u8B_one _) (by omega) HS5.out ?_; intro a6 c6 w6 hown6 hg6 hat6; have HO6 := Lib.hid hown6; have HB6 := Lib.hid ((HB5.out.trans ((Below.refl w4.heap.size w5).grown hg6 HS5.out (fun b e => (HO5.out.lt b e).1)))); clear hown6 hg6 hat6)
          | (refine wpList_appG 32 5 (.int .u8 0) 1 1 Tryz.underlying32 infoU8 rfl (by decide) (by decide) _ rfl _ _ rfl w4.heap.size (.slice (some ⟨w4.heap.size, 0, none⟩) 0 0) 0 [] rfl (World.ownsRow_made w4 #[] 0 (Nat.le_refl _) (by decide) rfl) a2 x c2 (u8B c) rfl (by rw [Nat.mul_one]; exact HR41.out.below (bAlloc (Below.refl _ _) _)) (u8B_one _) (by omega) (by simp) ?_; intro a5 c5 w5 hown5 hg5 hat5; have HB5 : Hid (Below w4.heap.size w4 w5) := Lib.hid ((bAlloc (Below.refl w4.heap.size w4) _).grown hg5 (by simp) (fun b e => by cases e; exact Nat.le_refl _)); have HO5 : Hid (w5.ownsRow w4.heap.size 5 1 (.slice a5 x c5) x (u8B c)) := Lib.hid (by simp only [Nat.zero_add, List.nil_append] at hown5; exact hown5); have HR52 := Lib.hid (HR42.out.below HB5.out); have HR53 := Lib.hid (HR43.out.below HB5.out); have HS5 := Lib.hid HB5.out.size; clear hown5 hg5 hat5)
          | (go_at_call 19; refine (HSA.out _ _ _ _ _ (HR43.out.below HB6.out) (by rw [u8B_app]; exact Rd.of_own HO6.out)).mono ?_; rintro e w7 ⟨rfl, q7, rfl⟩))
        go_ret
        exact ⟨rfl, (HB4.out.trans (HB6.out.mono HB4.out.size)).trans ((below_dN _ _).mono (Nat.le_trans HB4.out.size HB6.out.size))⟩
      · rw [p1] at HP1
        rw [p2] at HP2
        rw [p3] at HP3
        unfold ProPost at HP1 HP2 HP3
        simp only [] at HP1 HP2 HP3
        have d3 : (g1 != 0) = true := by simpa using hg
        have d4 : (g1 == 0) = false := by simpa using hg
        clear hno hs58 ht58 hls hlt7 hl3 p1 p2 p3 hs1 hs3 HP
        by_cases he : e1 = 0
        · have hf : f1 ≠ 0 := by rcases hef with q | q; exact absurd he q; exact q
          subst he
          have d5 : (f1 != 0) = true := by simpa using hf
          have d6 : (f1 == 0) = false := by simpa using hf
          go_wp2_with (first
            | (go_at_call 17; refine (HP3.out _ HN3.out).mono ?_; rintro e w4 ⟨a4, c4, rfl, -, -, hb⟩; have HB4 := Lib.hid (HB3.out.trans (hb.mono HB3.out.size)); clear hb)
            | (go_at_call 17; refine (HP2.out _ HN2.out).mono ?_; rintro e w3 ⟨a3, c3, rfl, -, -, hb⟩; have HB3 := Lib.hid (HB2.out.trans (hb.mono HB2.out.size)); have HN3 := Lib.hid (HN2.out.on hb); clear hb)
            | (go_at_call 17; refine (HP1.out _ HN1.out).mono ?_; rintro e w2 ⟨a2, c2, rfl, -, -, hb⟩; have HB2 := Lib.hid (HB1.out.trans (hb.mono HB1.out.size)); have HN2 := Lib.hid (HN1.out.on hb); clear hb))
          go_ret
          exact ⟨rfl, HB4.out⟩
        · have d5 : (e1 != 0) = true := by simpa using he
          have d6 : (e1 == 0) = false := by simpa using he
          go_wp2_with (first
            | (go_at_call 17; refine (HP3.out _ HN3.out).mono ?_; rintro e w4 ⟨a4, c4, rfl, -, -, hb⟩; have HB4 := Lib.hid (HB3.out.trans (hb.mono HB3.out.size)); clear hb)
            | (go_at_call 17; refine (HP2.out _ HN2.out).mono ?_; rintro e w3 ⟨a3, c3, rfl, -, -, hb⟩; have HB3 := Lib.hid (HB2.out.trans (hb.mono HB2.out.size)); have HN3 := Lib.hid (HN2.out.on hb); clear hb)
            | (go_at_call 17; refine (HP1.out _ HN1.out).mono ?_; rintro e w2 ⟨a2, c2, rfl, -, -, hb⟩; have HB2 := Lib.hid (HB1.out.trans (hb.mono HB1.out.size)); have HN2 := Lib.hid (HN1.out.on hb); clear hb))
          go_ret
          exact ⟨rfl, HB4.out⟩
end Go.Proofs.YtdpmihlmfephiaaGreatDoor
