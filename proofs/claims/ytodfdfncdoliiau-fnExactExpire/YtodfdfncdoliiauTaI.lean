/-
  Chapter 11: the specification's Drop (drN, drG). Written by tools/tab.gen.py. Own work.
-/
import Derived.Test.YtodfdfncdoliiauTaH
import Derived.Deep.RegionHeld
import Derived.Deep.MidRow
namespace Go.Proofs.Ytodfdfncdoliiau
open Go.ChangeShapes Go.WideShapes Go.ChangeAt Go.RowKit
set_option maxRecDepth 100000
set_option linter.unusedVariables false
set_option linter.unusedSimpArgs false

theorem wp_append_own_at {P : Program} {w : World} {o : Oper} {a : Act} {K : Act → World → Prop} {Q : Exit → Act → World → Prop} (s x : Operand) (t : TypeId)
    (ho : o.op = .call { callee := .builtin .append, args := #[s, x], argTypes := #[t, t] })
    (base : Nat) (e : TypeId) (i : TypeInfo) (z : Value) (size bytes : Nat) (ht : P.underlying t = some (.slice e)) (hi : P.info? e = some i) (hz : i.zero = some z)
    (hsize : i.size = size) (hby : i.bytes = bytes) (hzs : z.cells.size = size) (hsz : 0 < size)
    (v : Value) (n : Nat) (xs : List Value) (hs : a.eval s = v) (hown : w.ownsRow base e size v n xs)
    (ad : Addr) (m c : Nat) (news : List Value) (hx : a.eval x = .slice (some ad) m c) (hl : news.length = m * size) (hnews : ∀ j u, news[j]? = some u → w.cell? (ad.add j) = some u) (h1 : ∀ u ∈ news, u.oneCell' = true)
    (h63 : n + m ≤ maxLen) (hbytes : (n + m) * bytes ≤ 140737488355328) (hbase : base ≤ w.heap.size)
    (h : ∀ v' w', w'.ownsRow base e size v' (n + m) (xs ++ news) → w.grownBy w' v.ownBlock → (v' = .slice none 0 0 ↔ v = .slice none 0 0 ∧ m = 0) → (v'.ownBlock = v.ownBlock ∨ v'.ownBlock = some w.heap.size) → K (a.put o.dst v') w') :
    o.wp P a w K Q := by
  obtain ⟨v', w', hr, h2, h3, h4, h5⟩ := run_append_own_at (P := P) w base t o.type e i z size bytes ht hi hz hsize hby hzs hsz v n xs hown ad m c news hl hnews h1 h63 hbytes hbase
  unfold Oper.wp execOp
  simp only [ho, resolve, invoke, builtin, Sem.run_bind, Sem.run_pure, Result.andThen_ok, List.map_toArray, List.map_cons, List.map_nil, hs, hx, hr]
  exact h v' w' h2 h3 h4 h5
def drN (f : Nat → Ef) (id : Int) (n : Nat) : Nat := if 0 ≤ eaN f id n then n - 1 else n
def drG (f : Nat → Ef) (id : Int) (n : Nat) : Nat → Ef := if 0 ≤ eaN f id n then dpF (eaN f id n).toNat f else f
set_option maxHeartbeats 8000000 in
theorem specDrop_any (t : Tb) (id : Int) (w : World) (hok : t.okW w) (hn : t.n ≤ 1048577) :
    Calls Try.prog 9 #[.slice t.p t.n t.cap, .int .i64 id] w fun e w' => ∃ q : Tb, e = .returned (.tuple #[.slice q.p q.n q.cap, .bool (decide (0 ≤ eaN t.f id t.n))]) ∧ Below w.heap.size w w' ∧ AnsT w' w.heap.size q (drN t.f id t.n) (drG t.f id t.n) := by
  have m_ : Try.prog.follows Departure.mixedOrders = true := by kernel_rfl
  have hnm := hok.le
  obtain ⟨i0, hi, hz0, hz1, hz2⟩ := info_parts Try.infoEf
  obtain ⟨p, n, cap, b, f⟩ := t
  dsimp only at hn hnm ⊢
  go_enter Try.func9, Try.ntmps9
  go_wp2_with fail
  refine (specEffectAt_any ⟨p, n, cap, b, f⟩ id _ hok).mono ?_
  rintro e u1 ⟨rfl, hb1⟩
  dsimp only
  have hok1 := hok.grew hb1
  rcases eaN_cases f id n with ⟨he, hm⟩ | ⟨k, hk, he, _, _⟩
  · have HN : Hid (drN f id n = n) := by show _ = _; unfold drN; rw [he]; rfl
    have HF : Hid (drG f id n = f) := by show _ = _; unfold drG; rw [he]; rfl
    have HD : Hid (decide (0 ≤ eaN f id n) = false) := by show _ = _; rw [he]; rfl
    rw [he]
    go_wp2_with fail
    refine (l11Copy_build ⟨p, n, cap, b, f⟩ _ hok1 hn).mono ?_
    rintro e u2 ⟨v2, g2, rfl, hb2, B2⟩
    dsimp only at B2
    replace B2 := B2.down hb1.size
    obtain ⟨q, rfl, aq⟩ := B2.ans
    go_wp2
    go_ret2
    rw [HN.out, HF.out, HD.out]
    exact ⟨q, rfl, below_app hb1 hb2 hb1.size, aq⟩
  · have HN : Hid (drN f id n = n - 1) := by show _ = _; unfold drN; rw [he, if_pos (by omega)]
    have HF : Hid (drG f id n = dpF k f) := by show _ = _; unfold drG; rw [he, if_pos (by omega)]; rfl
    have HD : Hid (decide (0 ≤ eaN f id n) = true) := by show _ = _; rw [he]; simp
    rw [he]
    rcases hok1.2.2.1 with h3 | ⟨o1, hp, _⟩
    · dsimp only at h3; omega
    dsimp only at hp
    subst hp
    have y1 : (0 : Int) ≤ (k : Int) := by omega
    have y2 : (k : Int) < (n : Int) := by omega
    have y5 : (k : Int) ≤ (cap : Int) := by have := hok1.1; dsimp only at this; omega
    have y6 : (k : Int) + 1 ≤ (n : Int) := by omega
    clear he hok
    go_upto_region 4 with fail
    by_cases hc : cap = k + 1
    · skip
      obtain rfl : n = k + 1 := by have := hok1.1; dsimp only at this; omega
      subst hc
      have hokR : Tb.okW (⟨some ⟨b, o1, none⟩, 0, 0, b, fun i => f (k + 1 + i)⟩ : Tb) u1 := ⟨Nat.le_refl _, Nat.zero_le _, .inl rfl, fun i hi => absurd hi (Nat.not_lt_zero i)⟩
      have y7 : (k : Int) ≤ (k : Int) + 1 := by omega
      have y8 : ¬ ((k : Int) + 1 < (k : Int)) := by omega
      have y9 : (0 : Int) ≤ (k : Int) + 1 := by omega
      have y10 : (k : Int) + 1 ≤ 9223372036854775807 := by omega
      have hok2 : Tb.okW (⟨some ⟨b, o1, none⟩, k, (k + 1), b, f⟩ : Tb) u1 := hok1.upto (by omega)
      clear hok1
      have hq : Below u1.heap.size u1 u1.drew := (Below.refl _ u1).drew
      refine wp_region_held_drew (S := fun u : World => Below u1.heap.size u1 u) (by kernel_rfl) hq (fun hHeld => ?_)
      refine wpAnyH_take (i := 0) (oi := ⟨some 14, _, _, _, _, _⟩) (v := .slice (some ⟨b, o1, none⟩) (k + 1) (k + 1)) rfl (by kernel_rfl) (by kernel_rfl) (by kernel_rfl) (fun _ _ _ h => h) (Or.inl ⟨by kernel_rfl, fun u hSu => by clear hSu; go_simp⟩) hHeld ?_
      try simp only [Act.put, List.setIfInBounds_toArray, List.set_cons_zero, List.set_cons_succ]
      refine wpAnyH_take (i := 1) (oi := ⟨some 15, _, _, _, _, _⟩) (v := .int .i64 k) rfl (by kernel_rfl) (by kernel_rfl) (by kernel_rfl) (fun _ _ _ h => h) (Or.inl ⟨by kernel_rfl, fun u hSu => by clear hSu; go_simp⟩) hHeld ?_
      try simp only [Act.put, List.setIfInBounds_toArray, List.set_cons_zero, List.set_cons_succ]
      refine wpAnyH_take (i := 2) (oi := ⟨some 16, _, _, _, _, _⟩) (v := .slice (some ⟨b, o1, none⟩) k (k + 1)) rfl (by kernel_rfl) (by kernel_rfl) (by kernel_rfl) (fun _ _ _ h => h) (Or.inl ⟨by kernel_rfl, fun u hSu => by clear hSu; go_simp⟩) hHeld ?_
      try simp only [Act.put, List.setIfInBounds_toArray, List.set_cons_zero, List.set_cons_succ]
      refine wpAnyH_take (i := 4) (oi := ⟨some 18, _, _, _, _, _⟩) (v := .slice (some ⟨b, o1, none⟩) (k + 1) (k + 1)) rfl (by kernel_rfl) (by kernel_rfl) (by kernel_rfl) (fun _ _ _ h => h) (Or.inl ⟨by kernel_rfl, fun u hSu => by clear hSu; go_simp⟩) hHeld ?_
      try simp only [Act.put, List.setIfInBounds_toArray, List.set_cons_zero, List.set_cons_succ]
      refine wpAnyH_take (i := 5) (oi := ⟨some 19, _, _, _, _, _⟩) (v := .int .i64 k) rfl (by kernel_rfl) (by kernel_rfl) (by kernel_rfl) (fun _ _ _ h => h) (Or.inl ⟨by kernel_rfl, fun u hSu => by clear hSu; go_simp⟩) hHeld ?_
      try simp only [Act.put, List.setIfInBounds_toArray, List.set_cons_zero, List.set_cons_succ]
      refine wpAnyH_take (i := 6) (oi := ⟨some 20, _, _, _, _, _⟩) (v := .int .i64 ((k : Int) + 1)) rfl (by kernel_rfl) (by kernel_rfl) (by kernel_rfl) (fun _ _ _ h => h) (Or.inl ⟨by kernel_rfl, fun u hSu => by clear hSu; go_simp; first | done | go_num | (rw [IntKind.wrap_i64]; omega) | (congr 1; rw [IntKind.wrap_i64]; omega)⟩) hHeld ?_
      try simp only [Act.put, List.setIfInBounds_toArray, List.set_cons_zero, List.set_cons_succ]
      refine wpAnyH_take (i := 7) (oi := ⟨some 21, _, _, _, _, _⟩) (v := .slice (some ⟨b, o1, none⟩) 0 0) rfl (by kernel_rfl) (by kernel_rfl) (by kernel_rfl) (fun _ _ _ h => h) (Or.inl ⟨by kernel_rfl, fun u hSu => by clear hSu; go_simp; first | done | (simp [hc]; done) | (simp; omega) | trace_state⟩) hHeld ?_
      try simp only [Act.put, List.setIfInBounds_toArray, List.set_cons_zero, List.set_cons_succ]
      refine wpAnyH_ready (rs := [3]) (by kernel_rfl) (by simp) ?_
      refine AllReadyH.cons rfl (fun K' hK => ?_) AllReadyH.nil
      go_simp
      go_at_call 37
      refine (l11Copy_build ⟨some ⟨b, o1, none⟩, k, (k + 1), b, f⟩ _ (hok2.grew hq) (by dsimp only; omega)).mono ?_
      rintro e v3 ⟨v1, g1, rfl, hb, B1⟩
      have hq' := below_app hq hb hq.size
      dsimp only at B1
      replace B1 := B1.down hq.size
      clear hq hb
      have hq := hq'
      clear hq'
      refine hK.out _ _ hq (fun hHeld => ?_)
      clear hK
      try simp only [Act.put, List.setIfInBounds_toArray, List.set_cons_zero, List.set_cons_succ]
      refine wpAnyH_ready (rs := [8]) (by kernel_rfl) (by simp) ?_
      refine AllReadyH.cons rfl (fun K' hK => ?_) AllReadyH.nil
      go_simp
      go_at_call 37
      refine (l11Copy_build (⟨some ⟨b, o1, none⟩, 0, 0, b, fun i => f (k + 1 + i)⟩ : Tb) _ (hokR.grew hq) (by dsimp only; omega)).mono ?_
      rintro e v8 ⟨v2, g2, rfl, hb, B2⟩
      have hq' := below_app hq hb hq.size
      dsimp only at B2
      have hs_ := hq.size
      have hbk := hb
      clear hq hb
      have hq := hq'
      clear hq'
      refine hK.out _ _ hq (fun hHeld => ?_)
      clear hK
      try simp only [Act.put, List.setIfInBounds_toArray, List.set_cons_zero, List.set_cons_succ]
      obtain ⟨b5, cap5, rfl, ho5⟩ := B2.tb
      have ok_ := owns_kept9 B1.1 hbk
      have kl_ := ok_.lt
      refine wpAnyH_ready (rs := [9]) (by kernel_rfl) (by simp) ?_
      refine AllReadyH.cons rfl (fun K' hK => ?_) AllReadyH.nil
      rw [if_pos (by kernel_rfl)]
      refine wp_append_own_at (.tmp 17) (.tmp 22) 24 rfl u1.heap.size 49 i0 (.agg #[.int .i64 0, .int .i64 0, .int .i64 0, .int .i64 0, .int .i64 0, .int .i64 0, .int .i64 0, .int .i64 0, .int .i64 0, .int .i64 0, .int .i64 0, .int .i64 0, .int .i64 0, .int .i64 0, .int .i64 0, .int .i64 0, .int .i64 0, .int .i64 0, .bool false, .slice none 0 0, .int .i64 0, .int .i64 0]) 22 192 Try.underlying24 hi hz0 hz1 hz2 rfl (by decide) _ _ _ rfl ok_ ⟨b5, 0, none⟩ 0 cap5 (valsE efC 0 g2) rfl (valsE_len efC_len _ _) (RdE.newsE efC_len ho5.2.2.1.rd) (efC_one _ _) (by unfold maxLen; omega) (by omega) hq.size ?_
      intro v6 w6 hown4 hgr4 hnil4 hat4
      have B6 := BuildT.cat (m := 0) B1 hbk hs_ (fun i hi => ⟨(B2.2.2.1 i hi).1, (B2.2.2.1 i hi).2.2⟩) B2.2.2.2 hown4 hgr4 (fun e => by first | exact hnil4 e | exact B1.2.1 (hnil4.1 e).1 | exact B1.2.1 (hnil4.1 e)) hat4
      have hq' : Below u1.heap.size u1 w6 := hq.grown hgr4 hq.size (fun q h => (kl_ q h).1)
      refine hK.out _ _ hq' (fun hHeld => ?_)
      clear hK hown4 hgr4 hnil4 hat4 ok_ kl_ ho5 B2 B1 hbk
      try simp only [Act.put, List.setIfInBounds_toArray, List.set_cons_zero, List.set_cons_succ]
      refine wpAnyH_take (i := 10) (oi := ⟨some 4, _, _, _, _, _⟩) (v := v6) rfl (by kernel_rfl) (by kernel_rfl) (by kernel_rfl) (fun _ _ _ h => h) (Or.inl ⟨by kernel_rfl, fun u hSu => by clear hSu; go_simp⟩) hHeld ?_
      try simp only [Act.put, List.setIfInBounds_toArray, List.set_cons_zero, List.set_cons_succ]
      refine wpAnyH_take (i := 11) (oi := ⟨some 5, _, _, _, _, _⟩) (v := .bool true) rfl (by kernel_rfl) (by kernel_rfl) (by kernel_rfl) (fun _ _ _ h => h) (Or.inl ⟨by kernel_rfl, fun u hSu => by clear hSu; go_simp⟩) hHeld ?_
      try simp only [Act.put, List.setIfInBounds_toArray, List.set_cons_zero, List.set_cons_succ]
      refine wpAnyH_done (by kernel_rfl) ?_ _
      clear hHeld
      have hNN : k + 0 = (k + 1) - 1 := by omega
      rw [hNN] at B6
      replace B6 := B6.congr (g' := _) (f' := dpF k f) (fun i hi => rfl) (fun i hi => by
        unfold dpF
        by_cases h1 : i < k
        · rw [if_pos h1, if_pos h1]
        · rw [if_neg h1, if_neg h1]; congr 1; omega)
      replace B6 := B6.down hb1.size
      obtain ⟨q, hqv, aq⟩ := B6.ans
      subst hqv
      go_wp2
      go_ret2
      rw [HN.out, HF.out, HD.out]
      exact ⟨q, rfl, below_app hb1 hq' hb1.size, aq⟩
    · skip
      have hokR : Tb.okW (⟨some ⟨b, o1 + (k + 1) * 22, none⟩, (n - (k + 1)), (cap - (k + 1)), b, fun i => f (k + 1 + i)⟩ : Tb) u1 := hok1.from (k := k + 1) (by omega) (fun h => rfl)
      have y9 : (0 : Int) ≤ (k : Int) + 1 := by omega
      have hok2 : Tb.okW (⟨some ⟨b, o1, none⟩, k, cap, b, f⟩ : Tb) u1 := hok1.upto (by omega)
      clear hok1
      have hq : Below u1.heap.size u1 u1.drew := (Below.refl _ u1).drew
      refine wp_region_held_drew (S := fun u : World => Below u1.heap.size u1 u) (by kernel_rfl) hq (fun hHeld => ?_)
      refine wpAnyH_take (i := 0) (oi := ⟨some 14, _, _, _, _, _⟩) (v := .slice (some ⟨b, o1, none⟩) n cap) rfl (by kernel_rfl) (by kernel_rfl) (by kernel_rfl) (fun _ _ _ h => h) (Or.inl ⟨by kernel_rfl, fun u hSu => by clear hSu; go_simp⟩) hHeld ?_
      try simp only [Act.put, List.setIfInBounds_toArray, List.set_cons_zero, List.set_cons_succ]
      refine wpAnyH_take (i := 1) (oi := ⟨some 15, _, _, _, _, _⟩) (v := .int .i64 k) rfl (by kernel_rfl) (by kernel_rfl) (by kernel_rfl) (fun _ _ _ h => h) (Or.inl ⟨by kernel_rfl, fun u hSu => by clear hSu; go_simp⟩) hHeld ?_
      try simp only [Act.put, List.setIfInBounds_toArray, List.set_cons_zero, List.set_cons_succ]
      refine wpAnyH_take (i := 2) (oi := ⟨some 16, _, _, _, _, _⟩) (v := .slice (some ⟨b, o1, none⟩) k cap) rfl (by kernel_rfl) (by kernel_rfl) (by kernel_rfl) (fun _ _ _ h => h) (Or.inl ⟨by kernel_rfl, fun u hSu => by clear hSu; go_simp⟩) hHeld ?_
      try simp only [Act.put, List.setIfInBounds_toArray, List.set_cons_zero, List.set_cons_succ]
      refine wpAnyH_take (i := 4) (oi := ⟨some 18, _, _, _, _, _⟩) (v := .slice (some ⟨b, o1, none⟩) n cap) rfl (by kernel_rfl) (by kernel_rfl) (by kernel_rfl) (fun _ _ _ h => h) (Or.inl ⟨by kernel_rfl, fun u hSu => by clear hSu; go_simp⟩) hHeld ?_
      try simp only [Act.put, List.setIfInBounds_toArray, List.set_cons_zero, List.set_cons_succ]
      refine wpAnyH_take (i := 5) (oi := ⟨some 19, _, _, _, _, _⟩) (v := .int .i64 k) rfl (by kernel_rfl) (by kernel_rfl) (by kernel_rfl) (fun _ _ _ h => h) (Or.inl ⟨by kernel_rfl, fun u hSu => by clear hSu; go_simp⟩) hHeld ?_
      try simp only [Act.put, List.setIfInBounds_toArray, List.set_cons_zero, List.set_cons_succ]
      refine wpAnyH_take (i := 6) (oi := ⟨some 20, _, _, _, _, _⟩) (v := .int .i64 ((k : Int) + 1)) rfl (by kernel_rfl) (by kernel_rfl) (by kernel_rfl) (fun _ _ _ h => h) (Or.inl ⟨by kernel_rfl, fun u hSu => by clear hSu; go_simp; first | done | go_num | (rw [IntKind.wrap_i64]; omega) | (congr 1; rw [IntKind.wrap_i64]; omega)⟩) hHeld ?_
      try simp only [Act.put, List.setIfInBounds_toArray, List.set_cons_zero, List.set_cons_succ]
      refine wpAnyH_take (i := 7) (oi := ⟨some 21, _, _, _, _, _⟩) (v := .slice (some ⟨b, o1 + (k + 1) * 22, none⟩) (n - (k + 1)) (cap - (k + 1))) rfl (by kernel_rfl) (by kernel_rfl) (by kernel_rfl) (fun _ _ _ h => h) (Or.inl ⟨by kernel_rfl, fun u hSu => by clear hSu; go_simp; first | done | (simp [hc]; done) | (simp; omega) | trace_state⟩) hHeld ?_
      try simp only [Act.put, List.setIfInBounds_toArray, List.set_cons_zero, List.set_cons_succ]
      refine wpAnyH_ready (rs := [3]) (by kernel_rfl) (by simp) ?_
      refine AllReadyH.cons rfl (fun K' hK => ?_) AllReadyH.nil
      go_simp
      go_at_call 37
      refine (l11Copy_build ⟨some ⟨b, o1, none⟩, k, cap, b, f⟩ _ (hok2.grew hq) (by dsimp only; omega)).mono ?_
      rintro e v3 ⟨v1, g1, rfl, hb, B1⟩
      have hq' := below_app hq hb hq.size
      dsimp only at B1
      replace B1 := B1.down hq.size
      clear hq hb
      have hq := hq'
      clear hq'
      refine hK.out _ _ hq (fun hHeld => ?_)
      clear hK
      try simp only [Act.put, List.setIfInBounds_toArray, List.set_cons_zero, List.set_cons_succ]
      refine wpAnyH_ready (rs := [8]) (by kernel_rfl) (by simp) ?_
      refine AllReadyH.cons rfl (fun K' hK => ?_) AllReadyH.nil
      go_simp
      go_at_call 37
      refine (l11Copy_build (⟨some ⟨b, o1 + (k + 1) * 22, none⟩, (n - (k + 1)), (cap - (k + 1)), b, fun i => f (k + 1 + i)⟩ : Tb) _ (hokR.grew hq) (by dsimp only; omega)).mono ?_
      rintro e v8 ⟨v2, g2, rfl, hb, B2⟩
      have hq' := below_app hq hb hq.size
      dsimp only at B2
      have hs_ := hq.size
      have hbk := hb
      clear hq hb
      have hq := hq'
      clear hq'
      refine hK.out _ _ hq (fun hHeld => ?_)
      clear hK
      try simp only [Act.put, List.setIfInBounds_toArray, List.set_cons_zero, List.set_cons_succ]
      obtain ⟨b5, cap5, rfl, ho5⟩ := B2.tb
      have ok_ := owns_kept9 B1.1 hbk
      have kl_ := ok_.lt
      refine wpAnyH_ready (rs := [9]) (by kernel_rfl) (by simp) ?_
      refine AllReadyH.cons rfl (fun K' hK => ?_) AllReadyH.nil
      rw [if_pos (by kernel_rfl)]
      refine wp_append_own_at (.tmp 17) (.tmp 22) 24 rfl u1.heap.size 49 i0 (.agg #[.int .i64 0, .int .i64 0, .int .i64 0, .int .i64 0, .int .i64 0, .int .i64 0, .int .i64 0, .int .i64 0, .int .i64 0, .int .i64 0, .int .i64 0, .int .i64 0, .int .i64 0, .int .i64 0, .int .i64 0, .int .i64 0, .int .i64 0, .int .i64 0, .bool false, .slice none 0 0, .int .i64 0, .int .i64 0]) 22 192 Try.underlying24 hi hz0 hz1 hz2 rfl (by decide) _ _ _ rfl ok_ ⟨b5, 0, none⟩ (n - (k + 1)) cap5 (valsE efC (n - (k + 1)) g2) rfl (valsE_len efC_len _ _) (RdE.newsE efC_len ho5.2.2.1.rd) (efC_one _ _) (by unfold maxLen; omega) (by omega) hq.size ?_
      intro v6 w6 hown4 hgr4 hnil4 hat4
      have B6 := BuildT.cat (m := (n - (k + 1))) B1 hbk hs_ (fun i hi => ⟨(B2.2.2.1 i hi).1, (B2.2.2.1 i hi).2.2⟩) B2.2.2.2 hown4 hgr4 (fun e => by first | exact hnil4 e | exact B1.2.1 (hnil4.1 e).1 | exact B1.2.1 (hnil4.1 e)) hat4
      have hq' : Below u1.heap.size u1 w6 := hq.grown hgr4 hq.size (fun q h => (kl_ q h).1)
      refine hK.out _ _ hq' (fun hHeld => ?_)
      clear hK hown4 hgr4 hnil4 hat4 ok_ kl_ ho5 B2 B1 hbk
      try simp only [Act.put, List.setIfInBounds_toArray, List.set_cons_zero, List.set_cons_succ]
      refine wpAnyH_take (i := 10) (oi := ⟨some 4, _, _, _, _, _⟩) (v := v6) rfl (by kernel_rfl) (by kernel_rfl) (by kernel_rfl) (fun _ _ _ h => h) (Or.inl ⟨by kernel_rfl, fun u hSu => by clear hSu; go_simp⟩) hHeld ?_
      try simp only [Act.put, List.setIfInBounds_toArray, List.set_cons_zero, List.set_cons_succ]
      refine wpAnyH_take (i := 11) (oi := ⟨some 5, _, _, _, _, _⟩) (v := .bool true) rfl (by kernel_rfl) (by kernel_rfl) (by kernel_rfl) (fun _ _ _ h => h) (Or.inl ⟨by kernel_rfl, fun u hSu => by clear hSu; go_simp⟩) hHeld ?_
      try simp only [Act.put, List.setIfInBounds_toArray, List.set_cons_zero, List.set_cons_succ]
      refine wpAnyH_done (by kernel_rfl) ?_ _
      clear hHeld
      have hNN : k + (n - (k + 1)) = n - 1 := by omega
      rw [hNN] at B6
      replace B6 := B6.congr (g' := _) (f' := dpF k f) (fun i hi => rfl) (fun i hi => by
        unfold dpF
        by_cases h1 : i < k
        · rw [if_pos h1, if_pos h1]
        · rw [if_neg h1, if_neg h1]; congr 1; omega)
      replace B6 := B6.down hb1.size
      obtain ⟨q, hqv, aq⟩ := B6.ans
      subst hqv
      go_wp2
      go_ret2
      rw [HN.out, HF.out, HD.out]
      exact ⟨q, rfl, below_app hb1 hq' hb1.size, aq⟩
end Go.Proofs.Ytodfdfncdoliiau
