/-
  Chapter 5: the program's putNums, PutState. Chapter 5's PutState at states that are like another one. Own work.
-/
import Derived.Test.YtnlnledijpcjpabStPut
import Derived.Test.YtnlnledijpcjpabStOk
import Derived.Test.YtnlnledijpcjpabPieceI4
import Derived.Test.YtnlnledijpcjpabStLaw
namespace Go.Proofs.Ytnlnledijpcjpab
open Go.ChangeShapes Go.WideShapes Go.ChangeAt Go.RowKit
set_option maxRecDepth 100000
set_option linter.unusedVariables false
theorem implPutNum_B0 (n : Int) (w : World) :
    Calls Try.prog 105 #[.slice none 0 0, .int .i64 n] w fun e w' => ∃ v', e = .returned v' ∧ Below w.heap.size w w' ∧ Buf true w' w.heap.size v' [n] := by
  refine (implPutNum_cap n none 0 0 0 (encM []) w (by omega) (.inl rfl)).mono ?_
  rintro e w' ⟨g', cap', rfl, hcap, hb, ho'⟩
  exact ⟨_, rfl, hb, g', cap', rfl, (fun _ => hcap), ho'.congr (encM_app1 [] n)⟩
theorem implPutNum_B (n : Int) (v : Value) (L : List Int) (w : World) {B : Nat} (hL : L.length ≤ 100000) (h : Buf true w B v L) :
    Calls Try.prog 105 #[v, .int .i64 n] w fun e w' => ∃ v', e = .returned v' ∧ Below w.heap.size w w' ∧ Buf true w' w.heap.size v' (L ++ [n]) := by
  obtain ⟨g, cap, rfl, _, ho⟩ := h
  refine (implPutNum_cap n (some ⟨g, 0, none⟩) g (lnL L) cap (encM L) w (by unfold lnL; omega) ho.rd).mono ?_
  rintro e w' ⟨g', cap', rfl, hcap, hb, ho'⟩
  have e1 : lnL L + 4 = lnL (L ++ [n]) := by unfold lnL; simp; omega
  rw [e1] at ho' hcap ⊢
  exact ⟨_, rfl, hb, g', cap', rfl, (fun _ => hcap), ho'.congr (encM_app1 L n)⟩
theorem implPutPiece_B (p : Pc) (v : Value) (L : List Int) (w : World) {B : Nat} (hp : okP p = true) (hL : L.length ≤ 100000) (h : Buf true w B v L) :
    Calls Try.prog 39 #[v, (.agg #[.int .i64 p.id, .int .i64 p.ow, .int .i64 p.si, .int .i64 p.zo, .int .i64 p.st, .int .i64 p.po, .int .i64 p.to, .int .i64 p.tr, .int .i64 p.pl, .int .i64 p.mi, .int .i64 p.ma, .bool p.de, .bool p.be])] w fun e w' => ∃ v', e = .returned v' ∧ Below w.heap.size w w' ∧ Buf true w' w.heap.size v' (L ++ pcl p) := by
  obtain ⟨g, cap, rfl, _, ho⟩ := h
  refine (implPutPiece_cap (some ⟨g, 0, none⟩) g (lnL L) cap (encM L) p w (by unfold lnL; omega) ho.rd).mono ?_
  rintro e w' ⟨g', cap', rfl, hcap, hb, ho'⟩
  have e1 : ppN (lnL L) p = lnL (L ++ pcl p) := by unfold ppN lnL; rw [if_pos hp]; simp [pcl]; omega
  have e2 : ppF (lnL L) (encM L) p = cat (lnL L) (encM L) (encM (pcl p)) := by unfold ppF; rw [if_pos hp]
  rw [e1, e2] at ho'
  rw [e1] at hcap ⊢
  exact ⟨_, rfl, hb, g', cap', rfl, (fun _ => hcap), ho'.congr (encM_app L (pcl p))⟩
def lsF (M : List Int) (j : Nat) : Int := M.getD j 0
set_option maxHeartbeats 1000000 in
theorem putNums_B (v : Value) (L M : List Int) (q c : Nat) (w : World) {B : Nat} (hL : L.length ≤ 50000) (hM : M.length ≤ 100) (h : Buf true w B v L) (hr : Rd .i64 w q (some ⟨q, 0, none⟩) M.length (lsF M)) :
    Calls Try.prog 106 #[v, .slice (some ⟨q, 0, none⟩) M.length c] w fun e w' => ∃ v', e = .returned v' ∧ Below w.heap.size w w' ∧ ∃ B', Buf true w' B' v' (L ++ M) ∧ (M ≠ [] → w.heap.size ≤ B') := by
  obtain ⟨n, hn⟩ : ∃ n, M.length = n := ⟨_, rfl⟩
  have HM : Hid (M.length = n) := hn
  rw [hn] at hr hM ⊢
  clear hn
  go_enter Try.func106, Try.ntmps106
  go_wp2
  go_loopw [0, 9] (fun b i wr => ∃ k : Nat, k ≤ n ∧ i = .int .i64 k ∧ Below w.heap.size w wr ∧ ∃ B', Buf true wr B' b (L ++ M.take k) ∧ (0 < k → w.heap.size ≤ B')) (fun _ i _ => n - (intOf i).toNat)
  case atStart => exact ⟨0, Nat.zero_le _, rfl, Below.refl _ _, B, by simpa using h, fun h => absurd h (by omega)⟩
  case round =>
    obtain ⟨k, hk, rfl, hb, B', bf, hB'⟩ := hrel
    by_cases hlt : k < n
    · rcases hr.grew hb with h3 | ⟨o1, e, h3⟩
      · omega
      simp only [Option.some.injEq, Addr.mk.injEq, and_true, true_and] at e
      subst e
      have e1 := h3 k hlt
      rw [Nat.zero_add] at e1
      have y1 : (0 : Int) ≤ (k : Int) := by omega
      have y2 : (k : Int) < (n : Int) := by omega
      have HT : Hid (L ++ M.take k ++ [lsF M k] = L ++ M.take (k + 1)) := by
        show _ = _
        have hkM : k < M.length := by rw [HM.out]; exact hlt
        rw [List.append_assoc, List.take_add_one]
        unfold lsF
        simp [hkM]
      generalize lsF M k = x at e1 HT
      clear h3
      go_wp2_with fail
      refine (implPutNum_B x _ (L ++ M.take k) wr (by simp; omega) bf).mono ?_
      rintro e w2 ⟨v2, rfl, hb2, bf2⟩
      rw [HT.out] at bf2
      have hB2 := below_app hb hb2 hb.size
      have hs := hb.size
      clear bf e1 HT hb2
      go_wp2
      go_roundw
      case rel => first | exact ⟨k + 1, by omega, by go_num, hB2, _, bf2, fun _ => hs⟩ | ((repeat apply Exists.intro); exact ⟨⟨k + 1, by omega, by go_num, hB2, _, bf2, fun _ => hs⟩, rfl⟩)
      case measure => simp [intOf]; omega
    · obtain rfl : k = n := by omega
      rw [List.take_of_length_le (by rw [HM.out]; exact Nat.le_refl _)] at bf
      go_wp2
      go_ret
      exact ⟨_, rfl, hb, B', bf, fun hne => hB' (by rw [← HM.out]; exact List.length_pos_iff.2 hne)⟩
theorem rd_new (w : World) (M : List Int) : Rd .i64 (w.alloc (.cells (M.map (Value.int .i64)).toArray 3)) w.heap.size (some ⟨w.heap.size, 0, none⟩) M.length (lsF M) := by
  refine .inr ⟨0, rfl, fun i hi => ?_⟩
  rw [cell_of_row _ w.heap.size (0 + i) _ 3 (0, 0) (heap_alloc_new w _)]
  unfold lsF
  simp [hi]
set_option maxHeartbeats 4000000 in
theorem implPutState_any (s : Stt) (w : World) (hok : s.ok w) (hn : s.pn ≤ 1048577) (hn2 : s.sn ≤ 1048577) :
    Calls Try.prog 57 #[(.agg #[.slice s.pa s.pn s.pcap, .slice s.sa s.sn s.scap, .int .i64 s.ac, .int .i64 s.cl])] w fun e w' => ∃ q cap, e = .returned (.slice (some ⟨q, 0, none⟩) (ptN s) cap) ∧ ptN s ≤ cap ∧ Below w.heap.size w w' ∧ Own .u8 w' w.heap.size q (some ⟨q, 0, none⟩) (ptN s) (ptF s) := by
  have hokw := hok
  obtain ⟨_, _, r1, _, _, r2, _⟩ := hok
  have hb0 := (Below.refl _ w).alloc (Nat.le_refl _) (.cells #[.slice s.pa s.pn s.pcap, .slice s.sa s.sn s.scap, .int .i64 s.ac, .int .i64 s.cl] 56)
  have x1 := boxR_new w 56 #[.slice s.pa s.pn s.pcap, .slice s.sa s.sn s.scap, .int .i64 s.ac, .int .i64 s.cl]
  generalize hW : w.alloc (.cells #[.slice s.pa s.pn s.pcap, .slice s.sa s.sn s.scap, .int .i64 s.ac, .int .i64 s.cl] 56) = W at hb0 x1
  have hokW : s.ok W := ok_grew hokw hb0
  have c0 := x1.cell 0
  have c1 := x1.cell 1
  have c2 := x1.cell 2
  have c3 := x1.cell 3
  simp at c0 c1 c2 c3
  go_enter Try.func57, Try.ntmps57
  go_wp2_with fail
  refine (implStateOk_any s W hokW hn hn2).mono ?_
  rintro e w1 ⟨rfl, hb1⟩
  have x2 := x1.grew hb1
  have hB1 := below_app hb0 hb1 hb0.size
  clear c0 c1 c2 c3 hW
  cases hs : okS s with
  | false =>
    have HN : Hid (ptN s = 0) := by show ptN s = 0; unfold ptN; rw [if_neg (by rw [hs]; simp)]
    go_wp2
    go_ret
    exact ⟨w1.heap.size, 0, by rw [HN.out]; rfl, by rw [HN.out]; exact Nat.le_refl _, hB1.alloc hB1.size _, by rw [HN.out]; exact own_none hB1.size⟩
  | true =>
  obtain ⟨p1, p2, p3, p4⟩ := okS_parts hs
  have HN : Hid (ptN s = lnL (stL s)) := by show ptN s = _; unfold ptN; rw [if_pos hs]
  have c0 := x2.cell 0
  have c1 := x2.cell 1
  simp at c0 c1
  go_wp2_with fail
  refine (implPutNum_B0 _ _).mono ?_
  rintro e w2 ⟨v2, rfl, hb2, B2⟩
  have x4 := x2.grew hb2
  have hB2 := below_app hB1 hb2 hB1.size
  have B2' : Buf true w2 w.heap.size v2 (stA s 0) := B2.down hB1.size
  have a0 := x4.cell 0
  simp at a0
  clear c0 c1 B2 hb2
  go_wp2
  clear a0
  go_loopw [3, 19] (fun v i wr => ∃ k : Nat, k ≤ s.pn ∧ i = .int .i64 k ∧ Below w.heap.size w wr ∧ Buf true wr w.heap.size v (stA s k) ∧ BoxR wr w.heap.size 56 #[.slice s.pa s.pn s.pcap, .slice s.sa s.sn s.scap, .int .i64 s.ac, .int .i64 s.cl]) (fun _ i _ => s.pn - (intOf i).toNat)
  case atStart => exact ⟨0, Nat.zero_le _, rfl, hB2, B2', x4⟩
  case round =>
    clear hB2 B2' x4
    obtain ⟨k, hk, rfl, hb, bf, x5⟩ := hrel
    by_cases hlt : k < s.pn
    · rcases r1.grew pcC_ne hb with g1 | ⟨o1, hpa, g1⟩
      · omega
      rw [hpa]
      obtain ⟨k0, k1, k2, k3, k4, k5, k6, k7, k8, k9, k10, k11, k12⟩ : At13 wr s.pb (o1 + k * 13) (s.ps k) := At13_of (g1 k hlt)
      have y1 : (0 : Int) ≤ (k : Int) := by omega
      have y2 : (k : Int) < (s.pn : Int) := by omega
      have hl := stA_len s k
      have bV := box_new wr 31 (s.ps k)
      have hbV := below_new2' wr (.cells #[.int .i64 (s.ps k).id, .int .i64 (s.ps k).ow, .int .i64 (s.ps k).si, .int .i64 (s.ps k).zo, .int .i64 (s.ps k).st, .int .i64 (s.ps k).po, .int .i64 (s.ps k).to, .int .i64 (s.ps k).tr, .int .i64 (s.ps k).pl, .int .i64 (s.ps k).mi, .int .i64 (s.ps k).ma, .bool (s.ps k).de, .bool (s.ps k).be] 31)
      generalize hV : wr.alloc (.cells #[.int .i64 (s.ps k).id, .int .i64 (s.ps k).ow, .int .i64 (s.ps k).si, .int .i64 (s.ps k).zo, .int .i64 (s.ps k).st, .int .i64 (s.ps k).po, .int .i64 (s.ps k).to, .int .i64 (s.ps k).tr, .int .i64 (s.ps k).pl, .int .i64 (s.ps k).mi, .int .i64 (s.ps k).ma, .bool (s.ps k).de, .bool (s.ps k).be] 31) = V at bV hbV
      obtain ⟨m0, m1, m2, m3, m4, m5, m6, m7, m8, m9, m10, m11, m12⟩ : Cells13 _ _ _ := bV.cells
      have hBV := below_app hb hbV hb.size
      have bf' := bf.grew hbV
      have HB : Hid (∀ u v, Buf true u V.heap.size v (stA s k ++ pcl (s.ps k)) → Buf true u w.heap.size v (stA s (k + 1))) := fun u v h => h.down hBV.size
      clear g1
      go_wp2_with fail
      refine (implPutPiece_B (s.ps k) _ (stA s k) V (p4 k hlt) (by omega) bf').mono ?_
      rintro e w3 ⟨v3, rfl, hb3, B3⟩
      have B4 := HB.out _ _ B3
      have hB3 := below_app hBV hb3 hBV.size
      have x6 := (x5.grew hbV).grew hb3
      rw [hpa] at x6
      clear k0 k1 k2 k3 k4 k5 k6 k7 k8 k9 k10 k11 k12 m0 m1 m2 m3 m4 m5 m6 m7 m8 m9 m10 m11 m12 hV bf bf' B3 HB hl
      go_wp2
      go_roundw
      case rel => first | exact ⟨k + 1, by omega, by go_num, hB3, B4, x6⟩ | ((repeat apply Exists.intro); exact ⟨⟨k + 1, by omega, by go_num, hB3, B4, x6⟩, rfl⟩)
      case measure => simp [intOf]; omega
    · obtain rfl : k = s.pn := by omega
      have hl := stA_len s s.pn
      have c1 := x5.cell 1
      simp at c1
      go_wp2_with fail
      refine (implPutNum_B _ _ (stA s s.pn) wr (by omega) bf).mono ?_
      rintro e w4 ⟨v4, rfl, hb4, B4⟩
      have x6 := x5.grew hb4
      have hB4 := below_app hb hb4 hb.size
      have B5 : Buf true w4 w.heap.size v4 (stB s 0) := B4.down hb.size
      have d1 := x6.cell 1
      simp at d1
      clear c1 bf B4 hl x5 hb4
      go_wp2
      clear d1
      go_loopw [3, 35] (fun v i wr => ∃ k : Nat, k ≤ s.sn ∧ i = .int .i64 k ∧ Below w.heap.size w wr ∧ Buf true wr w.heap.size v (stB s k) ∧ BoxR wr w.heap.size 56 #[.slice s.pa s.pn s.pcap, .slice s.sa s.sn s.scap, .int .i64 s.ac, .int .i64 s.cl]) (fun _ i _ => s.sn - (intOf i).toNat)
      case atStart => exact ⟨0, Nat.zero_le _, rfl, hB4, B5, x6⟩
      case round =>
        clear hB4 B5 x6 hb
        obtain ⟨k, hk, rfl, hb, bf, x5⟩ := hrel
        by_cases hlt : k < s.sn
        · rcases r2.grew sdC_ne hb with g1 | ⟨o1, hpa, g1⟩
          · omega
          rw [hpa]
          obtain ⟨k0, k1, k2⟩ : At3 _ s.sb (o1 + k * 3) (s.ss k) := At3_of (g1 k hlt)
          have y1 : (0 : Int) ≤ (k : Int) := by omega
          have y2 : (k : Int) < (s.sn : Int) := by omega
          have hl := stB_len s k
          have bV := boxR_new wr 68 #[.int .i64 (s.ss k).li, .int .i64 (s.ss k).po, .bool (s.ss k).lo]
          have hbV := below_new2' wr (.cells #[.int .i64 (s.ss k).li, .int .i64 (s.ss k).po, .bool (s.ss k).lo] 68)
          have hne : Hid (∀ u v, Buf true u w.heap.size v (stB s k ++ [(s.ss k).li, (s.ss k).po, bt (s.ss k).lo]) → Buf true u w.heap.size v (stB s (k + 1))) := fun u v h => by show Buf true u w.heap.size v (((stB s k ++ [(s.ss k).li]) ++ [(s.ss k).po]) ++ [bt (s.ss k).lo]); simpa using h
          generalize (s.ss k).li = li at hne k0 bV hbV
          generalize (s.ss k).po = po at hne k1 bV hbV
          generalize (s.ss k).lo = lo at hne k2 bV hbV
          generalize hV : wr.alloc (.cells #[.int .i64 li, .int .i64 po, .bool lo] 68) = V at bV hbV
          have m0 : V.cell? ⟨wr.heap.size, 0, none⟩ = some (.int .i64 li) := bV.cell 0
          have m1 : V.cell? ⟨wr.heap.size, 1, none⟩ = some (.int .i64 po) := bV.cell 1
          have m2 : V.cell? ⟨wr.heap.size, 2, none⟩ = some (.bool lo) := bV.cell 2
          have hBV := below_app hb hbV hb.size
          have x6 := x5.grew hbV
          have bf' := bf.grew hbV
          generalize stB s k = L at bf' hl hne
          have hl0 : L.length ≤ 50000 := by omega
          have hlt2 : wr.heap.size < V.heap.size := bV.lt
          have SK : ∀ u : World, Below V.heap.size V u → u.cell? ⟨wr.heap.size, 0, none⟩ = some (.int .i64 li) ∧ u.cell? ⟨wr.heap.size, 1, none⟩ = some (.int .i64 po) ∧ u.cell? ⟨wr.heap.size, 2, none⟩ = some (.bool lo) := fun u hu => ⟨(hu.cell (World.block_lt_of_cell? _ _ m0)).trans m0, (hu.cell (World.block_lt_of_cell? _ _ m1)).trans m1, (hu.cell (World.block_lt_of_cell? _ _ m2)).trans m2⟩
          have SK0 : Hid (Below V.heap.size V V.drew) := (Below.refl _ V).drew
          have SK1 : Hid (Below V.heap.size V (V.drew.alloc (.cells #[.int .i64 li, .int .i64 po, .int .i64 (bt lo)] 3))) := ((Below.refl _ V).drew).alloc (Nat.le_refl _) _
          have bD : Hid (Buf true (V.drew.alloc (.cells #[.int .i64 li, .int .i64 po, .int .i64 (bt lo)] 3)) w.heap.size _ L) := bf'.grew SK1.out
          have rD : Hid (Rd .i64 (V.drew.alloc (.cells #[.int .i64 li, .int .i64 po, .int .i64 (bt lo)] 3)) V.heap.size (some ⟨V.heap.size, 0, none⟩) [li, po, bt lo].length (lsF [li, po, bt lo])) := rd_new V.drew [li, po, bt lo]
          clear g1
          go_wp2_with fail
          clear k0 k1 k2 m0 m1 m2 hV
          go_region_held (fun u : World => u.cell? ⟨wr.heap.size, 0, none⟩ = some (.int .i64 li) ∧ u.cell? ⟨wr.heap.size, 1, none⟩ = some (.int .i64 po) ∧ u.cell? ⟨wr.heap.size, 2, none⟩ = some (.bool lo)) (first | assumption | exact SK _ hq1 | exact SK _ SK1.out | exact SK _ SK0.out) (first | (go_at_call 107; refine (flagNum_b _ _).mono ?_; rintro e w' ⟨rfl, rfl⟩) | (go_at_call 106; refine (putNums_B _ L [li, po, bt lo] V.heap.size _ _ hl0 (by simp) bD.out rD.out).mono ?_; rintro e z1 ⟨v1, rfl, hb1, B1, bf1, hB1'⟩; have hq1 := below_app SK1.out hb1 SK1.out.size))
          all_goals
            have hB1'' : w.heap.size ≤ B1 := by have h1 := hB1' (by simp); have h2 := SK1.out.size; have h3 := hBV.size; omega
            have bfn := hne.out _ _ (bf1.down hB1'')
            have hBn := below_app hBV hq1 hBV.size
            have xn := x6.grew hq1
            rw [hpa] at xn
            clear SK SK0 SK1 bD rD hne
            go_wp2
            go_roundw
            case rel => first | exact ⟨k + 1, by omega, by go_num, hBn, bfn, xn⟩ | ((repeat apply Exists.intro); exact ⟨⟨k + 1, by omega, by go_num, hBn, bfn, xn⟩, rfl⟩)
            case measure => simp [intOf]; omega
        · obtain rfl : k = s.sn := by omega
          have hl := stB_len s s.sn
          have c2 := x5.cell 2
          have c3 := x5.cell 3
          simp at c2 c3
          have hbV := below_new2' wr (.cells #[.int .i64 s.ac, .int .i64 s.cl] 3)
          have rD : Rd .i64 (wr.alloc (.cells #[.int .i64 s.ac, .int .i64 s.cl] 3)) wr.heap.size (some ⟨wr.heap.size, 0, none⟩) [s.ac, s.cl].length (lsF [s.ac, s.cl]) := rd_new wr [s.ac, s.cl]
          have HL : Hid (∀ u v, Buf true u w.heap.size v (stB s s.sn ++ [s.ac, s.cl]) → ∃ q cap, v = .slice (some ⟨q, 0, none⟩) (ptN s) cap ∧ ptN s ≤ cap ∧ Own .u8 u w.heap.size q (some ⟨q, 0, none⟩) (ptN s) (ptF s)) := fun u v h => by
            have h' : Buf true u w.heap.size v (stL s) := by unfold stL; simpa using h
            obtain ⟨g, cap, h1, h2, h3⟩ := h'
            rw [HN.out]
            exact ⟨g, cap, h1, h2 rfl, h3⟩
          generalize hV : wr.alloc (.cells #[.int .i64 s.ac, .int .i64 s.cl] 3) = V at hbV rD
          have bf' := bf.grew hbV
          have hBV := below_app hb hbV hb.size
          go_wp2_with fail
          refine (putNums_B _ (stB s s.sn) [s.ac, s.cl] wr.heap.size _ V (by omega) (by simp) bf' rD).mono ?_
          rintro e w5 ⟨v5, rfl, hb5, B5, bf5, hB5⟩
          obtain ⟨q, cap, rfl, hcap, hown⟩ := HL.out _ _ (bf5.down (by have h1 := hB5 (by simp); have h2 := hBV.size; omega))
          have hBn := below_app hBV hb5 hBV.size
          clear c2 c3 hV rD HL
          go_wp2
          go_ret
          exact ⟨q, cap, rfl, hcap, hBn, hown⟩
end Go.Proofs.Ytnlnledijpcjpab
namespace Go.Proofs.Ytnlnledijpcjpab
open Go.ChangeShapes Go.WideShapes Go.ChangeAt Go.RowKit
set_option maxRecDepth 100000
set_option linter.unusedVariables false
section
variable {t s t' s' : Stt} {w w0 w0' : World} {B B' : Nat}
theorem alike_stA (a : Alike t s) : ∀ k, stA t k = stA s k
  | 0 => by unfold stA; rw [a.pn]
  | k + 1 => by unfold stA; rw [alike_stA a k, a.ps]
theorem alike_stB (a : Alike t s) : ∀ k, stB t k = stB s k
  | 0 => by unfold stB; rw [alike_stA a, a.pn, a.sn]
  | k + 1 => by unfold stB; rw [alike_stB a k, a.ss]
theorem alike_stL (a : Alike t s) : stL t = stL s := by unfold stL; rw [alike_stB a, a.sn, a.ac, a.cl]
theorem alike_ptN (a : Alike t s) : ptN t = ptN s := by unfold ptN; rw [alike_okS a, alike_stL a]
theorem alike_ptF (a : Alike t s) : ptF t = ptF s := by unfold ptF; rw [alike_stL a]
theorem specPutState_al (h : OwnT w B t) (a : Alike t s) (hs : s.ok w0) (hn : s.pn ≤ 1048576) (hn2 : s.sn ≤ 1048576) : Calls Try.prog 112 #[(.agg #[.slice t.pa t.pn t.pcap, .slice t.sa t.sn t.scap, .int .i64 t.ac, .int .i64 t.cl])] w fun e w' => ∃ q cap, e = .returned (.slice (some ⟨q, 0, none⟩) (ptN s) cap) ∧ Below w.heap.size w w' ∧ Own .u8 w' w.heap.size q (some ⟨q, 0, none⟩) (ptN s) (ptF s) := by
  rw [← alike_ptN a, ← alike_ptF a]; exact specPutState_any t w (okT h a hs) (by rw [a.pn]; omega) (by rw [a.sn]; omega)
theorem implPutState_al (h : OwnT w B t) (a : Alike t s) (hs : s.ok w0) (hn : s.pn ≤ 1048576) (hn2 : s.sn ≤ 1048576) : Calls Try.prog 57 #[(.agg #[.slice t.pa t.pn t.pcap, .slice t.sa t.sn t.scap, .int .i64 t.ac, .int .i64 t.cl])] w fun e w' => ∃ q cap, e = .returned (.slice (some ⟨q, 0, none⟩) (ptN s) cap) ∧ Below w.heap.size w w' ∧ Own .u8 w' w.heap.size q (some ⟨q, 0, none⟩) (ptN s) (ptF s) := by
  rw [← alike_ptN a, ← alike_ptF a]
  refine (implPutState_any t w (okT h a hs) (by rw [a.pn]; omega) (by rw [a.sn]; omega)).mono ?_
  rintro e w' ⟨q, cap, h1, _, h2, h3⟩
  exact ⟨q, cap, h1, h2, h3⟩
end
end Go.Proofs.Ytnlnledijpcjpab
