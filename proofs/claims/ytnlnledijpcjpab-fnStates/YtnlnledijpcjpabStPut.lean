/-
  Chapter 5: a state's bytes: numbers laid into a buffer one behind the other (Buf); the specification's PutState. Own work.
-/
import Derived.Test.YtnlnledijpcjpabState7
import Derived.Test.YtnlnledijpcjpabPiece4
import Derived.Test.YtnlnledijpcjpabStAt
import Derived.Test.YtnlnledijpcjpabRegs
import Derived.Deep.RegionHeld
namespace Go.Proofs.Ytnlnledijpcjpab
open Go.ChangeShapes Go.WideShapes Go.ChangeAt Go.RowKit
set_option maxRecDepth 100000
set_option linter.unusedVariables false
def lnL (L : List Int) : Nat := 4 * L.length
theorem encM_app1 (L : List Int) (n : Int) : ∀ i, i < lnL (L ++ [n]) → cat (lnL L) (encM L) (enc n) i = encM (L ++ [n]) i := by
  intro i hi
  unfold lnL at hi ⊢
  simp only [List.length_append, List.length_cons, List.length_nil] at hi
  unfold cat encM
  by_cases h : i < 4 * L.length
  · rw [if_pos h]
    congr 1
    simp only [List.getD]
    rw [List.getElem?_append_left (by omega)]
  · rw [if_neg h]
    have e1 : i / 4 = L.length := by omega
    have e2 : i - 4 * L.length = i % 4 := by omega
    rw [e1, e2]
    simp [List.getD]
theorem encM_app (L M : List Int) : ∀ i, i < lnL (L ++ M) → cat (lnL L) (encM L) (encM M) i = encM (L ++ M) i := by
  intro i hi
  unfold lnL at hi ⊢
  simp only [List.length_append] at hi
  unfold cat encM
  by_cases h : i < 4 * L.length
  · rw [if_pos h]
    congr 1
    simp only [List.getD]
    rw [List.getElem?_append_left (by omega)]
  · rw [if_neg h]
    have e1 : (i - 4 * L.length) / 4 = i / 4 - L.length := by omega
    have e2 : (i - 4 * L.length) % 4 = i % 4 := by omega
    rw [e1, e2]
    congr 1
    simp only [List.getD]
    rw [List.getElem?_append_right (by omega)]
theorem wp_cutT2 {β : Type} {P : Program} {c : Go.Code} {a : Act} {w : World} {K : Act → World → Prop} {Q : Exit → Act → World → Prop} (vs : β → List (Nat × Value)) (F : β → World → Prop)
    (h : c.wp P (Exit.then (fun a' u => ∃ x, a' = puts a (vs x) ∧ F x u) Q) a w) (hk : ∀ x u, F x u → K (puts a (vs x)) u) : c.wp P (Exit.then K Q) a w := by
  refine wp_mono h fun e a' u hq => ?_
  cases e
  case normal => obtain ⟨x, rfl, hf⟩ := hq; exact hk x u hf
  all_goals exact hq
/-- a buffer of the call's own that holds these numbers; c: that its room is told -/
def Buf (c : Bool) (w : World) (B : Nat) (v : Value) (L : List Int) : Prop := ∃ g cap, v = .slice (some ⟨g, 0, none⟩) (lnL L) cap ∧ (c = true → lnL L ≤ cap) ∧ Own .u8 w B g (some ⟨g, 0, none⟩) (lnL L) (encM L)
theorem Buf.grew {c : Bool} {w w' : World} {B : Nat} {v : Value} {L : List Int} (h : Buf c w B v L) (hb : Below w.heap.size w w') : Buf c w' B v L := by
  obtain ⟨g, cap, h1, h2, h3⟩ := h
  exact ⟨g, cap, h1, h2, h3.grew hb⟩
theorem Buf.down {c : Bool} {w : World} {B B' : Nat} {v : Value} {L : List Int} (h : Buf c w B v L) (hB : B' ≤ B) : Buf c w B' v L := by
  obtain ⟨g, cap, h1, h2, h3⟩ := h
  exact ⟨g, cap, h1, h2, Nat.le_trans hB h3.1, h3.2⟩
theorem specPutNum_B (n : Int) (v : Value) (L : List Int) (w : World) {B : Nat} (hL : L.length ≤ 100000) (h : Buf false w B v L) :
    Calls Try.prog 132 #[v, .int .i64 n] w fun e w' => ∃ v', e = .returned v' ∧ Below w.heap.size w w' ∧ Buf false w' w.heap.size v' (L ++ [n]) := by
  obtain ⟨g, cap, rfl, _, ho⟩ := h
  refine (specPutNum_any n ⟨g, 0, none⟩ g (lnL L) cap (encM L) w (by unfold lnL; omega) ho.rd).mono ?_
  rintro e w' ⟨g', cap', rfl, hb, ho'⟩
  have e1 : lnL L + 4 = lnL (L ++ [n]) := by unfold lnL; simp; omega
  rw [e1] at ho' ⊢
  exact ⟨_, rfl, hb, g', cap', rfl, (fun h => (nomatch h)), ho'.congr (encM_app1 L n)⟩
theorem specPutPiece_B (p : Pc) (v : Value) (L : List Int) (w : World) {B : Nat} (hp : okP p = true) (hL : L.length ≤ 100000) (h : Buf false w B v L) :
    Calls Try.prog 94 #[v, (.agg #[.int .i64 p.id, .int .i64 p.ow, .int .i64 p.si, .int .i64 p.zo, .int .i64 p.st, .int .i64 p.po, .int .i64 p.to, .int .i64 p.tr, .int .i64 p.pl, .int .i64 p.mi, .int .i64 p.ma, .bool p.de, .bool p.be])] w fun e w' => ∃ v', e = .returned v' ∧ Below w.heap.size w w' ∧ Buf false w' w.heap.size v' (L ++ pcl p) := by
  obtain ⟨g, cap, rfl, _, ho⟩ := h
  refine (specPutPiece_any ⟨g, 0, none⟩ g (lnL L) cap (encM L) p w (by unfold lnL; omega) ho.rd).mono ?_
  rintro e w' ⟨g', cap', rfl, hb, ho'⟩
  have e1 : ppN (lnL L) p = lnL (L ++ pcl p) := by unfold ppN lnL; rw [if_pos hp]; simp [pcl]; omega
  have e2 : ppF (lnL L) (encM L) p = cat (lnL L) (encM L) (encM (pcl p)) := by unfold ppF; rw [if_pos hp]
  rw [e1, e2] at ho'
  rw [e1]
  exact ⟨_, rfl, hb, g', cap', rfl, (fun h => (nomatch h)), ho'.congr (encM_app L (pcl p))⟩
/-- the numbers of a state, as chapter 5 lays them -/
def stA (s : Stt) : Nat → List Int
  | 0 => [(s.pn : Int)]
  | k + 1 => stA s k ++ pcl (s.ps k)
def stB (s : Stt) : Nat → List Int
  | 0 => stA s s.pn ++ [(s.sn : Int)]
  | k + 1 => ((stB s k ++ [(s.ss k).li]) ++ [(s.ss k).po]) ++ [bt (s.ss k).lo]
def stL (s : Stt) : List Int := (stB s s.sn ++ [s.ac]) ++ [s.cl]
theorem stA_len (s : Stt) : ∀ k, (stA s k).length = 1 + 13 * k
  | 0 => rfl
  | k + 1 => by rw [stA, List.length_append, stA_len s k]; simp [pcl]; omega
theorem stB_len (s : Stt) : ∀ k, (stB s k).length = 2 + 13 * s.pn + 3 * k
  | 0 => by rw [stB, List.length_append, stA_len]; simp; omega
  | k + 1 => by rw [stB]; simp only [List.length_append, stB_len s k, List.length_cons, List.length_nil]; omega
theorem stL_len (s : Stt) : (stL s).length = 4 + 13 * s.pn + 3 * s.sn := by unfold stL; simp only [List.length_append, stB_len, List.length_cons, List.length_nil]; omega
def ptN (s : Stt) : Nat := if okS s = true then lnL (stL s) else 0
def ptF (s : Stt) : Nat → Int := encM (stL s)
theorem okS_parts {s : Stt} (h : okS s = true) : s.pn ≤ 8 ∧ 2 ≤ s.sn ∧ s.sn ≤ 3 ∧ (∀ k, k < s.pn → okP (s.ps k) = true) := by
  unfold okS hdS psS at h
  simp only [Bool.and_eq_true, decide_eq_true_eq, ib] at h
  obtain ⟨⟨⟨⟨⟨h1, h2⟩, _⟩, _⟩, h5⟩, _⟩ := h
  refine ⟨h1, by omega, by omega, fun k hk => ?_⟩
  have := List.all_eq_true.1 h5 k (List.mem_range.2 hk)
  unfold pAt at this
  simp only [Bool.and_eq_true] at this
  exact this.1.1.1.1
theorem ptN_le (s : Stt) : ptN s ≤ 1000 := by
  unfold ptN lnL
  split
  · rename_i h
    have := okS_parts h
    rw [stL_len]
    omega
  · omega
theorem own_none {w : World} {B : Nat} {t : TypeId} {f : Nat → Int} (hB : B ≤ w.heap.size) : Own .u8 (w.alloc (.cells #[] t)) B w.heap.size (some ⟨w.heap.size, 0, none⟩) 0 f := ⟨hB, by simp, .inl rfl, free_row (heap_alloc_new w _)⟩
set_option maxHeartbeats 4000000 in
theorem specPutState_any (s : Stt) (w : World) (hok : s.ok w) (hn : s.pn ≤ 1048576) (hn2 : s.sn ≤ 1048576) :
    Calls Try.prog 112 #[(.agg #[.slice s.pa s.pn s.pcap, .slice s.sa s.sn s.scap, .int .i64 s.ac, .int .i64 s.cl])] w fun e w' => ∃ q cap, e = .returned (.slice (some ⟨q, 0, none⟩) (ptN s) cap) ∧ Below w.heap.size w w' ∧ Own .u8 w' w.heap.size q (some ⟨q, 0, none⟩) (ptN s) (ptF s) := by
  have hokw := hok
  obtain ⟨_, _, r1, _, _, r2, _⟩ := hok
  have hb0 := (Below.refl _ w).alloc (Nat.le_refl _) (.cells #[.slice s.pa s.pn s.pcap, .slice s.sa s.sn s.scap, .int .i64 s.ac, .int .i64 s.cl] 56)
  have x1 := boxR_new w 56 #[.slice s.pa s.pn s.pcap, .slice s.sa s.sn s.scap, .int .i64 s.ac, .int .i64 s.cl]
  generalize hW : w.alloc (.cells #[.slice s.pa s.pn s.pcap, .slice s.sa s.sn s.scap, .int .i64 s.ac, .int .i64 s.cl] 56) = W at hb0 x1
  have hokW : s.ok W := ⟨hokw.1, hokw.2.1, r1.grew pcC_ne hb0, hokw.2.2.2.1, hokw.2.2.2.2.1, r2.grew sdC_ne hb0, hokw.2.2.2.2.2.2⟩
  have c0 := x1.cell 0
  have c1 := x1.cell 1
  have c2 := x1.cell 2
  have c3 := x1.cell 3
  simp at c0 c1 c2 c3
  go_enter Try.func112, Try.ntmps112
  go_wp2_with fail
  refine (specStateOk_any s W hokW hn hn2).mono ?_
  rintro e w1 ⟨rfl, hb1⟩
  have x2 := x1.grew hb1
  have hB1 := below_app hb0 hb1 hb0.size
  clear c0 c1 c2 c3 hW
  cases hs : okS s with
  | false =>
    have HN : Hid (ptN s = 0) := by show ptN s = 0; unfold ptN; rw [if_neg (by rw [hs]; simp)]
    go_wp2
    go_ret
    exact ⟨w1.heap.size, 0, by rw [HN.out]; rfl, hB1.alloc hB1.size _, by rw [HN.out]; exact own_none hB1.size⟩
  | true =>
  obtain ⟨p1, p2, p3, p4⟩ := okS_parts hs
  have HN : Hid (ptN s = lnL (stL s)) := by show ptN s = _; unfold ptN; rw [if_pos hs]
  have c0 := x2.cell 0
  have c1 := x2.cell 1
  simp at c0 c1
  have hbA := (Below.refl _ w1).alloc (Nat.le_refl _) (.cells #[] 5)
  have B0 : Buf false (w1.alloc (.cells #[] 5)) w1.heap.size (.slice (some ⟨w1.heap.size, 0, none⟩) 0 0) [] := ⟨w1.heap.size, 0, rfl, fun _ => Nat.le_refl _, own_none (Nat.le_refl _)⟩
  have x3 := x2.alloc (.cells #[] 5)
  generalize hA : w1.alloc (.cells #[] 5) = WA at hbA B0 x3
  have a0 := x3.cell 0
  simp at a0
  go_wp2_with fail
  refine (specPutNum_B _ _ [] _ (by simp) B0).mono ?_
  rintro e w2 ⟨v2, rfl, hb2, B2⟩
  have x4 := x3.grew hb2
  have hB2 := below_app hB1 (below_app hbA hb2 hbA.size) hB1.size
  have hw2 : w.heap.size ≤ WA.heap.size := by have h1 := hB1.size; have h2 := hbA.size; omega
  have B2' : Buf false w2 w.heap.size v2 (stA s 0) := B2.down hw2
  clear c0 c1 a0 hA B0 B2 hb2 hbA
  go_wp2
  go_loopw [3, 4] (fun v i wr => ∃ k : Nat, k ≤ s.pn ∧ i = .int .i64 k ∧ Below w.heap.size w wr ∧ Buf false wr w.heap.size v (stA s k) ∧ BoxR wr w.heap.size 56 #[.slice s.pa s.pn s.pcap, .slice s.sa s.sn s.scap, .int .i64 s.ac, .int .i64 s.cl]) (fun _ i _ => s.pn - (intOf i).toNat)
  case atStart => exact ⟨0, Nat.zero_le _, rfl, hB2, B2', x4⟩
  case round =>
    clear hB2 B2' x4
    obtain ⟨k, hk, rfl, hb, bf, x5⟩ := hrel
    have c0 := x5.cell 0
    have c1 := x5.cell 1
    simp at c0 c1
    by_cases hlt : k < s.pn
    · rcases r1.grew pcC_ne hb with g1 | ⟨o1, hpa, g1⟩
      · omega
      rw [hpa] at c0
      obtain ⟨k0, k1, k2, k3, k4, k5, k6, k7, k8, k9, k10, k11, k12⟩ : At13 wr s.pb (o1 + k * 13) (s.ps k) := At13_of (g1 k hlt)
      have y1 : (0 : Int) ≤ (k : Int) := by omega
      have y2 : (k : Int) < (s.pn : Int) := by omega
      have hl := stA_len s k
      have HB : Hid (∀ u v, Buf false u wr.heap.size v (stA s k ++ pcl (s.ps k)) → Buf false u w.heap.size v (stA s (k + 1))) := fun u v h => h.down hb.size
      clear hpa g1
      go_wp2_with fail
      refine (specPutPiece_B (s.ps k) _ (stA s k) wr (p4 k hlt) (by omega) bf).mono ?_
      rintro e w3 ⟨v3, rfl, hb3, B3⟩
      have B4 := HB.out _ _ B3
      have hB3 := below_app hb hb3 hb.size
      have x6 := x5.grew hb3
      clear k0 k1 k2 k3 k4 k5 k6 k7 k8 k9 k10 k11 k12 c0 c1 bf B3 HB hl
      go_wp2
      go_roundw
      case rel => first | exact ⟨k + 1, by omega, by go_num, hB3, B4, x6⟩ | ((repeat apply Exists.intro); exact ⟨⟨k + 1, by omega, by go_num, hB3, B4, x6⟩, rfl⟩)
      case measure => simp [intOf]; omega
    · obtain rfl : k = s.pn := by omega
      have hl := stA_len s s.pn
      go_wp2_with fail
      refine (specPutNum_B _ _ (stA s s.pn) wr (by omega) bf).mono ?_
      rintro e w4 ⟨v4, rfl, hb4, B4⟩
      have x6 := x5.grew hb4
      have hB4 := below_app hb hb4 hb.size
      have B5 : Buf false w4 w.heap.size v4 (stB s 0) := B4.down hb.size
      clear c0 c1 bf B4 hl x5 hb4
      go_wp2
      go_loopw [3, 5] (fun v i wr => ∃ k : Nat, k ≤ s.sn ∧ i = .int .i64 k ∧ Below w.heap.size w wr ∧ Buf false wr w.heap.size v (stB s k) ∧ BoxR wr w.heap.size 56 #[.slice s.pa s.pn s.pcap, .slice s.sa s.sn s.scap, .int .i64 s.ac, .int .i64 s.cl]) (fun _ i _ => s.sn - (intOf i).toNat)
      case atStart => exact ⟨0, Nat.zero_le _, rfl, hB4, B5, x6⟩
      case round =>
        clear hB4 B5 x6 hb
        obtain ⟨k, hk, rfl, hb, bf, x5⟩ := hrel
        have c1 := x5.cell 1
        have c2 := x5.cell 2
        have c3 := x5.cell 3
        simp at c1 c2 c3
        by_cases hlt : k < s.sn
        · rcases r2.grew sdC_ne hb with g1 | ⟨o1, hpa, g1⟩
          · omega
          rw [hpa] at c1
          obtain ⟨k0, k1, k2⟩ : At3 _ s.sb (o1 + k * 3) (s.ss k) := At3_of (g1 k hlt)
          have y1 : (0 : Int) ≤ (k : Int) := by omega
          have y2 : (k : Int) < (s.sn : Int) := by omega
          have hl := stB_len s k
          clear hpa g1
          have hne : Hid (∀ u v, Buf false u w.heap.size v (((stB s k ++ [(s.ss k).li]) ++ [(s.ss k).po]) ++ [bt (s.ss k).lo]) → Buf false u w.heap.size v (stB s (k + 1))) := fun u v h => h
          have SK : ∀ u : World, Below wr.heap.size wr u → u.cell? ⟨w.heap.size, 1, none⟩ = some (.slice (some ⟨s.sb, o1, none⟩) s.sn s.scap) ∧ u.cell? ⟨s.sb, o1 + k * 3, none⟩ = some (.int .i64 (s.ss k).li) ∧ u.cell? ⟨s.sb, o1 + k * 3 + 1, none⟩ = some (.int .i64 (s.ss k).po) ∧ u.cell? ⟨s.sb, o1 + k * 3 + 2, none⟩ = some (.bool (s.ss k).lo) := fun u hu => ⟨(hu.cell (World.block_lt_of_cell? _ _ c1)).trans c1, (hu.cell (World.block_lt_of_cell? _ _ k0)).trans k0, (hu.cell (World.block_lt_of_cell? _ _ k1)).trans k1, (hu.cell (World.block_lt_of_cell? _ _ k2)).trans k2⟩
          have SK0 : Hid (Below wr.heap.size wr wr.drew) := (Below.refl _ wr).drew
          have bD : Hid (Buf false wr.drew w.heap.size _ (stB s k)) := bf
          generalize (s.ss k).li = li at SK k0 hne
          generalize (s.ss k).po = po at SK k1 hne
          generalize (s.ss k).lo = lo at SK k2 hne
          generalize stB s k = L at bD hl hne
          have hl1 : (L ++ [li]).length ≤ 100000 := by simp; omega
          have hl2 : ((L ++ [li]) ++ [po]).length ≤ 100000 := by simp; omega
          have hl0 : L.length ≤ 100000 := by omega
          go_wp2_with fail
          clear k0 k1 k2 c1 c2 c3
          go_region_held (fun u : World => u.cell? ⟨w.heap.size, 1, none⟩ = some (.slice (some ⟨s.sb, o1, none⟩) s.sn s.scap) ∧ u.cell? ⟨s.sb, o1 + k * 3, none⟩ = some (.int .i64 li) ∧ u.cell? ⟨s.sb, o1 + k * 3 + 1, none⟩ = some (.int .i64 po) ∧ u.cell? ⟨s.sb, o1 + k * 3 + 2, none⟩ = some (.bool lo)) (first | assumption | exact SK _ hq3 | exact SK _ hq2 | exact SK _ hq1 | exact SK _ SK0.out) (first | (go_at_call 131; refine (l4Bit_any _ _).mono ?_; rintro e w' ⟨rfl, rfl⟩) | (go_at_call 132; first | (refine (specPutNum_B _ _ ((L ++ [li]) ++ [po]) _ hl2 bf2).mono ?_; rintro e z3 ⟨v3, rfl, hb3, bf3⟩; have hq3 := below_app hq2 hb3 hq2.size) | (refine (specPutNum_B _ _ (L ++ [li]) _ hl1 bf1).mono ?_; rintro e z2 ⟨v2, rfl, hb2, bf2⟩; have hq2 := below_app hq1 hb2 hq1.size) | (refine (specPutNum_B _ _ L _ hl0 bD.out).mono ?_; rintro e z1 ⟨v1, rfl, hb1, bf1⟩; have hq1 := SK0.out.trans hb1)))
          all_goals
            have bfn := hne.out _ _ ((bf3.down hq2.size).down hb.size)
            have hBn := below_app hb hq3 hb.size
            have xn := x5.grew hq3
            clear SK SK0 bD hne
            go_wp2
            go_roundw
            case rel => first | exact ⟨k + 1, by omega, by go_num, hBn, bfn, xn⟩ | ((repeat apply Exists.intro); exact ⟨⟨k + 1, by omega, by go_num, hBn, bfn, xn⟩, rfl⟩)
            case measure => simp [intOf]; omega
        · obtain rfl : k = s.sn := by omega
          have hl := stB_len s s.sn
          have SK : ∀ u : World, Below wr.heap.size wr u → u.cell? ⟨w.heap.size, 2, none⟩ = some (.int .i64 s.ac) ∧ u.cell? ⟨w.heap.size, 3, none⟩ = some (.int .i64 s.cl) := fun u hu => ⟨(hu.cell (World.block_lt_of_cell? _ _ c2)).trans c2, (hu.cell (World.block_lt_of_cell? _ _ c3)).trans c3⟩
          have SK0 : Hid (Below wr.heap.size wr wr.drew) := (Below.refl _ wr).drew
          have bD : Hid (Buf false wr.drew w.heap.size _ (stB s s.sn)) := bf
          have HL : Hid (∀ u v, Buf false u w.heap.size v ((stB s s.sn ++ [s.ac]) ++ [s.cl]) → ∃ q cap, v = .slice (some ⟨q, 0, none⟩) (ptN s) cap ∧ Own .u8 u w.heap.size q (some ⟨q, 0, none⟩) (ptN s) (ptF s)) := fun u v h => by
            obtain ⟨g, cap, h1, _, h3⟩ := h
            rw [HN.out]
            exact ⟨g, cap, h1, h3⟩
          generalize stB s s.sn = L at bD hl HL
          have hl1 : (L ++ [s.ac]).length ≤ 100000 := by simp; omega
          have hl0 : L.length ≤ 100000 := by omega
          go_wp2_with fail
          clear c1 c2 c3
          go_region_held (fun u : World => u.cell? ⟨w.heap.size, 2, none⟩ = some (.int .i64 s.ac) ∧ u.cell? ⟨w.heap.size, 3, none⟩ = some (.int .i64 s.cl)) (first | assumption | exact SK _ hq2 | exact SK _ hq1 | exact SK _ SK0.out) (first | (go_at_call 132; first | (refine (specPutNum_B _ _ (L ++ [s.ac]) _ hl1 bf1).mono ?_; rintro e z2 ⟨v2, rfl, hb2, bf2⟩; have hq2 := below_app hq1 hb2 hq1.size) | (refine (specPutNum_B _ _ L _ hl0 bD.out).mono ?_; rintro e z1 ⟨v1, rfl, hb1, bf1⟩; have hq1 := SK0.out.trans hb1)))
          all_goals
            obtain ⟨q, cap, rfl, hown⟩ := HL.out _ _ ((bf2.down hq1.size).down hb.size)
            have hBn := below_app hb hq2 hb.size
            clear SK SK0 bD HL
            go_wp2
            go_ret
            exact ⟨q, cap, rfl, hBn, hown⟩
end Go.Proofs.Ytnlnledijpcjpab
