/-
  Chapter 11: a list of effects while it is drawn (DTb); the draw l11Draw. Written by tools/drawtab.gen.py. Chapter 11: the draw l11Any. Written by tools/drawtab.gen.py. Own work.
-/
import Derived.Test.YtodfdfncdoliiadGreatGDrawEf2
import Derived.Test.YtodfdfncdoliiadGreatGEfC3
import Derived.Great.BuildSlice
import Derived.Deep.RegionHeld
import Derived.Deep.MidRow
namespace Go.Proofs.YtodfdfncdoliiadGreat
open Go.ChangeShapes Go.WideShapes Go.ChangeAt Go.RowKit
set_option maxRecDepth 100000
set_option linter.unusedVariables false
set_option linter.unusedSimpArgs false

theorem owns_apart {w : World} {B1 B2 e1 e2 m1 m2 n1 n2 : Nat} {v1 v2 : Value} {xs1 xs2 : List Value} (h1 : w.ownsRow B1 e1 m1 v1 n1 xs1) (h2 : w.ownsRow B2 e2 m2 v2 n2 xs2) (he : e1 ≠ e2) : ∀ q, v1.ownBlock = some q → v2.ownBlock ≠ some q := by
  intro q hq hq2
  rcases h1.2 with ⟨rfl, _⟩ | ⟨g1, c1, cur1, rfl, _, hg1, _⟩
  · simp [Value.ownBlock] at hq
  rcases h2.2 with ⟨rfl, _⟩ | ⟨g2, c2, cur2, rfl, _, hg2, _⟩
  · simp [Value.ownBlock] at hq2
  simp only [Value.ownBlock, Option.some.injEq] at hq hq2
  subst hq
  subst hq2
  rw [hg1] at hg2
  simp only [Option.some.injEq, Obj.cells.injEq] at hg2
  exact he hg2.2.1
theorem owns_onlyE {w w' : World} {p B m : Nat} {e : TypeId} {v : Value} {n : Nat} {xs : List Value} (h : w.ownsRow B e m v n xs) (ho : Only p w w') (hp : p < B) : w'.ownsRow B e m v n xs :=
  row_same h (fun q hq => ho.block q (h.lt q hq).2 (by have := (h.lt q hq).1; omega))
/-- a list of effects of the draw's own, each with a list of its own -/
def DTb (w : World) (B : Nat) (v : Value) (k : Nat) (g : Nat → Ef) : Prop := w.ownsRow B 32 22 v k (valsE efC k g) ∧ v ≠ .slice none 0 0 ∧ ∀ i, i < k → EW (g i) ∧ RowA w B (g i).ac
theorem DTb.only {w w' : World} {B p k : Nat} {v : Value} {g : Nat → Ef} (h : DTb w B v k g) (ho : Only p w w') (hp : p < B) : DTb w' B v k g := ⟨owns_onlyE h.1 ho hp, h.2.1, fun i hi => ⟨(h.2.2 i hi).1, RowA.only (h.2.2 i hi).2 ho hp⟩⟩
theorem DTb.grew {w w' : World} {B k : Nat} {v : Value} {g : Nat → Ef} (h : DTb w B v k g) (hb : Below w.heap.size w w') : DTb w' B v k g := ⟨row_grewE h.1 hb, h.2.1, fun i hi => ⟨(h.2.2 i hi).1, RowA.grew (h.2.2 i hi).2 hb⟩⟩
theorem DTb.down {w : World} {B B' k : Nat} {v : Value} {g : Nat → Ef} (h : DTb w B v k g) (hB : B' ≤ B) : DTb w B' v k g := ⟨row_down h.1 hB, h.2.1, fun i hi => ⟨(h.2.2 i hi).1, RowA.down (h.2.2 i hi).2 hB⟩⟩
theorem RowA.grownE {w w' : World} {B B' m n : Nat} {v : Value} {xs : List Value} {t : Ac} (h : RowA w B t) (ho : w.ownsRow B' 32 m v n xs) (hg : w.grownBy w' v.ownBlock) : RowA w' B t :=
  row_same h (fun q hq => hg.block q (World.ownsRow.lt h q hq).2 (fun e => owns_apart h ho (by decide) q hq e.symm))
theorem RowsT.grownE {w w' : World} {B B' m n : Nat} {v : Value} {xs : List Value} {s : Stt} (h : RowsT w B s) (ho : w.ownsRow B' 32 m v n xs) (hg : w.grownBy w' v.ownBlock) : RowsT w' B s :=
  ⟨row_same h.op (fun q hq => hg.block q (World.ownsRow.lt h.op q hq).2 (fun e => owns_apart h.op ho (by decide) q hq e.symm)), row_same h.os (fun q hq => hg.block q (World.ownsRow.lt h.os q hq).2 (fun e => owns_apart h.os ho (by decide) q hq e.symm))⟩
/-- others are appended -/
theorem DTb.cat {w w4 : World} {B k m : Nat} {v v4 : Value} {g y : Nat → Ef} (h : DTb w B v k g) (hy : ∀ i, i < m → EW (y i) ∧ RowA w B (y i).ac) (ho : w4.ownsRow B 32 22 v4 (k + m) (valsE efC k g ++ valsE efC m y)) (hg : w.grownBy w4 v.ownBlock) (hn : v4 ≠ .slice none 0 0) :
    DTb w4 B v4 (k + m) (fun i => if i < k then g i else y (i - k)) := by
  have hE : valsE efC k g ++ valsE efC m y = valsE efC (k + m) (fun i => if i < k then g i else y (i - k)) := by
    refine valsE_ext efC_len (by rw [List.length_append, valsE_len efC_len, valsE_len efC_len, Nat.add_mul]) (fun i j hi hj => ?_)
    by_cases hik : i < k
    · have hl : i * 22 + j < (valsE efC k g).length := by rw [valsE_len efC_len]; omega
      rw [List.getElem?_append_left hl, valsE_get efC_len k g i j hik hj]
      simp only [if_pos hik]
    · have hl : (valsE efC k g).length ≤ i * 22 + j := by rw [valsE_len efC_len]; omega
      rw [List.getElem?_append_right hl, valsE_len efC_len, show i * 22 + j - k * 22 = (i - k) * 22 + j by omega, valsE_get efC_len m y (i - k) j (by omega) hj]
      simp only [if_neg hik]
  rw [hE] at ho
  refine ⟨ho, hn, fun i hi => ?_⟩
  by_cases hik : i < k
  · simp only [if_pos hik]
    exact ⟨(h.2.2 i hik).1, RowA.grownE (h.2.2 i hik).2 h.1 hg⟩
  · simp only [if_neg hik]
    exact ⟨(hy (i - k) (by omega)).1, RowA.grownE (hy (i - k) (by omega)).2 h.1 hg⟩
theorem DTb.snoc {w w4 : World} {B k : Nat} {v v4 : Value} {g : Nat → Ef} {y : Ef} (h : DTb w B v k g) (hy : EW y) (hr : RowA w B y.ac) (ho : w4.ownsRow B 32 22 v4 (k + 1) (valsE efC k g ++ efC y)) (hg : w.grownBy w4 v.ownBlock) (hn : v4 ≠ .slice none 0 0) : DTb w4 B v4 (k + 1) (fun i => if i < k then g i else y) :=
  DTb.cat (m := 1) (y := fun _ => y) h (fun i hi => ⟨hy, hr⟩) (by simpa [valsE] using ho) hg hn
set_option maxHeartbeats 4000000 in
theorem l11Draw_any (p : Nat) (a : Option Addr) (len cap : Nat) (s : Stt) (w : World) {B C : Nat} (hc : Code w a len B) (hB : B ≤ p) (hcur : Cur w p a len cap) (hs : anS s) (hcl : 0 ≤ s.cl ∧ s.cl ≤ 10000) (hrw : RowsT w C s) (hC : p < C) :
    Calls Tryz.prog 131 #[.pointer (some ⟨p, 0, none⟩), (.agg #[.slice s.pa s.pn s.pcap, .slice s.sa s.sn s.scap, .int .i64 s.ac, .int .i64 s.cl])] w fun e w' => ∃ (v : Value) (k : Nat) (g : Nat → Ef), e = .returned v ∧ k ≤ 4 ∧ Only p w w' ∧ Cur w' p a len cap ∧ DTb w' w.heap.size v k g := by
  obtain ⟨i0, hi, hz0, hz1, hz2⟩ := info_parts Tryz.infoEf
  have hp : p < w.heap.size := hcur.1
  have hb0 : Below w.heap.size w ((w.alloc (.cells #[.slice s.pa s.pn s.pcap, .slice s.sa s.sn s.scap, .int .i64 s.ac, .int .i64 s.cl] 37)).alloc (.cells #[] 32)) := ((Below.refl _ w).alloc (Nat.le_refl _) _).alloc (by simp) _
  have ho0 : Only p w ((w.alloc (.cells #[.slice s.pa s.pn s.pcap, .slice s.sa s.sn s.scap, .int .i64 s.ac, .int .i64 s.cl] 37)).alloc (.cells #[] 32)) := ((Only.refl p w).alloc _).alloc _
  have xb := (boxR_new w 37 #[.slice s.pa s.pn s.pcap, .slice s.sa s.sn s.scap, .int .i64 s.ac, .int .i64 s.cl]).alloc (.cells #[] 32)
  have hown0 := World.ownsRow_lit (e := 32) (size := 22) (base := w.heap.size) (w.alloc (.cells #[.slice s.pa s.pn s.pcap, .slice s.sa s.sn s.scap, .int .i64 s.ac, .int .i64 s.cl] 37)) #[] 0 (by simp) (by decide) rfl
  have hlw : w.heap.size + 1 < ((w.alloc (.cells #[.slice s.pa s.pn s.pcap, .slice s.sa s.sn s.scap, .int .i64 s.ac, .int .i64 s.cl] 37)).alloc (.cells #[] 32)).heap.size := by simp
  rw [World.size_alloc] at hown0
  go_enter Tryz.func131, Tryz.ntmps131
  go_wp2_with fail
  generalize (w.alloc (.cells #[.slice s.pa s.pn s.pcap, .slice s.sa s.sn s.scap, .int .i64 s.ac, .int .i64 s.cl] 37)).alloc (.cells #[] 32) = W at hb0 ho0 xb hown0 hlw ⊢
  have hk0 : Cur W p a len cap := hcur.same (hb0.block p hp) hb0.size
  have hr0 : RowsT W C s := hrw.grew hb0
  clear hcur hrw hb0
  refine (l1Below_any p a len cap _ _ (hc.only ho0 hB) hB hk0).mono ?_
  rintro e w2 ⟨y, hy0, hy1, rfl, ho, hk2⟩
  have hy2 := hy1 (by omega)
  obtain ⟨n, rfl⟩ := Int.eq_ofNat_of_zero_le hy0
  have hown2 := owns_onlyE hown0 ho hp
  have D2 : DTb w2 w.heap.size (.slice (some ⟨w.heap.size + 1, 0, none⟩) 0 0) 0 (fun _ => zEf) := ⟨hown2, by simp, fun i hi => absurd hi (Nat.not_lt_zero i)⟩
  have xb2 := xb.onlyR ho (by omega)
  have hr2 := hr0.only ho hC
  have hoo := ho0.trans ho
  clear hown0 ho0 ho hk0 hy1 hown2 xb hr0 hlw
  go_wp2
  go_loopw [5, 6, 7] (fun v x i wr => ∃ (k : Nat) (g : Nat → Ef) (z : Int), k ≤ n ∧ i = .int .i64 (n - k) ∧ x = .int .i64 z ∧ 0 ≤ z ∧ z ≤ 2 * (k : Int) ∧ Only p w wr ∧ Cur wr p a len cap ∧ BoxR wr w.heap.size 37 #[.slice s.pa s.pn s.pcap, .slice s.sa s.sn s.scap, .int .i64 s.ac, .int .i64 s.cl] ∧ RowsT wr C s ∧ DTb wr w.heap.size v k g) (fun _ _ i _ => (intOf i).toNat)
  case atStart => exact ⟨0, _, 0, Nat.zero_le _, by simp, rfl, by omega, by simp, hoo, hk2, xb2, hr2, D2⟩
  case round =>
    clear hoo hk2 xb2 hr2 D2
    obtain ⟨k, g, z, hk, rfl, rfl, hz0', hz1', ho, hcu, xb, hr, D⟩ := hrel
    by_cases hlt : k < n
    · go_wp2_with fail
      refine (l1Below_any p a len cap 2 wr (hc.only ho hB) hB hcu).mono ?_
      rintro e w3 ⟨y, hy0', hy1', rfl, ho3, hcu3⟩
      have hy2' := hy1' (by omega)
      replace D := D.only ho3 hp
      replace xb := xb.onlyR ho3 (by omega)
      replace hr := hr.only ho3 hC
      replace ho := ho.trans ho3
      clear ho3 hcu hy1'
      have r0 := xb.cell 0
      have r1 := xb.cell 1
      have r2 := xb.cell 2
      have r3 := xb.cell 3
      simp at r0 r1 r2 r3
      go_wp2_with fail
      refine (l10Draw_any p a len cap s _ w3 (hc.only ho hB) hB hcu3 hs hcl hr hC).mono ?_
      rintro e w4 ⟨t, tw, rfl, ho4, hcu4, ra⟩
      clear r0 r1 r2 r3
      replace D := D.only ho4 hp
      replace xb := xb.onlyR ho4 (by omega)
      replace hr := hr.only ho4 hC
      replace ra := ra.down ho.size
      replace ho := ho.trans ho4
      have hwl := hcu4.1
      have hs4 : w.heap.size ≤ w4.heap.size := ho.size
      have hbA := below_new2'' w4 (.cells #[.int .i64 t.id, .int .i64 t.si, .int .i64 t.sr, .int .i64 t.cl, .int .i64 t.pt.kd, .int .i64 t.pt.wh, .int .i64 t.pt.sr, .int .i64 t.pt.tr, .int .i64 t.pt.pi, .int .i64 t.pt.le, .int .i64 t.pt.zo, .int .i64 t.gd.kd, .int .i64 t.gd.nn, .int .i64 t.ac.kd, .int .i64 t.ac.nn, .int .i64 t.ac.pi, .int .i64 t.ac.si, .int .i64 t.ac.zo, .bool t.ac.be, .slice t.ac.la t.ac.ln t.ac.lcap, .int .i64 t.un, .int .i64 t.le] 32)
      replace D := D.grew hbA
      replace xb := xb.grew hbA
      replace hr := hr.grew hbA
      replace ra := ra.grew hbA
      replace hcu4 : Cur (w4.alloc (.cells #[.int .i64 t.id, .int .i64 t.si, .int .i64 t.sr, .int .i64 t.cl, .int .i64 t.pt.kd, .int .i64 t.pt.wh, .int .i64 t.pt.sr, .int .i64 t.pt.tr, .int .i64 t.pt.pi, .int .i64 t.pt.le, .int .i64 t.pt.zo, .int .i64 t.gd.kd, .int .i64 t.gd.nn, .int .i64 t.ac.kd, .int .i64 t.ac.nn, .int .i64 t.ac.pi, .int .i64 t.ac.si, .int .i64 t.ac.zo, .bool t.ac.be, .slice t.ac.la t.ac.ln t.ac.lcap, .int .i64 t.un, .int .i64 t.le] 32)) p a len cap := hcu4.same (hbA.block p hwl) hbA.size
      clear ho4 hbA hcu3
      go_wp2_with (at_builtin; refine wpList_append_own _ rfl (.tmp 20) (.tmp 25) 56 rfl w.heap.size 32 i0 (.agg #[.int .i64 0, .int .i64 0, .int .i64 0, .int .i64 0, .int .i64 0, .int .i64 0, .int .i64 0, .int .i64 0, .int .i64 0, .int .i64 0, .int .i64 0, .int .i64 0, .int .i64 0, .int .i64 0, .int .i64 0, .int .i64 0, .int .i64 0, .int .i64 0, .bool false, .slice none 0 0, .int .i64 0, .int .i64 0]) 22 192 Tryz.underlying56 hi hz0 hz1 hz2 rfl (by decide) _ _ _ rfl D.1 ⟨w4.heap.size, 0, none⟩ 1 1 (efC t) rfl rfl (cells_new _ _ _) (fun u hu => efC_one 1 (fun _ => t) u (by simpa [valsE] using hu)) (by unfold maxLen; omega) (by omega) (by have := hs4; simp; omega) ?_)
      intro v5 w5 hown5 hgr5 hnil5
      have D5 := D.snoc tw ra hown5 hgr5 hnil5
      have ho5 : Only p w w5 := (ho.alloc _).grown hgr5 (fun q hq => (D.1.lt q hq).1)
      have hcu5 : Cur w5 p a len cap := hcu4.same (hgr5.block p hcu4.1 (fun e => by have := (D.1.lt p e.symm).1; omega)) hgr5.size
      have xb5 : BoxR w5 w.heap.size 37 #[.slice s.pa s.pn s.pcap, .slice s.sa s.sn s.scap, .int .i64 s.ac, .int .i64 s.cl] := (hgr5.block _ xb.lt (own_ne D.1 xb (by decide))).trans xb
      have hr5 := hr.grownE D.1 hgr5
      clear D ra hown5 hgr5 hnil5 ho hcu4 xb hr tw
      go_wp2
      go_roundw
      case rel => first | exact ⟨k + 1, _, z + 1 + y, by omega, by go_num, by go_num, by omega, by omega, ho5, hcu5, xb5, hr5, D5⟩ | ((repeat apply Exists.intro); exact ⟨⟨k + 1, _, z + 1 + y, by omega, by go_num, by go_num, by omega, by omega, ho5, hcu5, xb5, hr5, D5⟩, rfl⟩)
      case measure => simp [intOf]; omega
    · obtain rfl : k = n := by omega
      go_wp2
      go_ret
      first | exact ⟨_, k, g, rfl, by omega, ho, hcu, D⟩ | exact ⟨k, g, by omega, ho, hcu, D⟩
end Go.Proofs.YtodfdfncdoliiadGreat
namespace Go.Proofs.YtodfdfncdoliiadGreat
open Go.ChangeShapes Go.WideShapes Go.ChangeAt Go.RowKit
set_option maxRecDepth 100000
set_option linter.unusedVariables false
set_option linter.unusedSimpArgs false

theorem BoxR.rangeT {w : World} {g t : Nat} {cs : Array Value} (h : BoxR w g t cs) : w.rangeAt g 0 cs.toList := fun j v hv => by
  have hc := cell_of_row w g (0 + j) cs t (0, 0) h
  rw [hc]
  simpa using hv
theorem only_setCells' {p q : Nat} {a : World} (hq : a.heap.size ≤ q) : ∀ (vs : List Value) (o : Nat) (w : World), Only p a w → Only p a (w.setCells q o vs)
  | [], _, _, h => h
  | v :: r, o, w, h => by unfold World.setCells; exact only_setCells' hq r (o + 1) _ (h.setCell (.inr hq) v)
theorem wp_append_owned {P : Program} {w : World} {o : Oper} {a : Act} {K : Act → World → Prop} {Q : Exit → Act → World → Prop} (s x : Operand) (t : TypeId)
    (ho : o.op = .call { callee := .builtin .append, args := #[s, x], argTypes := #[t, t] })
    (base : Nat) (e : TypeId) (i : TypeInfo) (z : Value) (size bytes : Nat) (ht : P.underlying t = some (.slice e)) (hi : P.info? e = some i) (hz : i.zero = some z)
    (hsize : i.size = size) (hby : i.bytes = bytes) (hzs : z.cells.size = size) (hsz : 0 < size)
    (v : Value) (n : Nat) (xs : List Value) (hs : a.eval s = v) (hown : w.ownsRow base e size v n xs)
    (ad : Addr) (m c : Nat) (news : List Value) (hx : a.eval x = .slice (some ad) m c) (hl : news.length = m * size) (hnews : ∀ j u, news[j]? = some u → w.cell? (ad.add j) = some u) (h1 : ∀ u ∈ news, u.oneCell' = true)
    (h63 : n + m ≤ maxLen) (hbytes : (n + m) * bytes ≤ 140737488355328) (hbase : base ≤ w.heap.size)
    (h : ∀ v' w', w'.ownsRow base e size v' (n + m) (xs ++ news) → w.grownBy w' v.ownBlock → v' ≠ .slice none 0 0 ∨ m = 0 → K (a.put o.dst v') w') :
    o.wp P a w K Q := by
  obtain ⟨v', w', hr, h2, h3, h4⟩ := run_append_own (P := P) w base t o.type e i z size bytes ht hi hz hsize hby hzs hsz v n xs hown ad m c news hl hnews h1 h63 hbytes hbase
  unfold Oper.wp execOp
  simp only [ho, resolve, invoke, builtin, Sem.run_bind, Sem.run_pure, Result.andThen_ok, List.map_toArray, List.map_cons, List.map_nil, hs, hx, hr]
  exact h v' w' h2 h3 (by by_cases hm : m = 0; · exact .inr hm
                          · exact .inl (fun e => hm (h4.1 e).2))
/-- a literal of three effects -/
theorem wp_build3E {o : Oper} {a : Act} {w : World} {K : Act → World → Prop} {Q : Exit → Act → World → Prop} (x y z : Operand) (ho : o.op = .buildSlice 56 3 #[(0, x), (1, y), (2, z)]) (t1 t2 t3 : Ef) (hx : a.eval x = (.agg #[.int .i64 t1.id, .int .i64 t1.si, .int .i64 t1.sr, .int .i64 t1.cl, .int .i64 t1.pt.kd, .int .i64 t1.pt.wh, .int .i64 t1.pt.sr, .int .i64 t1.pt.tr, .int .i64 t1.pt.pi, .int .i64 t1.pt.le, .int .i64 t1.pt.zo, .int .i64 t1.gd.kd, .int .i64 t1.gd.nn, .int .i64 t1.ac.kd, .int .i64 t1.ac.nn, .int .i64 t1.ac.pi, .int .i64 t1.ac.si, .int .i64 t1.ac.zo, .bool t1.ac.be, .slice t1.ac.la t1.ac.ln t1.ac.lcap, .int .i64 t1.un, .int .i64 t1.le])) (hy : a.eval y = (.agg #[.int .i64 t2.id, .int .i64 t2.si, .int .i64 t2.sr, .int .i64 t2.cl, .int .i64 t2.pt.kd, .int .i64 t2.pt.wh, .int .i64 t2.pt.sr, .int .i64 t2.pt.tr, .int .i64 t2.pt.pi, .int .i64 t2.pt.le, .int .i64 t2.pt.zo, .int .i64 t2.gd.kd, .int .i64 t2.gd.nn, .int .i64 t2.ac.kd, .int .i64 t2.ac.nn, .int .i64 t2.ac.pi, .int .i64 t2.ac.si, .int .i64 t2.ac.zo, .bool t2.ac.be, .slice t2.ac.la t2.ac.ln t2.ac.lcap, .int .i64 t2.un, .int .i64 t2.le])) (hz : a.eval z = (.agg #[.int .i64 t3.id, .int .i64 t3.si, .int .i64 t3.sr, .int .i64 t3.cl, .int .i64 t3.pt.kd, .int .i64 t3.pt.wh, .int .i64 t3.pt.sr, .int .i64 t3.pt.tr, .int .i64 t3.pt.pi, .int .i64 t3.pt.le, .int .i64 t3.pt.zo, .int .i64 t3.gd.kd, .int .i64 t3.gd.nn, .int .i64 t3.ac.kd, .int .i64 t3.ac.nn, .int .i64 t3.ac.pi, .int .i64 t3.ac.si, .int .i64 t3.ac.zo, .bool t3.ac.be, .slice t3.ac.la t3.ac.ln t3.ac.lcap, .int .i64 t3.un, .int .i64 t3.le]))
    (i0 : TypeInfo) (hi : Tryz.prog.info? 32 = some i0) (h0 : i0.zero = some (.agg #[.int .i64 0, .int .i64 0, .int .i64 0, .int .i64 0, .int .i64 0, .int .i64 0, .int .i64 0, .int .i64 0, .int .i64 0, .int .i64 0, .int .i64 0, .int .i64 0, .int .i64 0, .int .i64 0, .int .i64 0, .int .i64 0, .int .i64 0, .int .i64 0, .bool false, .slice none 0 0, .int .i64 0, .int .i64 0])) (h1 : i0.size = 22)
    (h : K (a.put o.dst (.slice (some ⟨w.heap.size, 0, none⟩) 3 3)) (w.alloc (.cells (valsE efC 3 (fun i => if i = 0 then t1 else if i = 1 then t2 else t3)).toArray 32))) : o.wp Tryz.prog a w K Q := by
  refine wp_buildSlice 56 32 3 _ ho _ i0 (.agg #[.int .i64 0, .int .i64 0, .int .i64 0, .int .i64 0, .int .i64 0, .int .i64 0, .int .i64 0, .int .i64 0, .int .i64 0, .int .i64 0, .int .i64 0, .int .i64 0, .int .i64 0, .int .i64 0, .int .i64 0, .int .i64 0, .int .i64 0, .int .i64 0, .bool false, .slice none 0 0, .int .i64 0, .int .i64 0]) Tryz.underlying56 hi h0 (by rw [h1]; decide) (by rw [h1]; decide) ?_ h
  rw [h1]
  simp only [List.map_toArray, List.map_cons, List.map_nil, hx, hy, hz]
  kernel_rfl
/-- the first one is another -/
theorem DTb.set {w : World} {B k q cp : Nat} {g : Nat → Ef} {t : Ef} (h : DTb w B (.slice (some ⟨q, 0, none⟩) k cp) k g) (hk : 0 < k) (tw : EW t) (ra : RowA w B t.ac) :
    DTb (w.setCells q 0 (efC t)) B (.slice (some ⟨q, 0, none⟩) k cp) k (fun i => if i = 0 then t else g i) ∧ w.there q 0 22 := by
  obtain ⟨h1, h2, h3⟩ := h
  have hap : ∀ t' : Ac, RowA w B t' → ∀ r, (Value.slice t'.la t'.ln t'.lcap).ownBlock = some r → r ≠ q := fun t' hr r hq2 e => by
    subst e
    exact owns_apart hr h1 (by decide) _ hq2 rfl
  have hrow : ∀ t' : Ac, RowA w B t' → RowA (w.setCells q 0 (efC t)) B t' := fun t' hr => row_same hr (fun r hr2 => setCells_other (hap t' hr r hr2) _ _ _)
  have hlen := h1.1
  rcases h1.2 with ⟨hv, _⟩ | ⟨q', cp', cur, hv, hq1, hq2, hq3, hq4, hq5, hq6⟩
  · cases hv
  simp only [Value.slice.injEq, Option.some.injEq, Addr.mk.injEq, and_true, true_and] at hv
  obtain ⟨rfl, rfl⟩ := hv
  have hsz : 22 ≤ cur.size := by rw [hq5]; have : 1 * 22 ≤ cp * 22 := Nat.mul_le_mul_right 22 (by omega); omega
  refine ⟨⟨⟨?_, .inr ⟨q, cp, putL cur 0 (efC t), rfl, hq1, heap_setCells q 32 (efC t) 0 cur w hq2, hq3, hq4, by rw [size_putL]; exact hq5, ?_⟩⟩, h2, fun i hi => ?_⟩, there_row hq2 (by omega)⟩
  · rw [valsE_len efC_len]
  · have hkc : k * 22 ≤ cur.size := by rw [hq5]; exact Nat.mul_le_mul_right 22 hq3
    refine valsE_ext efC_len (by rw [List.length_take, Array.length_toList, size_putL]; omega) (fun i j hi hj => ?_)
    have hij : i * 22 + j < k * 22 := by have : (i + 1) * 22 ≤ k * 22 := Nat.mul_le_mul_right 22 hi; omega
    rw [List.getElem?_take_of_lt hij, Array.getElem?_toList, get_putL (efC t) 0 cur _ (by rw [efC_len]; omega), efC_len]
    by_cases h0 : i = 0
    · subst h0
      rw [if_pos (by omega)]
      simp
    · rw [if_neg (by omega)]
      simp only [if_neg h0]
      have h9 := valsE_get efC_len k g i j hi hj
      rw [← hq6, List.getElem?_take_of_lt hij, Array.getElem?_toList] at h9
      exact h9
  · by_cases h0 : i = 0
    · simp only [if_pos h0]; exact ⟨tw, hrow _ ra⟩
    · simp only [if_neg h0]; exact ⟨(h3 i hi).1, hrow _ (h3 i hi).2⟩
set_option maxHeartbeats 8000000 in
theorem l11Any_any (p : Nat) (a : Option Addr) (len cap : Nat) (s : Stt) (w : World) {B C : Nat} (hc : Code w a len B) (hB : B ≤ p) (hcur : Cur w p a len cap) (hs : anS s) (hcl : 0 ≤ s.cl ∧ s.cl ≤ 10000) (hrw : RowsT w C s) (hC : p < C) :
    Calls Tryz.prog 78 #[.pointer (some ⟨p, 0, none⟩), (.agg #[.slice s.pa s.pn s.pcap, .slice s.sa s.sn s.scap, .int .i64 s.ac, .int .i64 s.cl])] w fun e w' => ∃ (v : Value) (k : Nat) (g : Nat → Ef), e = .returned v ∧ k ≤ 7 ∧ Only p w w' ∧ Cur w' p a len cap ∧ DTb w' w.heap.size v k g := by
  have m_ : Tryz.prog.follows Departure.mixedOrders = true := by kernel_rfl
  obtain ⟨i0, hi, hz0, hz1, hz2⟩ := info_parts Tryz.infoEf
  have hp : p < w.heap.size := hcur.1
  have hb0 : Below w.heap.size w (w.alloc (.cells #[.slice s.pa s.pn s.pcap, .slice s.sa s.sn s.scap, .int .i64 s.ac, .int .i64 s.cl] 37)) := (Below.refl _ w).alloc (Nat.le_refl _) _
  have ho : Only p w (w.alloc (.cells #[.slice s.pa s.pn s.pcap, .slice s.sa s.sn s.scap, .int .i64 s.ac, .int .i64 s.cl] 37)) := (Only.refl p w).alloc _
  have xb := boxR_new w 37 #[.slice s.pa s.pn s.pcap, .slice s.sa s.sn s.scap, .int .i64 s.ac, .int .i64 s.cl]
  have hlw : w.heap.size < (w.alloc (.cells #[.slice s.pa s.pn s.pcap, .slice s.sa s.sn s.scap, .int .i64 s.ac, .int .i64 s.cl] 37)).heap.size := by simp
  go_enter Tryz.func78, Tryz.ntmps78
  generalize hW : w.alloc (.cells #[.slice s.pa s.pn s.pcap, .slice s.sa s.sn s.scap, .int .i64 s.ac, .int .i64 s.cl] 37) = W at hb0 ho xb hlw
  have hcu : Cur W p a len cap := hcur.same (hb0.block p hp) hb0.size
  have hr : RowsT W C s := hrw.grew hb0
  clear hcur hrw hb0
  have r0 := xb.cell 0
  have r1 := xb.cell 1
  have r2 := xb.cell 2
  have r3 := xb.cell 3
  simp at r0 r1 r2 r3
  go_wp2_with fail
  clear hW
  refine (l11Draw_any p a len cap s _ (hc.only ho hB) hB hcu hs hcl hr hC).mono ?_
  rintro e w1 ⟨v, k, g, rfl, hk, ho1, hcu1, D⟩
  clear r0 r1 r2 r3 hcu
  replace D := D.down (show w.heap.size ≤ W.heap.size by omega)
  replace xb := xb.onlyR ho1 (by omega)
  replace hr := hr.only ho1 hC
  replace ho := ho.trans ho1
  clear ho1
  go_wp2_with fail
  refine (l1Below_any p a len cap 12 _ (hc.only ho hB) hB hcu1).mono ?_
  rintro e w2 ⟨y, hy0, hy1, rfl, ho2, hcu2⟩
  have hy2 := hy1 (by omega)
  replace D := D.only ho2 hp
  replace xb := xb.onlyR ho2 (by omega)
  replace hr := hr.only ho2 hC
  replace ho := ho.trans ho2
  have hs2 : w.heap.size < w2.heap.size := xb.lt
  clear ho2 hcu1 hy1 hlw
  have r0 := xb.cell 0
  have r1 := xb.cell 1
  have r2 := xb.cell 2
  have r3 := xb.cell 3
  simp at r0 r1 r2 r3
  by_cases y0 : y = 0
  · subst y0
    go_wp2_with fail
    refine (l10Any_any p a len cap s _ (hc.only ho hB) hB hcu2 hs hcl hr hC).mono ?_
    rintro e w4 ⟨t, tw, rfl, ho4, hcu4, ra⟩
    clear r0 r1 r2 r3 xb hr
    replace D := D.only ho4 hp
    replace ra := ra.down ho.size
    replace ho := ho.trans ho4
    have hs4 : w.heap.size ≤ w4.heap.size := ho.size
    have hbA := below_new2'' w4 (.cells #[.int .i64 t.id, .int .i64 t.si, .int .i64 t.sr, .int .i64 t.cl, .int .i64 t.pt.kd, .int .i64 t.pt.wh, .int .i64 t.pt.sr, .int .i64 t.pt.tr, .int .i64 t.pt.pi, .int .i64 t.pt.le, .int .i64 t.pt.zo, .int .i64 t.gd.kd, .int .i64 t.gd.nn, .int .i64 t.ac.kd, .int .i64 t.ac.nn, .int .i64 t.ac.pi, .int .i64 t.ac.si, .int .i64 t.ac.zo, .bool t.ac.be, .slice t.ac.la t.ac.ln t.ac.lcap, .int .i64 t.un, .int .i64 t.le] 32)
    replace D := D.grew hbA
    replace ra := ra.grew hbA
    replace hcu4 : Cur (w4.alloc (.cells #[.int .i64 t.id, .int .i64 t.si, .int .i64 t.sr, .int .i64 t.cl, .int .i64 t.pt.kd, .int .i64 t.pt.wh, .int .i64 t.pt.sr, .int .i64 t.pt.tr, .int .i64 t.pt.pi, .int .i64 t.pt.le, .int .i64 t.pt.zo, .int .i64 t.gd.kd, .int .i64 t.gd.nn, .int .i64 t.ac.kd, .int .i64 t.ac.nn, .int .i64 t.ac.pi, .int .i64 t.ac.si, .int .i64 t.ac.zo, .bool t.ac.be, .slice t.ac.la t.ac.ln t.ac.lcap, .int .i64 t.un, .int .i64 t.le] 32)) p a len cap := hcu4.same (hbA.block p hcu4.1) hbA.size
    clear ho4 hbA hcu2
    go_wp2_with (at_builtin; refine wpList_append_own _ rfl (.tmp 13) (.tmp 17) 56 rfl w.heap.size 32 i0 (.agg #[.int .i64 0, .int .i64 0, .int .i64 0, .int .i64 0, .int .i64 0, .int .i64 0, .int .i64 0, .int .i64 0, .int .i64 0, .int .i64 0, .int .i64 0, .int .i64 0, .int .i64 0, .int .i64 0, .int .i64 0, .int .i64 0, .int .i64 0, .int .i64 0, .bool false, .slice none 0 0, .int .i64 0, .int .i64 0]) 22 192 Tryz.underlying56 hi hz0 hz1 hz2 rfl (by decide) _ _ _ rfl D.1 ⟨w4.heap.size, 0, none⟩ 1 1 (efC t) rfl rfl (cells_new _ _ _) (fun u hu => efC_one 1 (fun _ => t) u (by simpa [valsE] using hu)) (by unfold maxLen; omega) (by omega) (by have := hs4; simp; omega) ?_)
    intro v5 w5 hown5 hgr5 hnil5
    have D5 := D.snoc tw ra hown5 hgr5 hnil5
    have ho5 : Only p w w5 := (ho.alloc _).grown hgr5 (fun q hq => (D.1.lt q hq).1)
    have hcu5 : Cur w5 p a len cap := hcu4.same (hgr5.block p hcu4.1 (fun e => by have := (D.1.lt p e.symm).1; omega)) hgr5.size
    clear D ra hown5 hgr5 hnil5 ho hcu4 tw
    go_wp2
    go_ret
    exact ⟨_, _, _, rfl, by omega, ho5, hcu5, D5⟩
  by_cases y1 : y = 1
  · subst y1
    go_upto_region 6 with fail
    clear r0 r1 r2 r3
    have hcD : Code w2.drew a len B := (hc.only ho hB).below (Below.refl B w2).drew
    have hcuD : Cur w2.drew p a len cap := hcu2
    have hoD : Only p w w2.drew := ho.drew
    have xbD : BoxR w2.drew w.heap.size 37 #[.slice s.pa s.pn s.pcap, .slice s.sa s.sn s.scap, .int .i64 s.ac, .int .i64 s.cl] := xb
    have hrD : RowsT w2.drew C s := ⟨hr.op, hr.os⟩
    have DD : DTb w2.drew w.heap.size v k g := D
    clear hcu2 ho hr D
    refine wp_region_held_drew (S := fun u : World => BoxR u w.heap.size 37 #[.slice s.pa s.pn s.pcap, .slice s.sa s.sn s.scap, .int .i64 s.ac, .int .i64 s.cl]) (by kernel_rfl) xbD (fun hHeld => ?_)
    refine wpAnyH_take (i := 0) (oi := ⟨some 21, _, _, _, _, _⟩) (v := v) rfl (by kernel_rfl) (by kernel_rfl) (by kernel_rfl) (fun _ _ _ h => h) (Or.inl ⟨by kernel_rfl, fun u hSu => by clear hSu; go_simp⟩) hHeld ?_
    try simp only [Act.put, List.setIfInBounds_toArray, List.set_cons_zero, List.set_cons_succ]
    refine wpAnyH_take (i := 1) (oi := ⟨some 22, _, _, _, _, _⟩) (v := .pointer (some ⟨p, 0, none⟩)) rfl (by kernel_rfl) (by kernel_rfl) (by kernel_rfl) (fun _ _ _ h => h) (Or.inl ⟨by kernel_rfl, fun u hSu => by clear hSu; go_simp⟩) hHeld ?_
    try simp only [Act.put, List.setIfInBounds_toArray, List.set_cons_zero, List.set_cons_succ]
    refine wpAnyH_take (i := 2) (oi := ⟨some 23, _, _, _, _, _⟩) (v := (.agg #[.slice s.pa s.pn s.pcap, .slice s.sa s.sn s.scap, .int .i64 s.ac, .int .i64 s.cl])) rfl (by kernel_rfl) (by kernel_rfl) (by kernel_rfl) (fun _ _ _ h => h) (yieldsIf_load_mid (by kernel_rfl) 37 (.tmp 3) rfl (w.heap.size) 0 (by rfl) (#[.slice s.pa s.pn s.pcap, .slice s.sa s.sn s.scap, .int .i64 s.ac, .int .i64 s.cl] : Array Value).toList _ (fun u hu => BoxR.rangeT hu) Tryz.underlying37 rfl (by kernel_rfl)) hHeld ?_
    try simp only [Act.put, List.setIfInBounds_toArray, List.set_cons_zero, List.set_cons_succ]
    refine wpAnyH_take (i := 4) (oi := ⟨some 25, _, _, _, _, _⟩) (v := .pointer (some ⟨p, 0, none⟩)) rfl (by kernel_rfl) (by kernel_rfl) (by kernel_rfl) (fun _ _ _ h => h) (Or.inl ⟨by kernel_rfl, fun u hSu => by clear hSu; go_simp⟩) hHeld ?_
    try simp only [Act.put, List.setIfInBounds_toArray, List.set_cons_zero, List.set_cons_succ]
    refine wpAnyH_take (i := 5) (oi := ⟨some 26, _, _, _, _, _⟩) (v := (.agg #[.slice s.pa s.pn s.pcap, .slice s.sa s.sn s.scap, .int .i64 s.ac, .int .i64 s.cl])) rfl (by kernel_rfl) (by kernel_rfl) (by kernel_rfl) (fun _ _ _ h => h) (yieldsIf_load_mid (by kernel_rfl) 37 (.tmp 3) rfl (w.heap.size) 0 (by rfl) (#[.slice s.pa s.pn s.pcap, .slice s.sa s.sn s.scap, .int .i64 s.ac, .int .i64 s.cl] : Array Value).toList _ (fun u hu => BoxR.rangeT hu) Tryz.underlying37 rfl (by kernel_rfl)) hHeld ?_
    try simp only [Act.put, List.setIfInBounds_toArray, List.set_cons_zero, List.set_cons_succ]
    refine wpAnyH_take (i := 7) (oi := ⟨some 28, _, _, _, _, _⟩) (v := .pointer (some ⟨p, 0, none⟩)) rfl (by kernel_rfl) (by kernel_rfl) (by kernel_rfl) (fun _ _ _ h => h) (Or.inl ⟨by kernel_rfl, fun u hSu => by clear hSu; go_simp⟩) hHeld ?_
    try simp only [Act.put, List.setIfInBounds_toArray, List.set_cons_zero, List.set_cons_succ]
    refine wpAnyH_take (i := 8) (oi := ⟨some 29, _, _, _, _, _⟩) (v := (.agg #[.slice s.pa s.pn s.pcap, .slice s.sa s.sn s.scap, .int .i64 s.ac, .int .i64 s.cl])) rfl (by kernel_rfl) (by kernel_rfl) (by kernel_rfl) (fun _ _ _ h => h) (yieldsIf_load_mid (by kernel_rfl) 37 (.tmp 3) rfl (w.heap.size) 0 (by rfl) (#[.slice s.pa s.pn s.pcap, .slice s.sa s.sn s.scap, .int .i64 s.ac, .int .i64 s.cl] : Array Value).toList _ (fun u hu => BoxR.rangeT hu) Tryz.underlying37 rfl (by kernel_rfl)) hHeld ?_
    try simp only [Act.put, List.setIfInBounds_toArray, List.set_cons_zero, List.set_cons_succ]
    refine wpAnyH_ready (rs := [3]) (by kernel_rfl) (by simp) ?_
    refine AllReadyH.cons rfl (fun K' hK => ?_) AllReadyH.nil
    go_simp
    go_at_call 93
    refine (l10Draw_any p a len cap s 50 _ hcD hB hcuD hs hcl hrD hC).mono ?_
    rintro e z0_ ⟨t1, tw1, rfl, ho4, hcuE, ra1⟩
    replace DD := DD.only ho4 hp
    replace xbD := xbD.onlyR ho4 (by omega)
    replace hrD := hrD.only ho4 hC
    replace hcD : Code z0_ a len B := hcD.only ho4 hB
    replace ra1 := ra1.down hoD.size
    replace hoD := hoD.trans ho4
    clear ho4 hcuD
    have hcuD := hcuE
    clear hcuE
    refine hK.out _ _ xbD (fun hHeld => ?_)
    clear hK
    try simp only [Act.put, List.setIfInBounds_toArray, List.set_cons_zero, List.set_cons_succ]
    refine wpAnyH_ready (rs := [6]) (by kernel_rfl) (by simp) ?_
    refine AllReadyH.cons rfl (fun K' hK => ?_) AllReadyH.nil
    go_simp
    go_at_call 93
    refine (l10Draw_any p a len cap s 51 _ hcD hB hcuD hs hcl hrD hC).mono ?_
    rintro e z1_ ⟨t2, tw2, rfl, ho4, hcuE, ra2⟩
    replace DD := DD.only ho4 hp
    replace xbD := xbD.onlyR ho4 (by omega)
    replace hrD := hrD.only ho4 hC
    replace hcD : Code z1_ a len B := hcD.only ho4 hB
    replace ra2 := ra2.down hoD.size
    replace ra1 := ra1.only ho4 hp
    replace hoD := hoD.trans ho4
    clear ho4 hcuD
    have hcuD := hcuE
    clear hcuE
    refine hK.out _ _ xbD (fun hHeld => ?_)
    clear hK
    try simp only [Act.put, List.setIfInBounds_toArray, List.set_cons_zero, List.set_cons_succ]
    refine wpAnyH_ready (rs := [9]) (by kernel_rfl) (by simp) ?_
    refine AllReadyH.cons rfl (fun K' hK => ?_) AllReadyH.nil
    go_simp
    go_at_call 93
    refine (l10Draw_any p a len cap s 52 _ hcD hB hcuD hs hcl hrD hC).mono ?_
    rintro e z2_ ⟨t3, tw3, rfl, ho4, hcuE, ra3⟩
    replace DD := DD.only ho4 hp
    replace xbD := xbD.onlyR ho4 (by omega)
    replace hrD := hrD.only ho4 hC
    replace hcD : Code z2_ a len B := hcD.only ho4 hB
    replace ra3 := ra3.down hoD.size
    replace ra1 := ra1.only ho4 hp
    replace ra2 := ra2.only ho4 hp
    replace hoD := hoD.trans ho4
    clear ho4 hcuD
    have hcuD := hcuE
    clear hcuE
    refine hK.out _ _ xbD (fun hHeld => ?_)
    clear hK
    try simp only [Act.put, List.setIfInBounds_toArray, List.set_cons_zero, List.set_cons_succ]
    have hs4 : w.heap.size ≤ z2_.heap.size := hoD.size
    have hbA := below_new2'' z2_ (.cells (valsE efC 3 (fun i => if i = 0 then t1 else if i = 1 then t2 else t3)).toArray 32)
    replace DD := DD.grew hbA
    replace xbD := xbD.grew hbA
    replace hcuD : Cur (z2_.alloc (.cells (valsE efC 3 (fun i => if i = 0 then t1 else if i = 1 then t2 else t3)).toArray 32)) p a len cap := hcuD.same (hbA.block p hcuD.1) hbA.size
    replace ra1 := ra1.grew hbA
    replace ra2 := ra2.grew hbA
    replace ra3 := ra3.grew hbA
    replace hoD := hoD.alloc (.cells (valsE efC 3 (fun i => if i = 0 then t1 else if i = 1 then t2 else t3)).toArray 32)
    clear hbA
    refine wpAnyH_ready (rs := [10]) (by kernel_rfl) (by simp) ?_
    refine AllReadyH.cons rfl (fun K' hK => ?_) AllReadyH.nil
    rw [if_pos (by kernel_rfl)]
    refine wp_build3E (.tmp 24) (.tmp 27) (.tmp 30) rfl t1 t2 t3 rfl rfl rfl i0 hi hz0 hz1 ?_
    refine hK.out _ _ xbD (fun hHeld => ?_)
    clear hK
    try simp only [Act.put, List.setIfInBounds_toArray, List.set_cons_zero, List.set_cons_succ]
    refine wpAnyH_ready (rs := [11]) (by kernel_rfl) (by simp) ?_
    refine AllReadyH.cons rfl (fun K' hK => ?_) AllReadyH.nil
    rw [if_pos (by kernel_rfl)]
    refine wp_append_owned (.tmp 21) (.tmp 31) 56 rfl w.heap.size 32 i0 (.agg #[.int .i64 0, .int .i64 0, .int .i64 0, .int .i64 0, .int .i64 0, .int .i64 0, .int .i64 0, .int .i64 0, .int .i64 0, .int .i64 0, .int .i64 0, .int .i64 0, .int .i64 0, .int .i64 0, .int .i64 0, .int .i64 0, .int .i64 0, .int .i64 0, .bool false, .slice none 0 0, .int .i64 0, .int .i64 0]) 22 192 Tryz.underlying56 hi hz0 hz1 hz2 rfl (by decide) _ _ _ rfl DD.1 ⟨z2_.heap.size, 0, none⟩ 3 3 (valsE efC 3 (fun i => if i = 0 then t1 else if i = 1 then t2 else t3)) rfl (valsE_len efC_len _ _) (cells_new _ _ _) (efC_one _ _) (by unfold maxLen; omega) (by omega) (by simp; omega) ?_
    intro v5 w5 hown5 hgr5 hnil5
    have D5 := DD.cat (m := 3) (y := (fun i => if i = 0 then t1 else if i = 1 then t2 else t3)) (fun i hi => by
      rcases (show i = 0 ∨ i = 1 ∨ i = 2 by omega) with rfl | rfl | rfl
      · exact ⟨tw1, ra1⟩
      · exact ⟨tw2, ra2⟩
      · exact ⟨tw3, ra3⟩) hown5 hgr5 (hnil5.resolve_right (by omega))
    have xb5 : BoxR w5 w.heap.size 37 #[.slice s.pa s.pn s.pcap, .slice s.sa s.sn s.scap, .int .i64 s.ac, .int .i64 s.cl] := (hgr5.block _ xbD.lt (own_ne DD.1 xbD (by decide))).trans xbD
    have ho5 : Only p w w5 := hoD.grown hgr5 (fun q hq => (DD.1.lt q hq).1)
    have hcu5 : Cur w5 p a len cap := hcuD.same (hgr5.block p hcuD.1 (fun e => by have := (DD.1.lt p e.symm).1; omega)) hgr5.size
    refine hK.out _ _ xb5 (fun hHeld => ?_)
    clear hK DD hown5 hgr5 hnil5 hoD hcuD ra1 ra2 ra3 tw1 tw2 tw3 xbD hrD
    try simp only [Act.put, List.setIfInBounds_toArray, List.set_cons_zero, List.set_cons_succ]
    refine wpAnyH_take (i := 12) (oi := ⟨some 5, _, _, _, _, _⟩) (v := v5) rfl (by kernel_rfl) (by kernel_rfl) (by kernel_rfl) (fun _ _ _ h => h) (Or.inl ⟨by kernel_rfl, fun u hSu => by clear hSu; go_simp⟩) hHeld ?_
    try simp only [Act.put, List.setIfInBounds_toArray, List.set_cons_zero, List.set_cons_succ]
    refine wpAnyH_done (by kernel_rfl) ?_ _
    clear hHeld
    go_wp2
    go_ret
    exact ⟨_, _, _, rfl, by omega, ho5, hcu5, D5⟩
  by_cases y2 : y = 2
  · subst y2
    obtain ⟨q, cp, rfl, hcp, _⟩ := own_ofE efC_len D.1 D.2.1
    by_cases hk0 : k = 0
    · subst hk0
      go_wp2
      go_ret
      exact ⟨_, 0, g, rfl, by omega, ho, hcu2, D⟩
    have yk : (k : Int) > 0 := by omega
    have yk2 : 0 < k := by omega
    go_wp2_with fail
    refine (l10Any_any p a len cap s _ (hc.only ho hB) hB hcu2 hs hcl hr hC).mono ?_
    rintro e w4 ⟨t, tw, rfl, ho4, hcu4, ra⟩
    clear r0 r1 r2 r3 xb hr hcp
    replace D := D.only ho4 hp
    replace ra := ra.down ho.size
    replace ho := ho.trans ho4
    have hq := (D.1.lt q rfl).1
    obtain ⟨D5, ht⟩ := D.set yk2 tw ra
    have ho5 : Only p w (w4.setCells q 0 (efC t)) := only_setCells' hq (efC t) 0 w4 ho
    have hcu5 : Cur (w4.setCells q 0 (efC t)) p a len cap := hcu4.same (setCells_other (by omega) _ _ _) (by rw [size_setCells]; exact Nat.le_refl _)
    clear ho4 hcu2 D ho hcu4 ra tw
    go_wp2_with (refine wpList_store_mid rfl 32 _ _ rfl q 0 #[.int .i64 t.id, .int .i64 t.si, .int .i64 t.sr, .int .i64 t.cl, .int .i64 t.pt.kd, .int .i64 t.pt.wh, .int .i64 t.pt.sr, .int .i64 t.pt.tr, .int .i64 t.pt.pi, .int .i64 t.pt.le, .int .i64 t.pt.zo, .int .i64 t.gd.kd, .int .i64 t.gd.nn, .int .i64 t.ac.kd, .int .i64 t.ac.nn, .int .i64 t.ac.pi, .int .i64 t.ac.si, .int .i64 t.ac.zo, .bool t.ac.be, .slice t.ac.la t.ac.ln t.ac.lcap, .int .i64 t.un, .int .i64 t.le] (by first | rfl | simp [Act.eval]) rfl ht (by kernel_rfl) (by simp [Value.oneCell']) ?_; generalize hV : w4.setCells q 0 _ = V; rw [show w4.setCells q 0 (efC t) = V from hV] at D5 ho5 hcu5; clear hV ht)
    go_ret
    exact ⟨_, k, _, rfl, by omega, ho5, hcu5, D5⟩
  have z0 : (y == 0) = false := by simpa using y0
  have z1 : (y == 1) = false := by simpa using y1
  have z2 : (y == 2) = false := by simpa using y2
  go_wp2
  go_ret
  exact ⟨_, k, g, rfl, by omega, ho, hcu2, D⟩
end Go.Proofs.YtodfdfncdoliiadGreat
