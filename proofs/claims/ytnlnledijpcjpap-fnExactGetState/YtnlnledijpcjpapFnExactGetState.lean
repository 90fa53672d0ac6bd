/-
  What is proved: at every slice of bytes, the law FnExactGetState answers true: the program's and the specification's answer alike, the answer lies in new memory, and the arguments read afterwards as before; no condition.
-/
import Derived.Test.YtnlnledijpcjpapRows
import Derived.Test.YtnlnledijpcjpapCur
import Derived.Test.YtnlnledijpcjpapPiece
import Derived.Test.YtnlnledijpcjpapRow
import Derived.Test.YtnlnledijpcjpapPiece2
import Derived.Test.YtnlnledijpcjpapPieceOk
import Derived.Test.YtnlnledijpcjpapNum
import Derived.Test.YtnlnledijpcjpapRowLaw
import Derived.Test.YtnlnledijpcjpapPiece3
import Derived.Test.YtnlnledijpcjpapBytesA
import Derived.Test.YtnlnledijpcjpapRegs
import Derived.Test.YtnlnledijpcjpapPiece4
import Derived.Test.YtnlnledijpcjpapPiece5
import Derived.Test.YtnlnledijpcjpapPcI
import Derived.Test.YtnlnledijpcjpapPieceOkI
import Derived.Test.YtnlnledijpcjpapListsA
import Derived.Test.YtnlnledijpcjpapPieceI4
import Derived.Test.YtnlnledijpcjpapPieceI5
import Derived.Test.YtnlnledijpcjpapStaA
import Derived.Test.YtnlnledijpcjpapState4
import Derived.Test.YtnlnledijpcjpapState5
import Derived.Test.YtnlnledijpcjpapState8
import Derived.Test.YtnlnledijpcjpapStAt
import Derived.Test.YtnlnledijpcjpapStMark
import Derived.Test.YtnlnledijpcjpapGetAD
import Derived.Test.YtnlnledijpcjpapState6
import Derived.Test.YtnlnledijpcjpapState7
import Derived.Test.YtnlnledijpcjpapStPut
import Derived.Test.YtnlnledijpcjpapStGetM
import Derived.Test.YtnlnledijpcjpapStHeld
import Derived.Test.YtnlnledijpcjpapStEq
import Derived.Test.YtnlnledijpcjpapStSame
import Derived.Test.YtnlnledijpcjpapStLaw
import Derived.Test.YtnlnledijpcjpapStRow
import Derived.Test.YtnlnledijpcjpapPiece6
import Derived.Test.YtnlnledijpcjpapStNew
import Derived.Test.YtnlnledijpcjpapStGetS
import Derived.Test.YtnlnledijpcjpapStOk
import Derived.Test.YtnlnledijpcjpapStPuts
import Derived.Test.YtnlnledijpcjpapGetGI
import Derived.WalkKit
import Derived.ProofKit
import Derived.OpenShut
import Derived.ShutString
import Derived.ChangeOld
import Derived.Below
namespace Go.Proofs.Ytnlnledijpcjpap.fnExactGetState
open Go.ChangeShapes Go.WideShapes Go.ChangeAt Go.RowKit
open Go.ChangeMaps (open_string shut_string)
set_option linter.unusedVariables false

theorem own : ownKnob Try.prog.godebug = none := by kernel_rfl
theorem laidOut : laidOutB Try.prog = true := by kernel_rfl

/-- WHAT THE WALK IS TOLD OF A SLICE OF INTEGERS THAT CAME IN: it is nil; or it leads to a row of 'cap' cells, the numbers 'zs' (the first 'len' are its elements, the rest its spare room), each fitting its kind. -/
def IsRow (k : IntKind) (w : World) (a : Option Addr) (len cap : Nat) (zs : List Int) : Prop :=
  (a = none ∧ len = 0 ∧ cap = 0 ∧ zs = []) ∨
  ∃ x, a = some x ∧ len ≤ cap ∧ cap ≤ maxLen ∧ zs.length = cap ∧ (∀ i, i < zs.length → w.cell? (x.add i) = some (.int k (zs.getD i 0))) ∧ ∀ n ∈ zs, (Lit.int k n).wf = true

set_option maxHeartbeats 4000000 in
theorem walk (a0 : Option Addr) (len0 cap0 : Nat) (z0 : List Int) (w : World) (w0 : IsRow .u8 w a0 len0 cap0 z0) :
    Calls Try.prog 4 #[.slice a0 len0 cap0] w fun e w' => e = .returned (.bool true) ∧ Below w.heap.size w w' := by
  obtain ⟨hl0, b0, f0, hr0, hwf0⟩ := rd_of_row w0
  have hu0 : U8 len0 f0 := fun i hi => u8_wf (hwf0 i hi)
  have nn := gsS_le len0 f0
  clear hwf0 w0
  by_cases hbig0 : (1048576 : Int) < (len0 : Int)
  · go_enter Try.func4, Try.ntmps4
    go_wp2
    go_ret
    exact ⟨rfl, Below.refl _ _⟩
  have hB := Below.refl w.heap.size w
  go_enter Try.func4, Try.ntmps4
  go_wp2_with fail
  refine (toByteS_row _ b0 len0 _ f0 _ (by omega) (hr0.grew hB)).mono ?_
  rintro e u1 ⟨g_y, rfl, hb, o_y⟩
  have f_y : w.heap.size ≤ g_y := by have h1 := hB.size; have h2 := o_y.1; omega
  replace hB := below_app hB hb hB.size
  clear hb
  go_wp2_with fail
  refine (specGetState_any _ g_y len0 _ f0 _ (by omega) hu0 o_y.rd).mono ?_
  rintro e u2 ⟨t_w, rfl, hb, o_w, e_w⟩
  have a_y_w := away_old o_w o_y.2.1
  have f_w : w.heap.size ≤ u1.heap.size := hB.size
  replace o_y := o_y.grew hb
  replace hB := below_app hB hb hB.size
  clear hb
  clear o_y
  have hb := (Below.refl _ u2).alloc (Nat.le_refl _) (.cells #[.slice t_w.pa t_w.pn t_w.pcap, .slice t_w.sa t_w.sn t_w.scap, .int .i64 t_w.ac, .int .i64 t_w.cl] 32)
  have b_w := boxR_new u2 32 #[.slice t_w.pa t_w.pn t_w.pcap, .slice t_w.sa t_w.sn t_w.scap, .int .i64 t_w.ac, .int .i64 t_w.cl]
  have d_w_w := away_new o_w (Nat.le_refl u2.heap.size)
  generalize hVw : u2.alloc (.cells #[.slice t_w.pa t_w.pn t_w.pcap, .slice t_w.sa t_w.sn t_w.scap, .int .i64 t_w.ac, .int .i64 t_w.cl] 32) = u3 at hb b_w
  replace o_w := o_w.grew hb
  replace hB := below_app hB hb hB.size
  clear hb
  go_wp2_with fail
  refine (toByteS_row _ b0 len0 _ f0 _ (by omega) (hr0.grew hB)).mono ?_
  rintro e u4 ⟨g_x, rfl, hb, o_x⟩
  have a_x_w := away_new o_w o_x.1
  have d_w_x : u2.heap.size ≠ g_x := by have h1 := b_w.lt; have h2 := o_x.1; omega
  have f_x : w.heap.size ≤ g_x := by have h1 := hB.size; have h2 := o_x.1; omega
  replace o_w := o_w.grew hb
  replace b_w := b_w.grew hb
  replace hB := below_app hB hb hB.size
  clear hb
  go_wp2_with fail
  refine (implGetState_any _ g_x len0 _ f0 _ (by omega) (Nat.le_refl _) hu0 o_x.rd).mono ?_
  rintro e u5 ⟨t_g, rfl, hb, o_g, e_g⟩
  have a_w_g := apart_old o_w o_g (Nat.le_refl _)
  have a_g_w := apart_new o_g o_w (Nat.le_refl _)
  have a_x_g := away_old o_g o_x.2.1
  have d_w_g := away_old o_g b_w.lt
  have f_g : w.heap.size ≤ u4.heap.size := hB.size
  replace o_w := o_w.grew hb
  replace o_x := o_x.grew hb
  replace b_w := b_w.grew hb
  replace hB := below_app hB hb hB.size
  clear hb
  have hb := (Below.refl _ u5).alloc (Nat.le_refl _) (.cells #[.slice t_g.pa t_g.pn t_g.pcap, .slice t_g.sa t_g.sn t_g.scap, .int .i64 t_g.ac, .int .i64 t_g.cl] 32)
  have b_g := boxR_new u5 32 #[.slice t_g.pa t_g.pn t_g.pcap, .slice t_g.sa t_g.sn t_g.scap, .int .i64 t_g.ac, .int .i64 t_g.cl]
  have d_g_w := away_new o_w (Nat.le_refl u5.heap.size)
  have d_g_x : u5.heap.size ≠ g_x := by have h1 := o_x.2.1; omega
  have d_g_g := away_new o_g (Nat.le_refl u5.heap.size)
  generalize hVg : u5.alloc (.cells #[.slice t_g.pa t_g.pn t_g.pcap, .slice t_g.sa t_g.sn t_g.scap, .int .i64 t_g.ac, .int .i64 t_g.cl] 32) = u6 at hb b_g
  replace o_w := o_w.grew hb
  replace o_x := o_x.grew hb
  replace o_g := o_g.grew hb
  replace b_w := b_w.grew hb
  replace hB := below_app hB hb hB.size
  clear hb
  have c_g_0 := b_g.cell 0
  have c_g_1 := b_g.cell 1
  have c_g_2 := b_g.cell 2
  have c_g_3 := b_g.cell 3
  have c_w_0 := b_w.cell 0
  have c_w_1 := b_w.cell 1
  have c_w_2 := b_w.cell 2
  have c_w_3 := b_w.cell 3
  simp at c_g_0 c_g_1 c_g_2 c_g_3 c_w_0 c_w_1 c_w_2 c_w_3
  go_wp2_with fail
  refine (eqState_alike t_g t_w (gsS len0 f0) _ o_g o_w e_g e_w (by have := nn.1; omega) (by have := nn.2; omega)).mono ?_
  rintro e u7 ⟨rfl, hb⟩
  clear c_g_0 c_g_1 c_g_2 c_g_3 c_w_0 c_w_1 c_w_2 c_w_3
  replace o_w := o_w.grew hb
  replace o_x := o_x.grew hb
  replace o_g := o_g.grew hb
  replace b_w := b_w.grew hb
  replace b_g := b_g.grew hb
  replace hB := below_app hB hb hB.size
  clear hb
  go_wp2_with fail
  refine (toByteS_row _ b0 len0 _ f0 _ (by omega) (hr0.grew hB)).mono ?_
  rintro e u8 ⟨g_z, rfl, hb, o_z⟩
  have a_z_w := away_new o_w o_z.1
  have a_x_z : g_x ≠ g_z := by have h1 := o_x.2.1; have h2 := o_z.1; omega
  have a_z_x : g_z ≠ g_x := a_x_z.symm
  have a_z_g := away_new o_g o_z.1
  have d_w_z : u2.heap.size ≠ g_z := by have h1 := b_w.lt; have h2 := o_z.1; omega
  have d_g_z : u5.heap.size ≠ g_z := by have h1 := b_g.lt; have h2 := o_z.1; omega
  have f_z : w.heap.size ≤ g_z := by have h1 := hB.size; have h2 := o_z.1; omega
  replace o_w := o_w.grew hb
  replace o_x := o_x.grew hb
  replace o_g := o_g.grew hb
  replace b_w := b_w.grew hb
  replace b_g := b_g.grew hb
  replace hB := below_app hB hb hB.size
  clear hb
  go_wp2_with fail
  refine (eqByteS_same _ _ g_x g_z (len0) _ _ _ _ (by omega) o_x.rd o_z.rd).mono ?_
  rintro e u9 ⟨rfl, hb⟩
  replace o_w := o_w.grew hb
  replace o_x := o_x.grew hb
  replace o_g := o_g.grew hb
  replace o_z := o_z.grew hb
  replace b_w := b_w.grew hb
  replace b_g := b_g.grew hb
  replace hB := below_app hB hb hB.size
  clear hb
  clear o_z
  go_wp2_with fail
  refine (markByteS_any _ g_x (len0) _ 1 _ _ (by omega) (by omega) (by omega) o_x).mono ?_
  rintro e u10 ⟨rfl, ho, om_⟩
  replace o_w := o_w.onlyR ho a_x_w
  replace o_g := o_g.onlyR ho a_x_g
  replace b_w := b_w.onlyR ho d_w_x
  replace b_g := b_g.onlyR ho d_g_x
  replace hB := below_only hB f_x hB.size ho
  clear ho o_x
  have o_x := om_
  clear om_
  clear o_x
  have c_g_0 := b_g.cell 0
  have c_g_1 := b_g.cell 1
  have c_g_2 := b_g.cell 2
  have c_g_3 := b_g.cell 3
  have c_w_0 := b_w.cell 0
  have c_w_1 := b_w.cell 1
  have c_w_2 := b_w.cell 2
  have c_w_3 := b_w.cell 3
  simp at c_g_0 c_g_1 c_g_2 c_g_3 c_w_0 c_w_1 c_w_2 c_w_3
  go_wp2_with fail
  refine (eqState_alike t_g t_w (gsS len0 f0) _ o_g o_w e_g e_w (by have := nn.1; omega) (by have := nn.2; omega)).mono ?_
  rintro e u11 ⟨rfl, hb⟩
  clear c_g_0 c_g_1 c_g_2 c_g_3 c_w_0 c_w_1 c_w_2 c_w_3
  replace o_w := o_w.grew hb
  replace o_g := o_g.grew hb
  replace b_w := b_w.grew hb
  replace b_g := b_g.grew hb
  replace hB := below_app hB hb hB.size
  clear hb
  have c_g_0 := b_g.cell 0
  have c_g_1 := b_g.cell 1
  have c_g_2 := b_g.cell 2
  have c_g_3 := b_g.cell 3
  simp at c_g_0 c_g_1 c_g_2 c_g_3
  go_wp2_with fail
  refine (markState_any t_g 1 _ (by omega) (by omega) (by rw [e_g.pn]; exact (by have := nn.1; omega)) (by rw [e_g.sn]; exact (by have := nn.2; omega)) o_g).mono ?_
  rintro e u12 ⟨rfl, ho, om_⟩
  clear c_g_0 c_g_1 c_g_2 c_g_3
  have y_g : 0 ≤ 1 + 13 * (t_g.pn : Int) + 3 * (t_g.sn : Int) := by omega
  replace o_w := o_w.marked ho a_w_g
  replace b_w := b_w.marked ho d_w_g
  replace b_g := b_g.marked ho d_g_g
  replace hB := below_marked hB o_g ho f_g hB.size
  clear ho o_g
  have o_g := om_
  clear om_
  have c_g_0 := b_g.cell 0
  have c_g_1 := b_g.cell 1
  have c_g_2 := b_g.cell 2
  have c_g_3 := b_g.cell 3
  simp at c_g_0 c_g_1 c_g_2 c_g_3
  go_wp2_with fail
  refine (heldState_any t_g 1 _ (by omega) (by omega) (by rw [e_g.pn]; exact (by have := nn.1; omega)) (by rw [e_g.sn]; exact (by have := nn.2; omega)) o_g).mono ?_
  rintro e u13 ⟨rfl, hb⟩
  clear c_g_0 c_g_1 c_g_2 c_g_3
  replace o_w := o_w.grew hb
  replace o_g := o_g.grew hb
  replace b_w := b_w.grew hb
  replace b_g := b_g.grew hb
  replace hB := below_app hB hb hB.size
  clear hb
  go_wp2_with fail
  refine (toByteS_row _ b0 len0 _ f0 _ (by omega) (hr0.grew hB)).mono ?_
  rintro e u14 ⟨g_v, rfl, hb, o_v⟩
  have a_v_w := away_new o_w o_v.1
  have a_v_g := away_new o_g o_v.1
  have d_w_v : u2.heap.size ≠ g_v := by have h1 := b_w.lt; have h2 := o_v.1; omega
  have d_g_v : u5.heap.size ≠ g_v := by have h1 := b_g.lt; have h2 := o_v.1; omega
  have f_v : w.heap.size ≤ g_v := by have h1 := hB.size; have h2 := o_v.1; omega
  replace o_w := o_w.grew hb
  replace o_g := o_g.grew hb
  replace b_w := b_w.grew hb
  replace b_g := b_g.grew hb
  replace hB := below_app hB hb hB.size
  clear hb
  go_wp2_with fail
  refine (implGetState_any _ g_v len0 _ f0 _ (by omega) (Nat.le_refl _) hu0 o_v.rd).mono ?_
  rintro e u15 ⟨t_h, rfl, hb, o_h, e_h⟩
  have a_w_h := apart_old o_w o_h (Nat.le_refl _)
  have a_h_w := apart_new o_h o_w (Nat.le_refl _)
  have a_g_h := apart_old o_g o_h (Nat.le_refl _)
  have a_h_g := apart_new o_h o_g (Nat.le_refl _)
  have a_v_h := away_old o_h o_v.2.1
  have d_w_h := away_old o_h b_w.lt
  have d_g_h := away_old o_h b_g.lt
  have f_h : w.heap.size ≤ u14.heap.size := hB.size
  replace o_w := o_w.grew hb
  replace o_g := o_g.grew hb
  replace o_v := o_v.grew hb
  replace b_w := b_w.grew hb
  replace b_g := b_g.grew hb
  replace hB := below_app hB hb hB.size
  clear hb
  clear o_v
  have hb := (Below.refl _ u15).alloc (Nat.le_refl _) (.cells #[.slice t_h.pa t_h.pn t_h.pcap, .slice t_h.sa t_h.sn t_h.scap, .int .i64 t_h.ac, .int .i64 t_h.cl] 32)
  have b_h := boxR_new u15 32 #[.slice t_h.pa t_h.pn t_h.pcap, .slice t_h.sa t_h.sn t_h.scap, .int .i64 t_h.ac, .int .i64 t_h.cl]
  have d_h_w := away_new o_w (Nat.le_refl u15.heap.size)
  have d_h_g := away_new o_g (Nat.le_refl u15.heap.size)
  have d_h_h := away_new o_h (Nat.le_refl u15.heap.size)
  generalize hVh : u15.alloc (.cells #[.slice t_h.pa t_h.pn t_h.pcap, .slice t_h.sa t_h.sn t_h.scap, .int .i64 t_h.ac, .int .i64 t_h.cl] 32) = u16 at hb b_h
  replace o_w := o_w.grew hb
  replace o_g := o_g.grew hb
  replace o_h := o_h.grew hb
  replace b_w := b_w.grew hb
  replace b_g := b_g.grew hb
  replace hB := below_app hB hb hB.size
  clear hb
  have c_h_0 := b_h.cell 0
  have c_h_1 := b_h.cell 1
  have c_h_2 := b_h.cell 2
  have c_h_3 := b_h.cell 3
  have c_w_0 := b_w.cell 0
  have c_w_1 := b_w.cell 1
  have c_w_2 := b_w.cell 2
  have c_w_3 := b_w.cell 3
  simp at c_h_0 c_h_1 c_h_2 c_h_3 c_w_0 c_w_1 c_w_2 c_w_3
  go_wp2_with fail
  refine (eqState_alike t_h t_w (gsS len0 f0) _ o_h o_w e_h e_w (by have := nn.1; omega) (by have := nn.2; omega)).mono ?_
  rintro e u17 ⟨rfl, hb⟩
  clear c_h_0 c_h_1 c_h_2 c_h_3 c_w_0 c_w_1 c_w_2 c_w_3
  replace o_w := o_w.grew hb
  replace o_g := o_g.grew hb
  replace o_h := o_h.grew hb
  replace b_w := b_w.grew hb
  replace b_g := b_g.grew hb
  replace b_h := b_h.grew hb
  replace hB := below_app hB hb hB.size
  clear hb
  clear o_h
  clear o_w
  have c_g_0 := b_g.cell 0
  have c_g_1 := b_g.cell 1
  have c_g_2 := b_g.cell 2
  have c_g_3 := b_g.cell 3
  simp at c_g_0 c_g_1 c_g_2 c_g_3
  go_wp2_with fail
  refine (heldState_any t_g 1 _ (by omega) (by omega) (by rw [e_g.pn]; exact (by have := nn.1; omega)) (by rw [e_g.sn]; exact (by have := nn.2; omega)) o_g).mono ?_
  rintro e u18 ⟨rfl, hb⟩
  clear c_g_0 c_g_1 c_g_2 c_g_3
  replace o_g := o_g.grew hb
  replace b_w := b_w.grew hb
  replace b_g := b_g.grew hb
  replace b_h := b_h.grew hb
  replace hB := below_app hB hb hB.size
  clear hb
  go_wp2
  go_ret
  exact ⟨rfl, hB⟩

set_option maxRecDepth 100000 in
theorem lifted (os : Os) (started : os.Started) (H : Type) (enc : TypeId × Value → H) :
    ReturnsInHanded {} Try.checked os 4 .any (Rows.fnExactGetStateSpec.pre6 enc Try.prog Try.f4 Rows.fnExactGetStateRow.domain false) (Rows.fnExactGetStateSpec.post enc Try.prog Try.f4 false true false false) := by
  refine returnsInHanded_of_change (C := Try.checked) own started (by kernel_rfl) Try.func4
    (ChangeSpec.witness6 (enc := enc) (C := Try.checked) false ⟨#[], #[.slice none 0 0], []⟩ 8 (by kernel_rfl) (by kernel_rfl) (by kernel_rfl) (by kernel_rfl)) ?_
  intro W base args ds gs before hval0 hW hcnd _
  have hval : ∀ (j : Nat) t v, Try.f4.params[j]? = some t → args[j]? = some v → Value.okWide Try.prog W .any base t v := hval0
  have hW' := hW
  obtain ⟨p, q, hA0, hV, rfl, hfz, hnd⟩ := hW
  have hA : DataW.TrodAll enc Try.prog W 0 (fun _ => true) true Try.f4.params.toList args.toList ds p := hA0
  rw [Try.params4] at hA hval
  obtain ⟨v0, vs0, d0, ds0, p0, q0, hargs, rfl, rfl, h0, r0⟩ := trodAll_cons hA
  obtain ⟨rfl, rfl, rfl⟩ := trodAll_nil r0
  obtain rfl : args = #[v0] := by cases args; simp_all
  obtain ⟨rfl, rfl⟩ := trodVars_none hV
  obtain ⟨a0, len0, cap0, rfl⟩ := okWide_slice Try.underlying27 (hval 0 27 v0 rfl rfl)
  have k0 := h0
  have lt0 : ∀ x ∈ p0, x.block < W.heap.size := by obtain ⟨m, hm⟩ := k0; exact DataW.trod_lt m _ _ _ hm
  obtain ⟨z0, w0⟩ : ∃ zs, IsRow .u8 W a0 len0 cap0 zs := by
    obtain ⟨fuel, hf⟩ := h0
    rcases open_ints Try.underlying27 Try.underlying5 (by kernel_rfl) hf with ⟨hcs, _⟩ | ⟨x, l, c, zs, hcs, _, hl, hm, hz, _, hcell, hwz⟩
    · simp [Value.cells] at hcs
      obtain ⟨rfl, rfl, rfl⟩ := hcs
      exact ⟨[], .inl ⟨rfl, rfl, rfl, rfl⟩⟩
    · simp [Value.cells] at hcs
      obtain ⟨rfl, rfl, rfl⟩ := hcs
      exact ⟨zs, .inr ⟨_, rfl, hl, hm, by simpa using hz, hcell, hwz⟩⟩
  clear hA0 hval0
  refine (walk a0 len0 cap0 z0 W w0).mono fun e W' ⟨he, bel⟩ => ?_
  subst he
  exact ⟨_, rfl, _, _, _, [], _, [], hW', trodAll_mk1 (shut_bool Try.underlying4 _), (trodAll_cons_mk (Below.trod laidOut (by kernel_rfl) (of_decide_eq_true (by kernel_rfl)) k0 bel lt0) trodAll_mk0), rfl, bel.frame _, fun h => by cases h⟩

theorem over : Rows.fnExactGetStateRow.holds Try.pinned (OpenSpec.ofChange Rows.fnExactGetStateSpec) :=
  OpenClaim.holds_of_wide 4 Try.f4 rfl rfl rfl rfl rfl rfl rfl ⟨rfl, rfl, rfl, rfl, rfl⟩ rfl rfl rfl rfl rfl (by kernel_rfl) Try.func4 (by kernel_rfl)
    (of_decide_eq_true (by kernel_rfl)) (by unfold Func.isWrapper; first | (rw [if_pos (by decide +kernel)]; kernel_rfl) | (rw [if_neg (by decide +kernel)]; exact ⟨rfl, rfl⟩))
    (fun os started H enc _ => lifted os started H enc)

theorem proved : Rows.FnExactGetStateSaid := over
#print axioms proved
end Go.Proofs.Ytnlnledijpcjpap.fnExactGetState
