/-
  Chapter 10: words for an effect: a box's cells; how a law compares two. Written by tools/ef.gen.py. Chapter 11: words for rows of effects, each with a list of its own (Tb): how a law's own is opened. Written by tools/tab.gen.py. Chapter 11, the program: marks as keys of a map, and in a row. Written by tools/tai.gen.py. Own work.
-/
import Derived.Test.YtodfdfncdoliiadGreatGPaA4
import Derived.Test.YtodfdfncdoliiadGreatMaA
import Derived.Test.YtodfdfncdoliiadGreatGEvA3
namespace Go.Proofs.YtodfdfncdoliiadGreat
open Go.ChangeShapes Go.WideShapes Go.ChangeAt Go.RowKit
set_option maxRecDepth 100000
set_option linter.unusedVariables false
set_option linter.unusedSimpArgs false

/-- the cells of an effect, in a box -/
theorem BoxR.cells22 {w : World} {g : Nat} {a : Ef} {T : Nat} (h : BoxR w g T #[.int .i64 a.id, .int .i64 a.si, .int .i64 a.sr, .int .i64 a.cl, .int .i64 a.pt.kd, .int .i64 a.pt.wh, .int .i64 a.pt.sr, .int .i64 a.pt.tr, .int .i64 a.pt.pi, .int .i64 a.pt.le, .int .i64 a.pt.zo, .int .i64 a.gd.kd, .int .i64 a.gd.nn, .int .i64 a.ac.kd, .int .i64 a.ac.nn, .int .i64 a.ac.pi, .int .i64 a.ac.si, .int .i64 a.ac.zo, .bool a.ac.be, .slice a.ac.la a.ac.ln a.ac.lcap, .int .i64 a.un, .int .i64 a.le]) : w.cell? ⟨g, 0, none⟩ = some (.int .i64 a.id) ∧ w.cell? ⟨g, 1, none⟩ = some (.int .i64 a.si) ∧ w.cell? ⟨g, 2, none⟩ = some (.int .i64 a.sr) ∧ w.cell? ⟨g, 3, none⟩ = some (.int .i64 a.cl) ∧ w.cell? ⟨g, 4, none⟩ = some (.int .i64 a.pt.kd) ∧ w.cell? ⟨g, 5, none⟩ = some (.int .i64 a.pt.wh) ∧ w.cell? ⟨g, 6, none⟩ = some (.int .i64 a.pt.sr) ∧ w.cell? ⟨g, 7, none⟩ = some (.int .i64 a.pt.tr) ∧ w.cell? ⟨g, 8, none⟩ = some (.int .i64 a.pt.pi) ∧ w.cell? ⟨g, 9, none⟩ = some (.int .i64 a.pt.le) ∧ w.cell? ⟨g, 10, none⟩ = some (.int .i64 a.pt.zo) ∧ w.cell? ⟨g, 11, none⟩ = some (.int .i64 a.gd.kd) ∧ w.cell? ⟨g, 12, none⟩ = some (.int .i64 a.gd.nn) ∧ w.cell? ⟨g, 13, none⟩ = some (.int .i64 a.ac.kd) ∧ w.cell? ⟨g, 14, none⟩ = some (.int .i64 a.ac.nn) ∧ w.cell? ⟨g, 15, none⟩ = some (.int .i64 a.ac.pi) ∧ w.cell? ⟨g, 16, none⟩ = some (.int .i64 a.ac.si) ∧ w.cell? ⟨g, 17, none⟩ = some (.int .i64 a.ac.zo) ∧ w.cell? ⟨g, 18, none⟩ = some (.bool a.ac.be) ∧ w.cell? ⟨g, 19, none⟩ = some (.slice a.ac.la a.ac.ln a.ac.lcap) ∧ w.cell? ⟨g, 20, none⟩ = some (.int .i64 a.un) ∧ w.cell? ⟨g, 21, none⟩ = some (.int .i64 a.le) :=
  ⟨h.cell 0, h.cell 1, h.cell 2, h.cell 3, h.cell 4, h.cell 5, h.cell 6, h.cell 7, h.cell 8, h.cell 9, h.cell 10, h.cell 11, h.cell 12, h.cell 13, h.cell 14, h.cell 15, h.cell 16, h.cell 17, h.cell 18, h.cell 19, h.cell 20, h.cell 21⟩
end Go.Proofs.YtodfdfncdoliiadGreat
namespace Go.Proofs.YtodfdfncdoliiadGreat
open Go.ChangeShapes Go.WideShapes Go.ChangeAt Go.RowKit
set_option maxRecDepth 100000
set_option linter.unusedVariables false
set_option linter.unusedSimpArgs false

/-- the cells of an effect -/
def efC (x : Ef) : List Value := [.int .i64 x.id, .int .i64 x.si, .int .i64 x.sr, .int .i64 x.cl, .int .i64 x.pt.kd, .int .i64 x.pt.wh, .int .i64 x.pt.sr, .int .i64 x.pt.tr, .int .i64 x.pt.pi, .int .i64 x.pt.le, .int .i64 x.pt.zo, .int .i64 x.gd.kd, .int .i64 x.gd.nn, .int .i64 x.ac.kd, .int .i64 x.ac.nn, .int .i64 x.ac.pi, .int .i64 x.ac.si, .int .i64 x.ac.zo, .bool x.ac.be, .slice x.ac.la x.ac.ln x.ac.lcap, .int .i64 x.un, .int .i64 x.le]
theorem efC_ne (x : Ef) : efC x ≠ [] := by unfold efC; simp
theorem efC_len (x : Ef) : (efC x).length = 22 := rfl
theorem efC_arr (x : Ef) : (efC x).toArray = #[.int .i64 x.id, .int .i64 x.si, .int .i64 x.sr, .int .i64 x.cl, .int .i64 x.pt.kd, .int .i64 x.pt.wh, .int .i64 x.pt.sr, .int .i64 x.pt.tr, .int .i64 x.pt.pi, .int .i64 x.pt.le, .int .i64 x.pt.zo, .int .i64 x.gd.kd, .int .i64 x.gd.nn, .int .i64 x.ac.kd, .int .i64 x.ac.nn, .int .i64 x.ac.pi, .int .i64 x.ac.si, .int .i64 x.ac.zo, .bool x.ac.be, .slice x.ac.la x.ac.ln x.ac.lcap, .int .i64 x.un, .int .i64 x.le] := rfl
theorem efC_one (n : Nat) (f : Nat → Ef) : ∀ u ∈ valsE efC n f, u.oneCell' = true := by
  intro u hu
  unfold valsE at hu
  obtain ⟨i, _, hi⟩ := List.mem_flatMap.1 hu
  simp only [efC, List.mem_cons, List.mem_nil_iff, or_false] at hi
  rcases hi with rfl | rfl | rfl | rfl | rfl | rfl | rfl | rfl | rfl | rfl | rfl | rfl | rfl | rfl | rfl | rfl | rfl | rfl | rfl | rfl | rfl | rfl <;> rfl
theorem Tryz.infoEf : (Tryz.prog.info? 32).map (fun i => (i.zero, i.size, i.bytes)) = some (some (.agg #[.int .i64 0, .int .i64 0, .int .i64 0, .int .i64 0, .int .i64 0, .int .i64 0, .int .i64 0, .int .i64 0, .int .i64 0, .int .i64 0, .int .i64 0, .int .i64 0, .int .i64 0, .int .i64 0, .int .i64 0, .int .i64 0, .int .i64 0, .int .i64 0, .bool false, .slice none 0 0, .int .i64 0, .int .i64 0]), 22, 192) := by kernel_rfl
def zEf : Ef := ⟨0, 0, 0, 0, ⟨0, 0, 0, 0, 0, 0, 0⟩, ⟨0, 0⟩, ⟨0, 0, 0, 0, 0, false, none, 0, 0, 0, fun _ => ⟨0, 0, 0, 0, 0, 0, false⟩⟩, 0, 0⟩
theorem made_effect (n : Nat) : (madeCells #[.int .i64 0, .int .i64 0, .int .i64 0, .int .i64 0, .int .i64 0, .int .i64 0, .int .i64 0, .int .i64 0, .int .i64 0, .int .i64 0, .int .i64 0, .int .i64 0, .int .i64 0, .int .i64 0, .int .i64 0, .int .i64 0, .int .i64 0, .int .i64 0, .bool false, .slice none 0 0, .int .i64 0, .int .i64 0] (n * 22)).toList = valsE efC n (fun _ => zEf) := by
  refine valsE_ext efC_len (by simp [madeCells]) (fun i j hi hj => ?_)
  unfold madeCells
  have hlt : i * 22 + j < n * 22 := by omega
  simp only [Array.toList_map, Array.toList_range, List.getElem?_map, List.getElem?_range hlt, Option.map_some, List.size_toArray, List.length_cons, List.length_nil]
  rw [show (i * 22 + j) % (0 + 1 + 1 + 1 + 1 + 1 + 1 + 1 + 1 + 1 + 1 + 1 + 1 + 1 + 1 + 1 + 1 + 1 + 1 + 1 + 1 + 1 + 1) = j by omega]
  have : j = 0 ∨ j = 1 ∨ j = 2 ∨ j = 3 ∨ j = 4 ∨ j = 5 ∨ j = 6 ∨ j = 7 ∨ j = 8 ∨ j = 9 ∨ j = 10 ∨ j = 11 ∨ j = 12 ∨ j = 13 ∨ j = 14 ∨ j = 15 ∨ j = 16 ∨ j = 17 ∨ j = 18 ∨ j = 19 ∨ j = 20 ∨ j = 21 := by omega
  rcases this with rfl | rfl | rfl | rfl | rfl | rfl | rfl | rfl | rfl | rfl | rfl | rfl | rfl | rfl | rfl | rfl | rfl | rfl | rfl | rfl | rfl | rfl <;> rfl
/-- a list of effects as it came in -/
structure Tb where
  (p : Option Addr)
  (n cap b : Nat)
  (f : Nat → Ef)
def Tb.ok (t : Tb) (w : World) : Prop := t.n ≤ t.cap ∧ t.cap ≤ maxLen ∧ RdE efC 22 w t.b t.p t.n t.f ∧ ∀ i, i < t.n → (t.f i).ok w
theorem Tb.ok.grew {t : Tb} {w w' : World} (h : t.ok w) (hb : Below w.heap.size w w') : t.ok w' := ⟨h.1, h.2.1, h.2.2.1.grew efC_ne hb, fun i hi => ef_grew (h.2.2.2 i hi) hb⟩
/-- they say the same, effect by effect -/
structure AlikeT (t a : Tb) : Prop where
  n : t.n = a.n
  f : ∀ i, i < a.n → AlikeF (t.f i) (a.f i)
/-- the call's own: the row and each list -/
def OwnTb (w : World) (B : Nat) (t : Tb) : Prop := t.n ≤ t.cap ∧ t.cap ≤ maxLen ∧ OwnE efC 22 w B t.b t.p t.n t.f ∧ (∀ i, i < t.n → OwnF w B (t.f i) ∧ (t.f i).ac.lb ≠ t.b) ∧ ∀ i j, i < j → j < t.n → (t.f i).ac.lb ≠ (t.f j).ac.lb
theorem OwnTb.grew {w w' : World} {B : Nat} {t : Tb} (h : OwnTb w B t) (hb : Below w.heap.size w w') : OwnTb w' B t := ⟨h.1, h.2.1, h.2.2.1.grew hb, fun i hi => ⟨OwnF.grew (h.2.2.2.1 i hi).1 hb, (h.2.2.2.1 i hi).2⟩, h.2.2.2.2⟩
theorem okT11 {t a : Tb} {w w0 : World} {B : Nat} (h : OwnTb w B t) (k : AlikeT t a) (hs : a.ok w0) : t.ok w := ⟨h.1, h.2.1, h.2.2.1.rd, fun i hi => okT10 (h.2.2.2.1 i hi).1 (k.f i (by rw [← k.n]; exact hi)) (hs.2.2.2 i (by rw [← k.n]; exact hi))⟩
theorem AlikeT.symm_trans {s t a : Tb} (h : AlikeT s a) (k : AlikeT t a) : s.n = t.n := h.n.trans k.n.symm
end Go.Proofs.YtodfdfncdoliiadGreat
namespace Go.Proofs.YtodfdfncdoliiadGreat
open Go.ChangeShapes Go.WideShapes Go.ChangeAt Go.RowKit
set_option maxRecDepth 100000
set_option linter.unusedVariables false
set_option linter.unusedSimpArgs false

/-- a mark: an Id, and how many of it are ahead -/
def mkC (p : Int × Int) : List Value := [.int .i64 p.1, .int .i64 p.2]
def encMk (p : Int × Int) : Value := .agg #[.int .i64 p.1, .int .i64 p.2]
def encI (i : Int) : Value := .int .i64 i
/-- one more mark at the K-th place -/
def insG (K : Nat) (g : Nat → Int × Int) (m : Int × Int) : Nat → Int × Int := fun i => if i < K then g i else if i = K then m else g (i - 1)
theorem mkC_ne (p : Int × Int) : mkC p ≠ [] := by unfold mkC; simp
theorem mkC_len (p : Int × Int) : (mkC p).length = 2 := rfl
theorem mkC_one (n : Nat) (f : Nat → Int × Int) : ∀ u ∈ valsE mkC n f, u.oneCell' = true := by
  intro u hu
  unfold valsE at hu
  obtain ⟨i, _, hi⟩ := List.mem_flatMap.1 hu
  simp only [mkC, List.mem_cons, List.mem_nil_iff, or_false] at hi
  rcases hi with rfl | rfl <;> rfl
theorem Tryz.infoMk : (Tryz.prog.info? 117).map (fun i => (i.zero, i.size, i.bytes)) = some (some (.agg #[.int .i64 0, .int .i64 0]), 2, 16) := by kernel_rfl
theorem made_mark (n : Nat) : (madeCells #[.int .i64 0, .int .i64 0] (n * 2)).toList = valsE mkC n (fun _ => (0, 0)) := by
  refine valsE_ext mkC_len (by simp [madeCells]) (fun i j hi hj => ?_)
  unfold madeCells
  have hlt : i * 2 + j < n * 2 := by omega
  simp only [Array.toList_map, Array.toList_range, List.getElem?_map, List.getElem?_range hlt, Option.map_some, List.size_toArray, List.length_cons, List.length_nil]
  rw [show (i * 2 + j) % (0 + 1 + 1) = j by omega]
  have : j = 0 ∨ j = 1 := by omega
  rcases this with rfl | rfl <;> rfl
theorem Tryz.fieldsMk : (Tryz.prog.fieldsOf 117).toList.map (fun f => (f.name == "_", f.type, f.offset)) = [(false, 3, 0), (false, 3, 1)] := by kernel_rfl
theorem run_eq_mk (p q : Int × Int) (w : World) : (Op.equal 117 (encMk p) (encMk q)).run Tryz.prog w = .ok (decide (p = q)) w := by
  show (Op.equalIn 10000 117 (encMk p) (encMk q)).run Tryz.prog w = _
  unfold encMk
  rw [run_equalIn_struct w 9999 _ _ _ (by kernel_rfl) (by kernel_rfl)]
  have hL := Tryz.fieldsMk
  generalize (Tryz.prog.fieldsOf 117).toList = L at hL ⊢
  obtain ⟨f0, L0, rfl, e0, hL⟩ := list_of_mapE hL
  obtain ⟨f1, L1, rfl, e1, hL⟩ := list_of_mapE hL
  rw [List.map_eq_nil_iff] at hL
  subst hL
  simp only [Prod.mk.injEq] at e0
  obtain ⟨n0, t0, o0⟩ := e0
  simp only [Prod.mk.injEq] at e1
  obtain ⟨n1, t1, o1⟩ := e1
  have h : (Op.eqFields 9999 #[.int .i64 p.1, .int .i64 p.2] #[.int .i64 q.1, .int .i64 q.2] []).run Tryz.prog w = .ok true w := by simp [Op.eqFields]
  replace h := eqFields_stepE (f := f1) w n1 (by rw [t1, o1]; exact run_part_plain w (by kernel_rfl) rfl) (by rw [t1, o1]; exact run_part_plain w (by kernel_rfl) rfl) (by rw [t1]; exact run_equalIn_int w 9998 3 .i64 .i64 _ _ Tryz.underlying3) h
  replace h := eqFields_stepE (f := f0) w n0 (by rw [t0, o0]; exact run_part_plain w (by kernel_rfl) rfl) (by rw [t0, o0]; exact run_part_plain w (by kernel_rfl) rfl) (by rw [t0]; exact run_equalIn_int w 9998 3 .i64 .i64 _ _ Tryz.underlying3) h
  rw [h]
  congr 1
  obtain ⟨a, b⟩ := p
  obtain ⟨c, d⟩ := q
  by_cases h1 : a = c <;> by_cases h2 : b = d <;> simp [h1, h2]
theorem encMk_inj : ∀ x y, encMk x = encMk y → x = y := by
  rintro ⟨a, b⟩ ⟨c, d⟩ h
  simp [encMk] at h
  simp [h]
theorem find_ask {P : Program} {k : TypeId} {α : Type} [DecidableEq α] {enc : α → Value} (heq : ∀ x y w, (Op.equal k (enc x) (enc y)).run P w = .ok (decide (x = y)) w) (hi : ∀ x y, enc x = enc y → x = y) (w : World) (x : α) : ∀ (es : List MapEntry) (i : Nat), (∀ e ∈ es, ∃ y, e.key = enc y) →
    ((Instr.findAsking k (enc x) es i).run P w = .ok none w ∧ ∀ e ∈ es, e.key ≠ enc x) ∨ ∃ j e, (Instr.findAsking k (enc x) es i).run P w = .ok (some (i + j, e.val)) w ∧ es[j]? = some e ∧ e.key = enc x
  | [], i, _ => .inl ⟨by simp [Instr.findAsking], by simp⟩
  | e :: es, i, h => by
    obtain ⟨y, hy⟩ := h e (by simp)
    have hq := heq x y w
    by_cases hxy : x = y
    · subst hxy
      refine .inr ⟨0, e, ?_, rfl, hy⟩
      simp [Instr.findAsking, hy, hq, Result.andThen]
    · rcases find_ask heq hi w x es (i + 1) (fun e he => h e (by simp [he])) with ⟨h1, h2⟩ | ⟨j, e', h1, h2, h3⟩
      · refine .inl ⟨?_, fun f hf => ?_⟩
        · simp [Instr.findAsking, hy, hq, hxy, Result.andThen, h1]
        · rcases List.mem_cons.1 hf with rfl | hf
          · rw [hy]
            exact fun hc => hxy (hi _ _ hc.symm)
          · exact h2 f hf
      · refine .inr ⟨j + 1, e', ?_, by simpa using h2, h3⟩
        simp [Instr.findAsking, hy, hq, hxy, Result.andThen, h1]
        omega
theorem find_now {α : Type} {d : TypeDesc} {x : α} {enc : α → Value} [DecidableEq α] (heq : ∀ y, Instr.sameNow d (enc x) (enc y) = some (decide (x = y))) (hi : ∀ x y, enc x = enc y → x = y) : ∀ (es : List MapEntry) (i : Nat), (∀ e ∈ es, ∃ y, e.key = enc y) →
    (Instr.findNow d (enc x) es i = some none ∧ ∀ e ∈ es, e.key ≠ enc x) ∨ ∃ j e, Instr.findNow d (enc x) es i = some (some (i + j, e.val)) ∧ es[j]? = some e ∧ e.key = enc x
  | [], i, _ => .inl ⟨rfl, by simp⟩
  | e :: es, i, h => by
    obtain ⟨y, hy⟩ := h e (by simp)
    have hq := heq y
    by_cases hxy : x = y
    · subst hxy
      refine .inr ⟨0, e, ?_, rfl, hy⟩
      simp [Instr.findNow, hy, hq]
    · rcases find_now heq hi es (i + 1) (fun e he => h e (by simp [he])) with ⟨h1, h2⟩ | ⟨j, e', h1, h2, h3⟩
      · refine .inl ⟨?_, fun f hf => ?_⟩
        · simp [Instr.findNow, hy, hq, hxy, h1]
        · rcases List.mem_cons.1 hf with rfl | hf
          · rw [hy]
            exact fun hc => hxy (hi _ _ hc.symm)
          · exact h2 f hf
      · refine .inr ⟨j + 1, e', ?_, by simpa using h2, h3⟩
        simp [Instr.findNow, hy, hq, hxy, h1]
        omega
theorem check_int {P : Program} {t : TypeId} {q : IntKind} (ht : P.underlying t = some (.int q)) (em : Bool) (n : Nat) (i : Int) (w : World) : (Instr.checkKey em (n + 1) t (.int .i64 i)).run P w = .ok () w := by
  simp [Instr.checkKey, run_underlying ht]
theorem check_two {P : Program} {t it : TypeId} {q : IntKind} (hu : P.underlying t = some (.struct (P.fieldsOf t))) (hL : (P.fieldsOf t).toList.map (fun f => (f.name == "_", f.type, f.offset)) = [(false, it, 0), (false, it, 1)]) (hi : P.underlying it = some (.int q)) (hp : P.plainKey it = true) (em : Bool) (D : Nat) (a b : Int) (w : World) : (Instr.checkKey em (D + 2) t (.agg #[.int .i64 a, .int .i64 b])).run P w = .ok () w := by
  unfold Instr.checkKey
  simp only [Sem.run_bind, run_underlying hu, Result.andThen_ok]
  rw [← Array.forIn_toList]
  generalize (P.fieldsOf t).toList = L at hL ⊢
  obtain ⟨f0, L0, rfl, e0, hL⟩ := list_of_mapE hL
  obtain ⟨f1, L1, rfl, e1, hL⟩ := list_of_mapE hL
  rw [List.map_eq_nil_iff] at hL
  subst hL
  simp only [Prod.mk.injEq] at e0
  obtain ⟨n0, t0, o0⟩ := e0
  simp only [Prod.mk.injEq] at e1
  obtain ⟨n1, t1, o1⟩ := e1
  have m0 : f0.name ≠ "_" := by simpa using n0
  have m1 : f1.name ≠ "_" := by simpa using n1
  have p0 : (part f0.type #[.int .i64 a, .int .i64 b] f0.offset).run P w = .ok (.int .i64 a) w := by rw [t0, o0]; exact run_part_plain w hp rfl
  have p1 : (part f1.type #[.int .i64 a, .int .i64 b] f1.offset).run P w = .ok (.int .i64 b) w := by rw [t1, o1]; exact run_part_plain w hp rfl
  have c0 : (Instr.checkKey em (D + 1) f0.type (.int .i64 a)).run P w = .ok () w := by rw [t0]; exact check_int hi em D a w
  have c1 : (Instr.checkKey em (D + 1) f1.type (.int .i64 b)).run P w = .ok () w := by rw [t1]; exact check_int hi em D b w
  simp [m0, m1, p0, p1, c0, c1, Result.andThen]
theorem bits_two (n : Nat) (a b : Int) : Instr.sameBits (n + 1) (.agg #[.int .i64 a, .int .i64 b]) (.agg #[.int .i64 a, .int .i64 b]) = true := by simp [Instr.sameBits]
theorem bits_int (n : Nat) (a : Int) : Instr.sameBits n (.int .i64 a) (.int .i64 a) = true := by cases n <;> simp [Instr.sameBits]
theorem stays_of {P : Program} {v : Value} {w : World} (h : Instr.sameBits 10000 v v = true) : (Instr.keyThatStays v v).run P w = .ok v w := by
  unfold Instr.keyThatStays
  rw [if_pos h]
  rfl
theorem keyM : KeyT Tryz.prog 117 encMk where
  inj := encMk_inj
  check w em x := check_two (by kernel_rfl) Tryz.fieldsMk Tryz.underlying3 (by kernel_rfl) em 9998 x.1 x.2 w
  find w x es h := by
    rw [run_findKey_eq w (by kernel_rfl)]
    rcases find_ask run_eq_mk encMk_inj w x es 0 h with h | ⟨j, e, h1, h2, h3⟩
    · exact .inl h
    · exact .inr ⟨j, e, by simpa using h1, h2, h3⟩
  stays w x := stays_of (bits_two 9999 x.1 x.2)
theorem keyI : KeyT Tryz.prog 3 encI where
  inj := fun x y h => by simpa [encI] using h
  check w em x := check_int Tryz.underlying3 em 9999 x w
  find w x es h := by
    have hu := Tryz.underlying3
    rcases find_now (d := .int .i64) (x := x) (enc := encI) (fun y => by simp only [Instr.sameNow, encI, if_true]; congr 1) (fun x y h => by simpa [encI] using h) es 0 h with ⟨h1, h2⟩ | ⟨j, e, h1, h2, h3⟩
    · exact .inl ⟨MapKept.run_findKey hu h1, h2⟩
    · exact .inr ⟨j, e, by simpa using MapKept.run_findKey (P := Tryz.prog) (w := w) hu h1, h2, h3⟩
  stays w x := stays_of (bits_int 10000 x)
theorem zeroEf (w : World) : (zeroValue 32).run Tryz.prog w = .ok (.agg #[.int .i64 0, .int .i64 0, .int .i64 0, .int .i64 0, .int .i64 0, .int .i64 0, .int .i64 0, .int .i64 0, .int .i64 0, .int .i64 0, .int .i64 0, .int .i64 0, .int .i64 0, .int .i64 0, .int .i64 0, .int .i64 0, .int .i64 0, .int .i64 0, .bool false, .slice none 0 0, .int .i64 0, .int .i64 0]) w := by
  obtain ⟨i0, hi, hz0, hz1, hz2⟩ := info_parts Tryz.infoEf
  simp [zeroValue, typeInfo, hi, hz0]
theorem zeroInt (w : World) : (zeroValue 3).run Tryz.prog w = .ok (.int .i64 0) w := by
  have h0 : (Tryz.prog.info? 3).map (fun i => (i.zero, i.size, i.bytes)) = some (some (.int .i64 0), 1, 8) := by kernel_rfl
  obtain ⟨i0, hi, hz0, hz1, hz2⟩ := info_parts h0
  simp [zeroValue, typeInfo, hi, hz0]
end Go.Proofs.YtodfdfncdoliiadGreat
