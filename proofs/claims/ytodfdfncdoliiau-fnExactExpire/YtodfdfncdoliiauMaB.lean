/-
  Chapter 11, the program: marks as keys of a map, and in a row. Written by tools/tai.gen.py. Own work.
-/
import Derived.Test.YtodfdfncdoliiauMaA
import Derived.Test.YtodfdfncdoliiauEvA
import Derived.Test.YtodfdfncdoliiauTaA
namespace Go.Proofs.Ytodfdfncdoliiau
open Go.ChangeShapes Go.WideShapes Go.ChangeAt Go.RowKit
set_option maxRecDepth 100000
set_option linter.unusedVariables false
set_option linter.unusedSimpArgs false

/-- a mark: an Id, and how many of it are ahead -/
def mkC (p : Int × Int) : List Value := [.int .i64 p.1, .int .i64 p.2]
def encMk (p : Int × Int) : Value := .agg #[.int .i64 p.1, .int .i64 p.2]
def encI (i : Int) : Value := .int .i64 i
/-- one more mark at the K-th place -/
def insG (K : Nat) (g : Nat → Int × Int) (m : Int × Int) : Nat → Int × Int := fun i => if i < K then g i else if i = K then m else g (i - 1)
theorem mkC_ne (p : Int × Int) : mkC p ≠ [] := by unfold mkC; simp
theorem mkC_len (p : Int × Int) : (mkC p).length = 2 := rfl
theorem mkC_one (n : Nat) (f : Nat → Int × Int) : ∀ u ∈ valsE mkC n f, u.oneCell' = true := by
  intro u hu
  unfold valsE at hu
  obtain ⟨i, _, hi⟩ := List.mem_flatMap.1 hu
  simp only [mkC, List.mem_cons, List.mem_nil_iff, or_false] at hi
  rcases hi with rfl | rfl <;> rfl
theorem Try.infoMk : (Try.prog.info? 84).map (fun i => (i.zero, i.size, i.bytes)) = some (some (.agg #[.int .i64 0, .int .i64 0]), 2, 16) := by kernel_rfl
theorem made_mark (n : Nat) : (madeCells #[.int .i64 0, .int .i64 0] (n * 2)).toList = valsE mkC n (fun _ => (0, 0)) := by
  refine valsE_ext mkC_len (by simp [madeCells]) (fun i j hi hj => ?_)
  unfold madeCells
  have hlt : i * 2 + j < n * 2 := by omega
  simp only [Array.toList_map, Array.toList_range, List.getElem?_map, List.getElem?_range hlt, Option.map_some, List.size_toArray, List.length_cons, List.length_nil]
  rw [show (i * 2 + j) % (0 + 1 + 1) = j by omega]
  have : j = 0 ∨ j = 1 := by omega
  rcases this with rfl | rfl <;> rfl
theorem Try.fieldsMk : (Try.prog.fieldsOf 84).toList.map (fun f => (f.name == "_", f.type, f.offset)) = [(false, 3, 0), (false, 3, 1)] := by kernel_rfl
theorem run_eq_mk (p q : Int × Int) (w : World) : (Op.equal 84 (encMk p) (encMk q)).run Try.prog w = .ok (decide (p = q)) w := by
  show (Op.equalIn 10000 84 (encMk p) (encMk q)).run Try.prog w = _
  unfold encMk
  rw [run_equalIn_struct w 9999 _ _ _ (by kernel_rfl) (by kernel_rfl)]
  have hL := Try.fieldsMk
  generalize (Try.prog.fieldsOf 84).toList = L at hL ⊢
  obtain ⟨f0, L0, rfl, e0, hL⟩ := list_of_mapE hL
  obtain ⟨f1, L1, rfl, e1, hL⟩ := list_of_mapE hL
  rw [List.map_eq_nil_iff] at hL
  subst hL
  simp only [Prod.mk.injEq] at e0
  obtain ⟨n0, t0, o0⟩ := e0
  simp only [Prod.mk.injEq] at e1
  obtain ⟨n1, t1, o1⟩ := e1
  have h : (Op.eqFields 9999 #[.int .i64 p.1, .int .i64 p.2] #[.int .i64 q.1, .int .i64 q.2] []).run Try.prog w = .ok true w := by simp [Op.eqFields]
  replace h := eqFields_stepE (f := f1) w n1 (by rw [t1, o1]; exact run_part_plain w (by kernel_rfl) rfl) (by rw [t1, o1]; exact run_part_plain w (by kernel_rfl) rfl) (by rw [t1]; exact run_equalIn_int w 9998 3 .i64 .i64 _ _ Try.underlying3) h
  replace h := eqFields_stepE (f := f0) w n0 (by rw [t0, o0]; exact run_part_plain w (by kernel_rfl) rfl) (by rw [t0, o0]; exact run_part_plain w (by kernel_rfl) rfl) (by rw [t0]; exact run_equalIn_int w 9998 3 .i64 .i64 _ _ Try.underlying3) h
  rw [h]
  congr 1
  obtain ⟨a, b⟩ := p
  obtain ⟨c, d⟩ := q
  by_cases h1 : a = c <;> by_cases h2 : b = d <;> simp [h1, h2]
theorem encMk_inj : ∀ x y, encMk x = encMk y → x = y := by
  rintro ⟨a, b⟩ ⟨c, d⟩ h
  simp [encMk] at h
  simp [h]
theorem find_ask {P : Program} {k : TypeId} {α : Type} [DecidableEq α] {enc : α → Value} (heq : ∀ x y w, (Op.equal k (enc x) (enc y)).run P w = .ok (decide (x = y)) w) (hi : ∀ x y, enc x = enc y → x = y) (w : World) (x : α) : ∀ (es : List MapEntry) (i : Nat), (∀ e ∈ es, ∃ y, e.key = enc y) →
    ((Instr.findAsking k (enc x) es i).run P w = .ok none w ∧ ∀ e ∈ es, e.key ≠ enc x) ∨ ∃ j e, (Instr.findAsking k (enc x) es i).run P w = .ok (some (i + j, e.val)) w ∧ es[j]? = some e ∧ e.key = enc x
  | [], i, _ => .inl ⟨by simp [Instr.findAsking], by simp⟩
  | e :: es, i, h => by
    obtain ⟨y, hy⟩ := h e (by simp)
    have hq := heq x y w
    by_cases hxy : x = y
    · subst hxy
      refine .inr ⟨0, e, ?_, rfl, hy⟩
      simp [Instr.findAsking, hy, hq, Result.andThen]
    · rcases find_ask heq hi w x es (i + 1) (fun e he => h e (by simp [he])) with ⟨h1, h2⟩ | ⟨j, e', h1, h2, h3⟩
      · refine .inl ⟨?_, fun f hf => ?_⟩
        · simp [Instr.findAsking, hy, hq, hxy, Result.andThen, h1]
        · rcases List.mem_cons.1 hf with rfl | hf
          · rw [hy]
            exact fun hc => hxy (hi _ _ hc.symm)
          · exact h2 f hf
      · refine .inr ⟨j + 1, e', ?_, by simpa using h2, h3⟩
        simp [Instr.findAsking, hy, hq, hxy, Result.andThen, h1]
        omega
theorem find_now {α : Type} {d : TypeDesc} {x : α} {enc : α → Value} [DecidableEq α] (heq : ∀ y, Instr.sameNow d (enc x) (enc y) = some (decide (x = y))) (hi : ∀ x y, enc x = enc y → x = y) : ∀ (es : List MapEntry) (i : Nat), (∀ e ∈ es, ∃ y, e.key = enc y) →
    (Instr.findNow d (enc x) es i = some none ∧ ∀ e ∈ es, e.key ≠ enc x) ∨ ∃ j e, Instr.findNow d (enc x) es i = some (some (i + j, e.val)) ∧ es[j]? = some e ∧ e.key = enc x
  | [], i, _ => .inl ⟨rfl, by simp⟩
  | e :: es, i, h => by
    obtain ⟨y, hy⟩ := h e (by simp)
    have hq := heq y
    by_cases hxy : x = y
    · subst hxy
      refine .inr ⟨0, e, ?_, rfl, hy⟩
      simp [Instr.findNow, hy, hq]
    · rcases find_now heq hi es (i + 1) (fun e he => h e (by simp [he])) with ⟨h1, h2⟩ | ⟨j, e', h1, h2, h3⟩
      · refine .inl ⟨?_, fun f hf => ?_⟩
        · simp [Instr.findNow, hy, hq, hxy, h1]
        · rcases List.mem_cons.1 hf with rfl | hf
          · rw [hy]
            exact fun hc => hxy (hi _ _ hc.symm)
          · exact h2 f hf
      · refine .inr ⟨j + 1, e', ?_, by simpa using h2, h3⟩
        simp [Instr.findNow, hy, hq, hxy, h1]
        omega
theorem check_int {P : Program} {t : TypeId} {q : IntKind} (ht : P.underlying t = some (.int q)) (em : Bool) (n : Nat) (i : Int) (w : World) : (Instr.checkKey em (n + 1) t (.int .i64 i)).run P w = .ok () w := by
  simp [Instr.checkKey, run_underlying ht]
theorem check_two {P : Program} {t it : TypeId} {q : IntKind} (hu : P.underlying t = some (.struct (P.fieldsOf t))) (hL : (P.fieldsOf t).toList.map (fun f => (f.name == "_", f.type, f.offset)) = [(false, it, 0), (false, it, 1)]) (hi : P.underlying it = some (.int q)) (hp : P.plainKey it = true) (em : Bool) (D : Nat) (a b : Int) (w : World) : (Instr.checkKey em (D + 2) t (.agg #[.int .i64 a, .int .i64 b])).run P w = .ok () w := by
  unfold Instr.checkKey
  simp only [Sem.run_bind, run_underlying hu, Result.andThen_ok]
  rw [← Array.forIn_toList]
  generalize (P.fieldsOf t).toList = L at hL ⊢
  obtain ⟨f0, L0, rfl, e0, hL⟩ := list_of_mapE hL
  obtain ⟨f1, L1, rfl, e1, hL⟩ := list_of_mapE hL
  rw [List.map_eq_nil_iff] at hL
  subst hL
  simp only [Prod.mk.injEq] at e0
  obtain ⟨n0, t0, o0⟩ := e0
  simp only [Prod.mk.injEq] at e1
  obtain ⟨n1, t1, o1⟩ := e1
  have m0 : f0.name ≠ "_" := by simpa using n0
  have m1 : f1.name ≠ "_" := by simpa using n1
  have p0 : (part f0.type #[.int .i64 a, .int .i64 b] f0.offset).run P w = .ok (.int .i64 a) w := by rw [t0, o0]; exact run_part_plain w hp rfl
  have p1 : (part f1.type #[.int .i64 a, .int .i64 b] f1.offset).run P w = .ok (.int .i64 b) w := by rw [t1, o1]; exact run_part_plain w hp rfl
  have c0 : (Instr.checkKey em (D + 1) f0.type (.int .i64 a)).run P w = .ok () w := by rw [t0]; exact check_int hi em D a w
  have c1 : (Instr.checkKey em (D + 1) f1.type (.int .i64 b)).run P w = .ok () w := by rw [t1]; exact check_int hi em D b w
  simp [m0, m1, p0, p1, c0, c1, Result.andThen]
theorem bits_two (n : Nat) (a b : Int) : Instr.sameBits (n + 1) (.agg #[.int .i64 a, .int .i64 b]) (.agg #[.int .i64 a, .int .i64 b]) = true := by simp [Instr.sameBits]
theorem bits_int (n : Nat) (a : Int) : Instr.sameBits n (.int .i64 a) (.int .i64 a) = true := by cases n <;> simp [Instr.sameBits]
theorem stays_of {P : Program} {v : Value} {w : World} (h : Instr.sameBits 10000 v v = true) : (Instr.keyThatStays v v).run P w = .ok v w := by
  unfold Instr.keyThatStays
  rw [if_pos h]
  rfl
theorem keyM : KeyT Try.prog 84 encMk where
  inj := encMk_inj
  check w em x := check_two (by kernel_rfl) Try.fieldsMk Try.underlying3 (by kernel_rfl) em 9998 x.1 x.2 w
  find w x es h := by
    rw [run_findKey_eq w (by kernel_rfl)]
    rcases find_ask run_eq_mk encMk_inj w x es 0 h with h | ⟨j, e, h1, h2, h3⟩
    · exact .inl h
    · exact .inr ⟨j, e, by simpa using h1, h2, h3⟩
  stays w x := stays_of (bits_two 9999 x.1 x.2)
theorem keyI : KeyT Try.prog 3 encI where
  inj := fun x y h => by simpa [encI] using h
  check w em x := check_int Try.underlying3 em 9999 x w
  find w x es h := by
    have hu := Try.underlying3
    rcases find_now (d := .int .i64) (x := x) (enc := encI) (fun y => by simp only [Instr.sameNow, encI, if_true]; congr 1) (fun x y h => by simpa [encI] using h) es 0 h with ⟨h1, h2⟩ | ⟨j, e, h1, h2, h3⟩
    · exact .inl ⟨MapKept.run_findKey hu h1, h2⟩
    · exact .inr ⟨j, e, by simpa using MapKept.run_findKey (P := Try.prog) (w := w) hu h1, h2, h3⟩
  stays w x := stays_of (bits_int 10000 x)
theorem zeroEf (w : World) : (zeroValue 49).run Try.prog w = .ok (.agg #[.int .i64 0, .int .i64 0, .int .i64 0, .int .i64 0, .int .i64 0, .int .i64 0, .int .i64 0, .int .i64 0, .int .i64 0, .int .i64 0, .int .i64 0, .int .i64 0, .int .i64 0, .int .i64 0, .int .i64 0, .int .i64 0, .int .i64 0, .int .i64 0, .bool false, .slice none 0 0, .int .i64 0, .int .i64 0]) w := by
  obtain ⟨i0, hi, hz0, hz1, hz2⟩ := info_parts Try.infoEf
  simp [zeroValue, typeInfo, hi, hz0]
theorem zeroInt (w : World) : (zeroValue 3).run Try.prog w = .ok (.int .i64 0) w := by
  have h0 : (Try.prog.info? 3).map (fun i => (i.zero, i.size, i.bytes)) = some (some (.int .i64 0), 1, 8) := by kernel_rfl
  obtain ⟨i0, hi, hz0, hz1, hz2⟩ := info_parts h0
  simp [zeroValue, typeInfo, hi, hz0]
end Go.Proofs.Ytodfdfncdoliiau
