/-
  Chapter 11, the program: marks as keys of a map, and in a row. Written by tools/tai.gen.py. A region that draws its order, cut off from what follows: its orders meet again. 'vs': which slots hold what behind it. Chapter 11, the program: what tableOf has built so far (TS). Written by tools/tai.gen.py. Own work.
-/
import Derived.Test.YtodfdfncdoliiauGreatMaA
import Derived.Test.YtodfdfncdoliiauGreatGEvA3
import Derived.Test.YtodfdfncdoliiauGreatGEfC2
import Derived.Test.YtodfdfncdoliiauGreatRows
import Derived.WalkKit
import Derived.Deep.RegionWith
import Derived.Shelf.RegionOpenPlain
import Derived.Test.YtodfdfncdoliiauGreatTaE
import Derived.Test.YtodfdfncdoliiauGreatTaG
import Derived.Deep.DeepCutAuto
import Derived.Deep.CutBlock
import Derived.Laws.OwnMore
namespace Go.Proofs.YtodfdfncdoliiauGreat
open Go.ChangeShapes Go.WideShapes Go.ChangeAt Go.RowKit
set_option maxRecDepth 100000
set_option linter.unusedVariables false
set_option linter.unusedSimpArgs false

/-- a mark: an Id, and how many of it are ahead -/
def mkC (p : Int × Int) : List Value := [.int .i64 p.1, .int .i64 p.2]
def encMk (p : Int × Int) : Value := .agg #[.int .i64 p.1, .int .i64 p.2]
def encI (i : Int) : Value := .int .i64 i
/-- one more mark at the K-th place -/
def insG (K : Nat) (g : Nat → Int × Int) (m : Int × Int) : Nat → Int × Int := fun i => if i < K then g i else if i = K then m else g (i - 1)
theorem mkC_ne (p : Int × Int) : mkC p ≠ [] := by unfold mkC; simp
theorem mkC_len (p : Int × Int) : (mkC p).length = 2 := rfl
theorem mkC_one (n : Nat) (f : Nat → Int × Int) : ∀ u ∈ valsE mkC n f, u.oneCell' = true := by
  intro u hu
  unfold valsE at hu
  obtain ⟨i, _, hi⟩ := List.mem_flatMap.1 hu
  simp only [mkC, List.mem_cons, List.mem_nil_iff, or_false] at hi
  rcases hi with rfl | rfl <;> rfl
theorem Tryz.infoMk : (Tryz.prog.info? 66).map (fun i => (i.zero, i.size, i.bytes)) = some (some (.agg #[.int .i64 0, .int .i64 0]), 2, 16) := by kernel_rfl
theorem made_mark (n : Nat) : (madeCells #[.int .i64 0, .int .i64 0] (n * 2)).toList = valsE mkC n (fun _ => (0, 0)) := by
  refine valsE_ext mkC_len (by simp [madeCells]) (fun i j hi hj => ?_)
  unfold madeCells
  have hlt : i * 2 + j < n * 2 := by omega
  simp only [Array.toList_map, Array.toList_range, List.getElem?_map, List.getElem?_range hlt, Option.map_some, List.size_toArray, List.length_cons, List.length_nil]
  rw [show (i * 2 + j) % (0 + 1 + 1) = j by omega]
  have : j = 0 ∨ j = 1 := by omega
  rcases this with rfl | rfl <;> rfl
theorem Tryz.fieldsMk : (Tryz.prog.fieldsOf 66).toList.map (fun f => (f.name == "_", f.type, f.offset)) = [(false, 3, 0), (false, 3, 1)] := by kernel_rfl
theorem run_eq_mk (p q : Int × Int) (w : World) : (Op.equal 66 (encMk p) (encMk q)).run Tryz.prog w = .ok (decide (p = q)) w := by
  show (Op.equalIn 10000 66 (encMk p) (encMk q)).run Tryz.prog w = _
  unfold encMk
  rw [run_equalIn_struct w 9999 _ _ _ (by kernel_rfl) (by kernel_rfl)]
  have hL := Tryz.fieldsMk
  generalize (Tryz.prog.fieldsOf 66).toList = L at hL ⊢
  obtain ⟨f0, L0, rfl, e0, hL⟩ := list_of_mapE hL
  obtain ⟨f1, L1, rfl, e1, hL⟩ := list_of_mapE hL
  rw [List.map_eq_nil_iff] at hL
  subst hL
  simp only [Prod.mk.injEq] at e0
  obtain ⟨n0, t0, o0⟩ := e0
  simp only [Prod.mk.injEq] at e1
  obtain ⟨n1, t1, o1⟩ := e1
  have h : (Op.eqFields 9999 #[.int .i64 p.1, .int .i64 p.2] #[.int .i64 q.1, .int .i64 q.2] []).run Tryz.prog w = .ok true w := by simp [Op.eqFields]
  replace h := eqFields_stepE (f := f1) w n1 (by rw [t1, o1]; exact run_part_plain w (by kernel_rfl) rfl) (by rw [t1, o1]; exact run_part_plain w (by kernel_rfl) rfl) (by rw [t1]; exact run_equalIn_int w 9998 3 .i64 .i64 _ _ Tryz.underlying3) h
  replace h := eqFields_stepE (f := f0) w n0 (by rw [t0, o0]; exact run_part_plain w (by kernel_rfl) rfl) (by rw [t0, o0]; exact run_part_plain w (by kernel_rfl) rfl) (by rw [t0]; exact run_equalIn_int w 9998 3 .i64 .i64 _ _ Tryz.underlying3) h
  rw [h]
  congr 1
  obtain ⟨a, b⟩ := p
  obtain ⟨c, d⟩ := q
  by_cases h1 : a = c <;> by_cases h2 : b = d <;> simp [h1, h2]
theorem encMk_inj : ∀ x y, encMk x = encMk y → x = y := by
  rintro ⟨a, b⟩ ⟨c, d⟩ h
  simp [encMk] at h
  simp [h]
theorem find_ask {P : Program} {k : TypeId} {α : Type} [DecidableEq α] {enc : α → Value} (heq : ∀ x y w, (Op.equal k (enc x) (enc y)).run P w = .ok (decide (x = y)) w) (hi : ∀ x y, enc x = enc y → x = y) (w : World) (x : α) : ∀ (es : List MapEntry) (i : Nat), (∀ e ∈ es, ∃ y, e.key = enc y) →
    ((Instr.findAsking k (enc x) es i).run P w = .ok none w ∧ ∀ e ∈ es, e.key ≠ enc x) ∨ ∃ j e, (Instr.findAsking k (enc x) es i).run P w = .ok (some (i + j, e.val)) w ∧ es[j]? = some e ∧ e.key = enc x
  | [], i, _ => .inl ⟨by simp [Instr.findAsking], by simp⟩
  | e :: es, i, h => by
    obtain ⟨y, hy⟩ := h e (by simp)
    have hq := heq x y w
    by_cases hxy : x = y
    · subst hxy
      refine .inr ⟨0, e, ?_, rfl, hy⟩
      simp [Instr.findAsking, hy, hq, Result.andThen]
    · rcases find_ask heq hi w x es (i + 1) (fun e he => h e (by simp [he])) with ⟨h1, h2⟩ | ⟨j, e', h1, h2, h3⟩
      · refine .inl ⟨?_, fun f hf => ?_⟩
        · simp [Instr.findAsking, hy, hq, hxy, Result.andThen, h1]
        · rcases List.mem_cons.1 hf with rfl | hf
          · rw [hy]
            exact fun hc => hxy (hi _ _ hc.symm)
          · exact h2 f hf
      · refine .inr ⟨j + 1, e', ?_, by simpa using h2, h3⟩
        simp [Instr.findAsking, hy, hq, hxy, Result.andThen, h1]
        omega
theorem find_now {α : Type} {d : TypeDesc} {x : α} {enc : α → Value} [DecidableEq α] (heq : ∀ y, Instr.sameNow d (enc x) (enc y) = some (decide (x = y))) (hi : ∀ x y, enc x = enc y → x = y) : ∀ (es : List MapEntry) (i : Nat), (∀ e ∈ es, ∃ y, e.key = enc y) →
    (Instr.findNow d (enc x) es i = some none ∧ ∀ e ∈ es, e.key ≠ enc x) ∨ ∃ j e, Instr.findNow d (enc x) es i = some (some (i + j, e.val)) ∧ es[j]? = some e ∧ e.key = enc x
  | [], i, _ => .inl ⟨rfl, by simp⟩
  | e :: es, i, h => by
    obtain ⟨y, hy⟩ := h e (by simp)
    have hq := heq y
    by_cases hxy : x = y
    · subst hxy
      refine .inr ⟨0, e, ?_, rfl, hy⟩
      simp [Instr.findNow, hy, hq]
    · rcases find_now heq hi es (i + 1) (fun e he => h e (by simp [he])) with ⟨h1, h2⟩ | ⟨j, e', h1, h2, h3⟩
      · refine .inl ⟨?_, fun f hf => ?_⟩
        · simp [Instr.findNow, hy, hq, hxy, h1]
        · rcases List.mem_cons.1 hf with rfl | hf
          · rw [hy]
            exact fun hc => hxy (hi _ _ hc.symm)
          · exact h2 f hf
      · refine .inr ⟨j + 1, e', ?_, by simpa using h2, h3⟩
        simp [Instr.findNow, hy, hq, hxy, h1]
        omega
theorem check_int {P : Program} {t : TypeId} {q : IntKind} (ht : P.underlying t = some (.int q)) (em : Bool) (n : Nat) (i : Int) (w : World) : (Instr.checkKey em (n + 1) t (.int .i64 i)).run P w = .ok () w := by
  simp [Instr.checkKey, run_underlying ht]
theorem check_two {P : Program} {t it : TypeId} {q : IntKind} (hu : P.underlying t = some (.struct (P.fieldsOf t))) (hL : (P.fieldsOf t).toList.map (fun f => (f.name == "_", f.type, f.offset)) = [(false, it, 0), (false, it, 1)]) (hi : P.underlying it = some (.int q)) (hp : P.plainKey it = true) (em : Bool) (D : Nat) (a b : Int) (w : World) : (Instr.checkKey em (D + 2) t (.agg #[.int .i64 a, .int .i64 b])).run P w = .ok () w := by
  unfold Instr.checkKey
  simp only [Sem.run_bind, run_underlying hu, Result.andThen_ok]
  rw [← Array.forIn_toList]
  generalize (P.fieldsOf t).toList = L at hL ⊢
  obtain ⟨f0, L0, rfl, e0, hL⟩ := list_of_mapE hL
  obtain ⟨f1, L1, rfl, e1, hL⟩ := list_of_mapE hL
  rw [List.map_eq_nil_iff] at hL
  subst hL
  simp only [Prod.mk.injEq] at e0
  obtain ⟨n0, t0, o0⟩ := e0
  simp only [Prod.mk.injEq] at e1
  obtain ⟨n1, t1, o1⟩ := e1
  have m0 : f0.name ≠ "_" := by simpa using n0
  have m1 : f1.name ≠ "_" := by simpa using n1
  have p0 : (part f0.type #[.int .i64 a, .int .i64 b] f0.offset).run P w = .ok (.int .i64 a) w := by rw [t0, o0]; exact run_part_plain w hp rfl
  have p1 : (part f1.type #[.int .i64 a, .int .i64 b] f1.offset).run P w = .ok (.int .i64 b) w := by rw [t1, o1]; exact run_part_plain w hp rfl
  have c0 : (Instr.checkKey em (D + 1) f0.type (.int .i64 a)).run P w = .ok () w := by rw [t0]; exact check_int hi em D a w
  have c1 : (Instr.checkKey em (D + 1) f1.type (.int .i64 b)).run P w = .ok () w := by rw [t1]; exact check_int hi em D b w
  simp [m0, m1, p0, p1, c0, c1, Result.andThen]
theorem bits_two (n : Nat) (a b : Int) : Instr.sameBits (n + 1) (.agg #[.int .i64 a, .int .i64 b]) (.agg #[.int .i64 a, .int .i64 b]) = true := by simp [Instr.sameBits]
theorem bits_int (n : Nat) (a : Int) : Instr.sameBits n (.int .i64 a) (.int .i64 a) = true := by cases n <;> simp [Instr.sameBits]
theorem stays_of {P : Program} {v : Value} {w : World} (h : Instr.sameBits 10000 v v = true) : (Instr.keyThatStays v v).run P w = .ok v w := by
  unfold Instr.keyThatStays
  rw [if_pos h]
  rfl
theorem keyM : KeyT Tryz.prog 66 encMk where
  inj := encMk_inj
  check w em x := check_two (by kernel_rfl) Tryz.fieldsMk Tryz.underlying3 (by kernel_rfl) em 9998 x.1 x.2 w
  find w x es h := by
    rw [run_findKey_eq w (by kernel_rfl)]
    rcases find_ask run_eq_mk encMk_inj w x es 0 h with h | ⟨j, e, h1, h2, h3⟩
    · exact .inl h
    · exact .inr ⟨j, e, by simpa using h1, h2, h3⟩
  stays w x := stays_of (bits_two 9999 x.1 x.2)
theorem keyI : KeyT Tryz.prog 3 encI where
  inj := fun x y h => by simpa [encI] using h
  check w em x := check_int Tryz.underlying3 em 9999 x w
  find w x es h := by
    have hu := Tryz.underlying3
    rcases find_now (d := .int .i64) (x := x) (enc := encI) (fun y => by simp only [Instr.sameNow, encI, if_true]; congr 1) (fun x y h => by simpa [encI] using h) es 0 h with ⟨h1, h2⟩ | ⟨j, e, h1, h2, h3⟩
    · exact .inl ⟨MapKept.run_findKey hu h1, h2⟩
    · exact .inr ⟨j, e, by simpa using MapKept.run_findKey (P := Tryz.prog) (w := w) hu h1, h2, h3⟩
  stays w x := stays_of (bits_int 10000 x)
theorem zeroEf (w : World) : (zeroValue 44).run Tryz.prog w = .ok (.agg #[.int .i64 0, .int .i64 0, .int .i64 0, .int .i64 0, .int .i64 0, .int .i64 0, .int .i64 0, .int .i64 0, .int .i64 0, .int .i64 0, .int .i64 0, .int .i64 0, .int .i64 0, .int .i64 0, .int .i64 0, .int .i64 0, .int .i64 0, .int .i64 0, .bool false, .slice none 0 0, .int .i64 0, .int .i64 0]) w := by
  obtain ⟨i0, hi, hz0, hz1, hz2⟩ := info_parts Tryz.infoEf
  simp [zeroValue, typeInfo, hi, hz0]
theorem zeroInt (w : World) : (zeroValue 3).run Tryz.prog w = .ok (.int .i64 0) w := by
  have h0 : (Tryz.prog.info? 3).map (fun i => (i.zero, i.size, i.bytes)) = some (some (.int .i64 0), 1, 8) := by kernel_rfl
  obtain ⟨i0, hi, hz0, hz1, hz2⟩ := info_parts h0
  simp [zeroValue, typeInfo, hi, hz0]
end Go.Proofs.YtodfdfncdoliiauGreat
namespace Go.Proofs.YtodfdfncdoliiauGreat
def puts (a : Act) (vs : List (Nat × Value)) : Act := vs.foldl (fun a x => a.put (some x.1) x.2) a
theorem wp_cutP {P : Program} {c : Go.Code} {a : Act} {w : World} {K : Act → World → Prop} {Q : Exit → Act → World → Prop} (vs : Nat → Nat → List (Nat × Value)) (F : Nat → Nat → World → Prop)
    (h : c.wp P (Exit.then (fun a' u => ∃ q k, a' = puts a (vs q k) ∧ F q k u) Q) a w) (hk : ∀ q k u, F q k u → K (puts a (vs q k)) u) : c.wp P (Exit.then K Q) a w := by
  refine wp_mono h fun e a' u hq => ?_
  cases e
  case normal => obtain ⟨q, k, rfl, hf⟩ := hq; exact hk q k u hf
  all_goals exact hq
end Go.Proofs.YtodfdfncdoliiauGreat
namespace Go.Proofs.YtodfdfncdoliiauGreat
open Go.ChangeShapes Go.WideShapes Go.ChangeAt Go.RowKit
set_option maxRecDepth 100000
set_option linter.unusedVariables false
set_option linter.unusedSimpArgs false

/-- a region that draws its order, cut off from what follows; what it answers is one of many -/
theorem wp_cutR {β : Type} {P : Program} {c : Go.Code} {a : Act} {w : World} {K : Act → World → Prop} {Q : Exit → Act → World → Prop} (vs : β → List (Nat × Value)) (F : β → World → Prop)
    (h : c.wp P (Exit.then (fun a' u => ∃ x, a' = puts a (vs x) ∧ F x u) Q) a w) (hk : ∀ x u, F x u → K (puts a (vs x)) u) : c.wp P (Exit.then K Q) a w := by
  refine wp_mono h fun e a' u hq => ?_
  cases e
  case normal => obtain ⟨x, rfl, hf⟩ := hq; exact hk x u hf
  all_goals exact hq
/-- .. and where it is a block's last -/
theorem wp_cutQ {β : Type} {P : Program} {c : Go.Code} {a : Act} {w : World} {Q : Exit → Act → World → Prop} (vs : β → List (Nat × Value)) (F : β → World → Prop)
    (h : c.wp P (Exit.then (fun a' u => ∃ x, a' = puts a (vs x) ∧ F x u) Q) a w) (hk : ∀ x u, F x u → Q .normal (puts a (vs x)) u) : c.wp P Q a w := by
  refine wp_mono h fun e a' u hq => ?_
  cases e
  case normal => obtain ⟨x, rfl, hf⟩ := hq; exact hk x u hf
  all_goals exact hq
/-- an effect as a value -/
def efV (e : Ef) : Value := (.agg #[.int .i64 e.id, .int .i64 e.si, .int .i64 e.sr, .int .i64 e.cl, .int .i64 e.pt.kd, .int .i64 e.pt.wh, .int .i64 e.pt.sr, .int .i64 e.pt.tr, .int .i64 e.pt.pi, .int .i64 e.pt.le, .int .i64 e.pt.zo, .int .i64 e.gd.kd, .int .i64 e.gd.nn, .int .i64 e.ac.kd, .int .i64 e.ac.nn, .int .i64 e.ac.pi, .int .i64 e.ac.si, .int .i64 e.ac.zo, .bool e.ac.be, .slice e.ac.la e.ac.ln e.ac.lcap, .int .i64 e.un, .int .i64 e.le])
/-- how many of an Id are among the first k -/
def cntI (f : Nat → Ef) (id : Int) : Nat → Nat
  | 0 => 0
  | k + 1 => cntI f id k + (if (f k).id = id then 1 else 0)
theorem cntI_le (f : Nat → Ef) (id : Int) : ∀ k, cntI f id k ≤ k
  | 0 => Nat.le_refl _
  | k + 1 => by have := cntI_le f id k; unfold cntI; split <;> omega
/-- the mark of the i-th -/
def mkAt (f : Nat → Ef) (i : Nat) : Int × Int := ((f i).id, (cntI f (f i).id i : Int))
/-- the first k by their marks -/
def tabM (f : Nat → Ef) : Nat → Int × Int → Option Ef
  | 0 => fun _ => none
  | k + 1 => fun x => if x = mkAt f k then some (f k) else tabM f k x
def valM (M : Int × Int → Option Ef) : Int × Int → Option Value := fun x => (M x).map efV
def manyM (f : Nat → Ef) (k : Nat) : Int → Option Value := fun id => if cntI f id k = 0 then none else some (.int .i64 (cntI f id k : Int))
theorem tabM_put (f : Nat → Ef) (k : Nat) : putM (valM (tabM f k)) (mkAt f k) (efV (f k)) = valM (tabM f (k + 1)) := by
  funext x
  unfold putM valM
  by_cases h : x = mkAt f k
  · rw [if_pos h]; unfold tabM; rw [if_pos h]; rfl
  · rw [if_neg h]; conv => rhs; unfold tabM
    rw [if_neg h]
theorem manyM_get (f : Nat → Ef) (k : Nat) (id : Int) : (manyM f k id).getD (.int .i64 0) = .int .i64 (cntI f id k : Int) := by
  unfold manyM
  by_cases h : cntI f id k = 0
  · rw [if_pos h, h]; rfl
  · rw [if_neg h]; rfl
theorem manyM_put (f : Nat → Ef) (k : Nat) : putM (manyM f k) (f k).id (.int .i64 ((cntI f (f k).id k : Int) + 1)) = manyM f (k + 1) := by
  funext id
  unfold putM manyM
  by_cases h : id = (f k).id
  · subst h
    rw [if_pos rfl]
    have : cntI f (f k).id (k + 1) = cntI f (f k).id k + 1 := by unfold cntI; rw [if_pos rfl]; cases k <;> rfl
    rw [this, if_neg (by omega)]
    congr 1
  · rw [if_neg h]
    have : cntI f id (k + 1) = cntI f id k := by conv => lhs; unfold cntI
                                                 rw [if_neg (fun e => h e.symm)]; rfl
    rw [this]
theorem MapB.apart {α : Type} {enc : α → Value} {w : World} {b c t : Nat} {M : α → Option Value} {cs : Array Value} {x : Nat × Nat} (h : MapB enc w b M) (hc : w.heap[c]? = some (.cells cs t x)) : c ≠ b := by
  obtain ⟨es, cl, hb, _⟩ := h
  intro e
  subst e
  rw [hb] at hc
  cases hc
theorem BoxR.wrote {w w' : World} {b c t : Nat} {cs : Array Value} (h : BoxR w c t cs) (W : Wrote w w' b) : BoxR w' c t cs := by
  have hne : c ≠ b := by
    obtain ⟨es, cl, es', cl', hb, _⟩ := W
    intro e
    subst e
    unfold BoxR at h
    rw [hb] at h
    cases h
  exact (W.other hne).trans h
/-- what tableOf has built of the first k1 (the map), k2 (how many of each), k3 (the order) -/
structure TS (w : World) (f : Nat → Ef) (n mb qb tb nb k1 k2 k3 : Nat) (u : World) : Prop where
  b : Below w.heap.size w u
  rx : BoxR u w.heap.size 61 #[.map none, .slice none 0 0]
  tx : BoxR u tb 61 #[.map (some mb), .slice (some ⟨qb, 0, none⟩) n n]
  me : MapB encMk u mb (valM (tabM f k1))
  mn : MapB encI u nb (manyM f k2)
  ro : u.heap[qb]? = some (.cells (valsE mkC n (tilE k3 (mkAt f) (fun _ => (0, 0)))).toArray 66 (0, 0))
  l : w.heap.size < tb ∧ w.heap.size < mb ∧ w.heap.size < nb ∧ w.heap.size < qb
  ne : mb ≠ nb ∧ tb ≠ qb
section
variable {w : World} {f : Nat → Ef} {n mb qb tb nb k1 k2 k3 : Nat} {u u' : World}
theorem TS.grew (h : TS w f n mb qb tb nb k1 k2 k3 u) (hb : Below u.heap.size u u') : TS w f n mb qb tb nb k1 k2 k3 u' :=
  ⟨below_app h.b hb h.b.size, h.rx.grew hb, h.tx.grew hb, h.me.grew hb, h.mn.grew hb, (hb.block _ (lt_row h.ro)).trans h.ro, h.l, h.ne⟩
theorem TS.many {k2' : Nat} (h : TS w f n mb qb tb nb k1 k2 k3 u) (W : Wrote u u' nb) (m : MapB encI u' nb (manyM f k2')) : TS w f n mb qb tb nb k1 k2' k3 u' :=
  ⟨h.b.trans (W.below (Nat.le_of_lt h.l.2.2.1)), h.rx.wrote W, h.tx.wrote W, h.me.same (W.other h.ne.1), m, (W.other (h.mn.apart h.ro)).trans h.ro, h.l, h.ne⟩
theorem TS.put {k1' : Nat} (h : TS w f n mb qb tb nb k1 k2 k3 u) (W : Wrote u u' mb) (m : MapB encMk u' mb (valM (tabM f k1'))) : TS w f n mb qb tb nb k1' k2 k3 u' :=
  ⟨h.b.trans (W.below (Nat.le_of_lt h.l.2.1)), h.rx.wrote W, h.tx.wrote W, m, h.mn.same (W.other (fun e => h.ne.1 e.symm)), (W.other (h.me.apart h.ro)).trans h.ro, h.l, h.ne⟩
theorem TS.row (h : TS w f n mb qb tb nb k1 k2 k3 u) (hk : k3 < n) : TS w f n mb qb tb nb k1 k2 (k3 + 1) (u.setCells qb (k3 * 2) (mkC (mkAt f k3))) := by
  have hq := row_putE mkC_len h.ro k3 (mkAt f k3) hk
  rw [tilE_step] at hq
  exact ⟨below_setCells' (Nat.le_of_lt h.l.2.2.2) _ _ _ h.b, h.rx.otherL (Nat.ne_of_lt h.l.2.2.2) _ _, h.tx.otherL h.ne.2 _ _, h.me.same (setCells_other (fun e => h.me.apart h.ro e.symm) _ _ _), h.mn.same (setCells_other (fun e => h.mn.apart h.ro e.symm) _ _ _), hq, h.l, h.ne⟩
end
end Go.Proofs.YtodfdfncdoliiauGreat
