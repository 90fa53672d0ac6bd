/-
  Chapter 11, the program: at lists of effects that are alike: Drop, Update. Written by tools/tab.gen.py. Chapter 4: the program's between, Moved, asPrinted, SamePiece, HasTrait, withCounters, PowerOf, ToughOf, flagNum. Own work.
-/
import Derived.Test.YtodfdfncdoliiauTaJ
import Derived.Test.YtodfdfncdoliiauTbC
import Derived.Test.YtodfdfncdoliiauGRegBelow2
namespace Go.Proofs.Ytodfdfncdoliiau
open Go.ChangeShapes Go.WideShapes Go.ChangeAt Go.RowKit
set_option maxRecDepth 100000
set_option linter.unusedVariables false
set_option linter.unusedSimpArgs false

theorem implDrop_al (id : Int) {w0 w : World} {B : Nat} {t a : Tb} (h : OwnTb w B t) (k : AlikeT t a) (hs : a.ok w0) (hn : a.n ≤ 1048576) (hl : ∀ i, i < a.n → (a.f i).ac.ln ≤ 1048576) : Calls Try.prog 11 #[.slice t.p t.n t.cap, .int .i64 id] w fun e w' => ∃ q : Tb, e = .returned (.tuple #[.slice q.p q.n q.cap, .bool (decide (0 ≤ eaN a.f id a.n))]) ∧ Below w.heap.size w w' ∧ AnsT w' w.heap.size q (drN a.f id a.n) (drG a.f id a.n) := by
  refine (implDrop_any t id w (okW_al h k hs hl) (by rw [k.n]; omega)).mono ?_
  rw [k.n, eaN_alike k.f, drN_alike k.f]
  rintro e w' ⟨q, h1, h2, h3⟩
  exact ⟨q, h1, h2, h3.alike (drG_alike k.f)⟩
theorem implUpdate_al {w0 w : World} {B : Nat} {t a : Tb} (h : OwnTb w B t) (k : AlikeT t a) (hs : a.ok w0) (hn : a.n ≤ 1048576) (hl : ∀ i, i < a.n → (a.f i).ac.ln ≤ 1048576) {Bx : Nat} {y x : Ef} (hy : OwnF w Bx y) (ky : AlikeF y x) (hsx : x.ok w0) (hlx : x.ac.ln ≤ 1048576) : Calls Try.prog 20 #[.slice t.p t.n t.cap, (.agg #[.int .i64 y.id, .int .i64 y.si, .int .i64 y.sr, .int .i64 y.cl, .int .i64 y.pt.kd, .int .i64 y.pt.wh, .int .i64 y.pt.sr, .int .i64 y.pt.tr, .int .i64 y.pt.pi, .int .i64 y.pt.le, .int .i64 y.pt.zo, .int .i64 y.gd.kd, .int .i64 y.gd.nn, .int .i64 y.ac.kd, .int .i64 y.ac.nn, .int .i64 y.ac.pi, .int .i64 y.ac.si, .int .i64 y.ac.zo, .bool y.ac.be, .slice y.ac.la y.ac.ln y.ac.lcap, .int .i64 y.un, .int .i64 y.le])] w fun e w' => ∃ q : Tb, e = .returned (.slice q.p q.n q.cap) ∧ Below w.heap.size w w' ∧ AnsT w' w.heap.size q a.n (upF a.n a.f x) := by
  refine (implUpdate_any t y w (okW_al h k hs hl) (by rw [k.n]; omega) (okT10 hy ky hsx).w (by rw [ky.ac.ln]; omega)).mono ?_
  rw [k.n]
  rintro e w' ⟨q, h1, h2, h3⟩
  exact ⟨q, h1, h2, h3.alike (upF_alike k.f ky)⟩
end Go.Proofs.Ytodfdfncdoliiau
namespace Go.Proofs.Ytodfdfncdoliiau
open Go.ChangeShapes Go.WideShapes Go.ChangeAt Go.RowKit
set_option maxRecDepth 100000

end Go.Proofs.Ytodfdfncdoliiau
