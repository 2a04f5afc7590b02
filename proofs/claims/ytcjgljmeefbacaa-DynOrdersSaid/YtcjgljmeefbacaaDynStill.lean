/- A guarded piece of a region that changes nothing: a or b, where b is looked at only if a doesn't hold. Nothing of the program is named. -/
import Derived.Test.YtcjgljmeefbacaaBase
import Derived.StillTailTactics
namespace Go.Proofs.Ytcjgljmeefbacaa
open Go.RowKit
set_option linter.unusedVariables false

theorem wpStill_append {P : Program} {ops : Array Oper} {w : World} {Q : Act → Prop} {r : List Oper} : ∀ (l : List Oper) (a : Act), wpStill P ops w Q (l ++ r) a = wpStill P ops w (wpStill P ops w Q r) l a
  | [], a => rfl
  | o :: l, a => by
    have ih : wpStill P ops w Q (l ++ r) = wpStill P ops w (wpStill P ops w Q r) l := funext (wpStill_append l)
    rw [List.cons_append]
    unfold wpStill
    rw [ih]

theorem still_or {P : Program} {ops : Array Oper} {w : World} {Q : Act → Prop} {o1 o2 o3 o4 : Oper} {rest : List Oper} {a : Act} (b t : Bool)
    (hf : b = false → ∀ Q' : Act → Prop, (∀ u1 u2 u3, Q' ((((a.put o1.dst u1).put o2.dst u2).put o3.dst u3).put o4.dst (.bool t))) → wpStill P ops w Q' [o1, o2, o3, o4] a)
    (ht : b = true → ∀ Q' : Act → Prop, (∀ u1 u2 u3, Q' ((((a.put o1.dst u1).put o2.dst u2).put o3.dst u3).put o4.dst (.bool true))) → wpStill P ops w Q' [o1, o2, o3, o4] a)
    (h : ∀ (r : Bool) u1 u2 u3, (b || t) = r → wpStill P ops w Q rest ((((a.put o1.dst u1).put o2.dst u2).put o3.dst u3).put o4.dst (.bool r))) : wpStill P ops w Q (o1 :: o2 :: o3 :: o4 :: rest) a := by
  have H := fun u1 u2 u3 => h (b || t) u1 u2 u3 rfl
  have : wpStill P ops w (wpStill P ops w Q rest) [o1, o2, o3, o4] a := by
    cases b
    · exact hf rfl _ H
    · exact ht rfl _ H
  rw [← wpStill_append] at this
  exact this
end Go.Proofs.Ytcjgljmeefbacaa
