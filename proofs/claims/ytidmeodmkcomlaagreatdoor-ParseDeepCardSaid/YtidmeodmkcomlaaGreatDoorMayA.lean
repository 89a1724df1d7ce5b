/- Whether a term, and a type, has what its kind asks: at every one. -/
import Derived.Test.YtidmeodmkcomlaaGreatDoorHoldsB
import Derived.Laws.EntriesVeiled
namespace Go.Proofs.YtidmeodmkcomlaaGreatDoor
open Go Go.Proofs Go.RowKit

/-- What a term of a kind asks. -/
def termB (t : TermD) : Bool :=
  if t.kind = 0 then holdsB 0 0 0 0 t.int t.kids.length t.types.length (isName (tl t.name)) t.names.isEmpty (decide (t.bits = 0))
  else if t.kind = 1 then holdsB 9223372036854775807 0 0 0 t.int t.kids.length t.types.length t.name.toList.isEmpty t.names.isEmpty (decide (t.bits = 0))
  else if t.kind = 2 then holdsB 1 0 0 0 t.int t.kids.length t.types.length t.name.toList.isEmpty t.names.isEmpty (decide (t.bits = 0))
  else if t.kind = 3 then holdsB 0 0 0 0 t.int t.kids.length t.types.length (lineB t.name) t.names.isEmpty (decide (t.bits = 0))
  else if t.kind = 4 then holdsB 0 0 0 0 t.int t.kids.length t.types.length t.name.toList.isEmpty t.names.isEmpty (floatB t.bits)
  else if t.kind = 5 ∨ t.kind = 13 then holdsB 0 1 0 0 t.int t.kids.length t.types.length (isName (tl t.name)) t.names.isEmpty (decide (t.bits = 0))
  else if t.kind = 6 then holdsB 0 2 0 0 t.int t.kids.length t.types.length t.name.toList.isEmpty t.names.isEmpty (decide (t.bits = 0))
  else if t.kind = 7 ∨ t.kind = 8 then holdsB 0 2 0 0 t.int t.kids.length t.types.length (isName (tl t.name)) t.names.isEmpty (decide (t.bits = 0))
  else if t.kind = 9 then holdsB 0 3 0 0 t.int t.kids.length t.types.length t.name.toList.isEmpty t.names.isEmpty (decide (t.bits = 0))
  else if t.kind = 10 then holdsB 0 (1 + (t.names.length : Int) / 2) 1 0 t.int t.kids.length t.types.length t.name.toList.isEmpty (armsB t.names) (decide (t.bits = 0))
  else if t.kind = 11 then holdsB 0 1 0 0 t.int t.kids.length t.types.length (tagB (tl t.name)) t.names.isEmpty (decide (t.bits = 0))
  else if t.kind = 12 then holdsB 0 (t.names.length : Int) 0 0 t.int t.kids.length t.types.length t.name.toList.isEmpty (onceB isName t.names) (decide (t.bits = 0))
  else if t.kind = 14 then holdsB 0 2 0 0 t.int t.kids.length t.types.length (opB (tl t.name)) t.names.isEmpty (decide (t.bits = 0))
  else if t.kind = 15 then holdsB 0 1 0 1 t.int t.kids.length t.types.length t.name.toList.isEmpty t.names.isEmpty (decide (t.bits = 0))
  else if t.kind = 16 then holdsB 0 1 0 2 t.int t.kids.length t.types.length t.name.toList.isEmpty t.names.isEmpty (decide (t.bits = 0))
  else false

/-- What a type of a kind asks. -/
def typB (t : TypD) : Bool :=
  if 0 ≤ t.kind ∧ t.kind ≤ 6 then holdsB 0 0 0 0 0 t.kids.length 0 t.name.toList.isEmpty t.names.isEmpty true && !t.opn
  else if t.kind = 7 then holdsB 0 2 0 0 0 t.kids.length 0 t.name.toList.isEmpty t.names.isEmpty true && !t.opn
  else if t.kind = 8 then holdsB 0 (t.names.length : Int) 0 0 0 t.kids.length 0 t.name.toList.isEmpty (onceB isName t.names) true && !t.opn
  else if t.kind = 9 then holdsB 0 (t.names.length : Int) 0 0 0 t.kids.length 0 t.name.toList.isEmpty (onceB tagB t.names) true
  else if t.kind = 10 then holdsB 0 0 0 0 0 t.kids.length 0 (aliasB (tl t.name)) t.names.isEmpty true && !t.opn
  else false

/-- Of a bounded size: what the laws ask about. -/
def TermFew (t : TermD) : Prop := t.name.size ≤ 1000 ∧ t.names.length ≤ 1000 ∧ (∀ s ∈ t.names, s.size ≤ 1000) ∧ t.kids.length ≤ 1000 ∧ t.types.length ≤ 1000
def TypFew (t : TypD) : Prop := t.name.size ≤ 1000 ∧ t.names.length ≤ 1000 ∧ (∀ s ∈ t.names, s.size ≤ 1000) ∧ t.kids.length ≤ 1000

/-- The tables that the walks read, in a world. -/
def Env4 (w : World) : Prop := Lib.Utf8Tabs 0 1 w ∧ 3 ≤ w.heap.size
theorem Env4.on {w w' : World} (h : Env4 w) (hb : Below w.heap.size w w') : Env4 w' := ⟨tabs_below (n₀ := w.heap.size) (by have := h.2; omega) hb h.1, Nat.le_trans h.2 hb.size⟩

theorem names_empty (ss : List ByteArray) : (((ss.length : Nat) : Int) == 0) = ss.isEmpty := by
  cases ss with
  | nil => rfl
  | cons a l => simp only [List.length_cons, List.isEmpty_cons]; rw [beq_eq_false_iff_ne]; omega
theorem bits_zero (n : Nat) : ((n : Int) == 0) = decide (n = 0) := by rw [Bool.eq_iff_iff]; simp

/-- A function's value, or nil. -/
def fv : Option Nat → Value
  | none => .nilFunc
  | some n => .func (.func n) #[] #[]

end Go.Proofs.YtidmeodmkcomlaaGreatDoor
