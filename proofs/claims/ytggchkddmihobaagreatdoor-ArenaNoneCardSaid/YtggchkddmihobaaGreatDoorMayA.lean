/- Whether a term, and a type, has what its kind asks: at every one. -/
import Derived.Test.YtggchkddmihobaaGreatDoorHoldsB
import Derived.Laws.EntriesVeiled
namespace Go.Proofs.YtggchkddmihobaaGreatDoor
open Go Go.Proofs Go.RowKit

/-- What a term of a kind asks. -/
def termB (t : TermD) : Bool :=
  if t.kind = 0 then holdsB 0 0 0 0 t.int t.kids.length t.types.length (isName (tl t.name)) t.names.isEmpty (decide (t.bits = 0))
  else if t.kind = 1 then holdsB 9223372036854775807 0 0 0 t.int t.kids.length t.types.length t.name.toList.isEmpty t.names.isEmpty (decide (t.bits = 0))
  else if t.kind = 2 then holdsB 1 0 0 0 t.int t.kids.length t.types.length t.name.toList.isEmpty t.names.isEmpty (decide (t.bits = 0))
  else if t.kind = 3 then holdsB 0 0 0 0 t.int t.kids.length t.types.length (lineB t.name) t.names.isEmpty (decide (t.bits = 0))
  else if t.kind = 4 then holdsB 0 0 0 0 t.int t.kids.length t.types.length t.name.toList.isEmpty t.names.isEmpty (floatB t.bits)
  else if t.kind = 5 ∨ t.kind = 13 then holdsB 0 1 0 0 t.int t.kids.length t.types.length (isName (tl t.name)) t.names.isEmpty (decide (t.bits = 0))
  else if t.kind = 6 then holdsB 0 2 0 0 t.int t.kids.length t.types.length t.name.toList.isEmpty t.names.isEmpty (decide (t.bits = 0))
  else if t.kind = 7 ∨ t.kind = 8 then holdsB 0 2 0 0 t.int t.kids.length t.types.length (isName (tl t.name)) t.names.isEmpty (decide (t.bits = 0))
  else if t.kind = 9 then holdsB 0 3 0 0 t.int t.kids.length t.types.length t.name.toList.isEmpty t.names.isEmpty (decide (t.bits = 0))
  else if t.kind = 10 then holdsB 0 (1 + (t.names.length : Int) / 2) 1 0 t.int t.kids.length t.types.length t.name.toList.isEmpty (armsB t.names) (decide (t.bits = 0))
  else if t.kind = 11 then holdsB 0 1 0 0 t.int t.kids.length t.types.length (tagB (tl t.name)) t.names.isEmpty (decide (t.bits = 0))
  else if t.kind = 12 then holdsB 0 (t.names.length : Int) 0 0 t.int t.kids.length t.types.length t.name.toList.isEmpty (onceB isName t.names) (decide (t.bits = 0))
  else if t.kind = 14 then holdsB 0 2 0 0 t.int t.kids.length t.types.length (opB (tl t.name)) t.names.isEmpty (decide (t.bits = 0))
  else if t.kind = 15 then holdsB 0 1 0 1 t.int t.kids.length t.types.length t.name.toList.isEmpty t.names.isEmpty (decide (t.bits = 0))
  else if t.kind = 16 then holdsB 0 1 0 2 t.int t.kids.length t.types.length t.name.toList.isEmpty t.names.isEmpty (decide (t.bits = 0))
  else false

/-- What a type of a kind asks. -/
def typB (t : TypD) : Bool :=
  if 0 ≤ t.kind ∧ t.kind ≤ 6 then holdsB 0 0 0 0 0 t.kids.length 0 t.name.toList.isEmpty t.names.isEmpty true && !t.opn
  else if t.kind = 7 then holdsB 0 2 0 0 0 t.kids.length 0 t.name.toList.isEmpty t.names.isEmpty true && !t.opn
  else if t.kind = 8 then holdsB 0 (t.names.length : Int) 0 0 0 t.kids.length 0 t.name.toList.isEmpty (onceB isName t.names) true && !t.opn
  else if t.kind = 9 then holdsB 0 (t.names.length : Int) 0 0 0 t.kids.length 0 t.name.toList.isEmpty (onceB tagB t.names) true
  else if t.kind = 10 then holdsB 0 0 0 0 0 t.kids.length 0 (aliasB (tl t.name)) t.names.isEmpty true && !t.opn
  else false

/-- Of a bounded size: what the laws ask about. -/
def TermFew (t : TermD) : Prop := t.name.size ≤ 1000 ∧ t.names.length ≤ 1000 ∧ (∀ s ∈ t.names, s.size ≤ 1000) ∧ t.kids.length ≤ 1000 ∧ t.types.length ≤ 1000
def TypFew (t : TypD) : Prop := t.name.size ≤ 1000 ∧ t.names.length ≤ 1000 ∧ (∀ s ∈ t.names, s.size ≤ 1000) ∧ t.kids.length ≤ 1000

/-- The tables that the walks read, in a world. -/
def Env (w : World) : Prop := Lib.Utf8Tabs 2 3 w ∧ 4 ≤ w.heap.size
theorem Env.on {w w' : World} (h : Env w) (hb : Below w.heap.size w w') : Env w' := ⟨tabs_below (n₀ := w.heap.size) h.2 hb h.1, Nat.le_trans h.2 hb.size⟩

theorem names_empty (ss : List ByteArray) : (((ss.length : Nat) : Int) == 0) = ss.isEmpty := by
  cases ss with
  | nil => rfl
  | cons a l => simp only [List.length_cons, List.isEmpty_cons]; rw [beq_eq_false_iff_ne]; omega
theorem bits_zero (n : Nat) : ((n : Int) == 0) = decide (n = 0) := by rw [Bool.eq_iff_iff]; simp

/-- A function's value, or nil. -/
def fv : Option Nat → Value
  | none => .nilFunc
  | some n => .func (.func n) #[] #[]

/-- The walk behind the shape: the same at every kind. -/
theorem term_by (t : TermD) (p : Ptr3) (w : World) (g0 g1 g2 : Option Nat) (M K R T : Int) (b0 b1 b2 : Bool) (hK : 0 ≤ K ∧ K ≤ 2000) (hR : 0 ≤ R ∧ R ≤ 1)
    (hs : ∀ W, Calls Tryz.prog 99 #[.agg (termCells t p).toArray] W fun e w' => e = .returned (.tuple #[.agg #[fv g0, fv g1, fv g2, .int .i64 M, .int .i64 K, .int .i64 R, .int .i64 T], .bool true]) ∧ Below W.heap.size W w')
    (k0 : ∀ W, Below w.heap.size w W → Calls Tryz.prog 115 #[fv g0, .string t.name, .bool t.name.toList.isEmpty] W fun e w' => e = .returned (.bool b0) ∧ Below W.heap.size W w')
    (k1 : ∀ W, Below w.heap.size w W → Calls Tryz.prog 116 #[fv g1, .slice p.a5 t.names.length p.c5, .bool t.names.isEmpty] W fun e w' => e = .returned (.bool b1) ∧ Below W.heap.size W w')
    (k2 : ∀ W, Below w.heap.size w W → Calls Tryz.prog 117 #[fv g2, .int .u64 (t.bits : Int), .bool (decide (t.bits = 0))] W fun e w' => e = .returned (.bool b2) ∧ Below W.heap.size W w') :
    Calls Tryz.prog 82 #[.agg (termCells t p).toArray] w fun e w' => e = .returned (.bool (holdsB M K R T t.int t.kids.length t.types.length b0 b1 b2)) ∧ Below w.heap.size w w' := by
  have kh := fun W (hW : Below w.heap.size w W) => holds_any (fv g0) (fv g1) (fv g2) M K R T t.kind t.pos t.int t.name t.bits p.a5 p.a6 p.a7 t.names.length p.c5 t.kids.length p.c6 t.types.length p.c7 b0 b1 b2 W hK hR
    (fun W' h => k0 W' (hW.trans (h.mono hW.size))) (fun W' h => by rw [names_empty]; exact k1 W' (hW.trans (h.mono hW.size))) (fun W' h => by rw [bits_zero]; exact k2 W' (hW.trans (h.mono hW.size)))
  clear k0 k1 k2
  unfold termCells at *
  obtain ⟨kd, pos, nm, x, y, nms, kids, types⟩ := t
  obtain ⟨a5, c5, a6, c6, a7, c7⟩ := p
  dsimp only at *
  obtain ⟨H, hH⟩ : ∃ H, holdsB M K R T x kids.length types.length b0 b1 b2 = H := ⟨_, rfl⟩
  rw [hH] at kh ⊢
  clear hH
  cases g0 <;> cases g1 <;> cases g2
  all_goals
    simp only [fv] at hs kh
    go_enter Tryz.func82, Tryz.ntmps82
    go_wp2_with (first
      | (go_at_call 99; refine (hs _).mono ?_; rintro e w1 ⟨rfl, hb1⟩; obtain ⟨hc1, hf1⟩ := bcell hb1; have hz1 := hb1.size; simp only [World.size_alloc] at hz1; have hz2 : w.heap.size < w1.heap.size := (by omega); have hB1 : Below w.heap.size w w1 := ((Below.refl _ _).alloc (Nat.le_refl _) _).trans (hb1.mono (by simp only [World.size_alloc]; omega)))
      | (go_at_call 100; refine (kh _ (hB1.alloc (by omega) _)).mono ?_; rintro e w2 ⟨rfl, hb2⟩))
    go_ret
    exact ⟨rfl, (hB1.alloc (by omega) _).trans (hb2.mono (by simp only [World.size_alloc]; omega))⟩
end Go.Proofs.YtggchkddmihobaaGreatDoor
