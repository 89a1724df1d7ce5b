/- May a graph be: its heads, one by one. -/
import Derived.Test.YtggchkddmihobaaGreatDoorAE
set_option linter.unusedVariables false
set_option linter.unusedSimpArgs false
namespace Go.Proofs.YtggchkddmihobaaGreatDoor
open Go Go.Proofs Go.RowKit
def HdsAt (Pb : Nat → Prop) (w : World) (A : Option Addr) (l : List Hd) : Prop :=
  0 < l.length → ∃ b off, A = some ⟨b, off, none⟩ ∧ Pb b ∧ ∀ (i : Nat) t, l[i]? = some t → ∃ p, HdOk Pb w t p ∧ ∀ (j : Nat) u, (hdCells t p)[j]? = some u → w.cell? ⟨b, off + i * 4 + j, none⟩ = some u
theorem HdsAt.keep {Pb : Nat → Prop} {w w' : World} {A : Option Addr} {l : List Hd} (h : HdsAt Pb w A l) (hk : ∀ b o, Pb b → w'.cell? ⟨b, o, none⟩ = w.cell? ⟨b, o, none⟩) : HdsAt Pb w' A l := by
  intro hl
  obtain ⟨b, off, e, hb, hc⟩ := h hl
  refine ⟨b, off, e, hb, fun i t ht => ?_⟩
  obtain ⟨p, h1, h2⟩ := hc i t ht
  exact ⟨p, ⟨h1.1.keep hk, h1.2.keep hk⟩, fun j u hu => (hk b _ hb).trans (h2 j u hu)⟩
abbrev grV (A : Option Addr) (n cap : Nat) (root : Int) : Value := .agg #[.slice A n cap, .int .i64 root]
def isHeadB (n : Nat) (i : Int) : Bool := decide (0 ≤ i) && decide (i < (n : Int))
set_option maxHeartbeats 2000000 in
set_option maxRecDepth 100000 in
theorem isHead_any (A : Option Addr) (n cap : Nat) (root i : Int) (w : World) :
    Calls Tryz.prog 48 #[grV A n cap root, .int .i64 i] w fun e w' => e = .returned (.bool (isHeadB n i)) ∧ Below w.heap.size w w' := by
  go_enter Tryz.func48, Tryz.ntmps48
  go_wp2

  · exact bodyPost_ret (v := .bool (decide (i < (n : Int)))) (by simp [results, Tryz.results48, go_sem]) rfl ⟨by rename_i h; simp [isHeadB, h], (Below.refl _ _).alloc (Nat.le_refl _) _⟩
  · exact bodyPost_ret (v := .bool false) (by simp [results, Tryz.results48, go_sem]) rfl ⟨by rename_i h; simp [isHeadB]; omega, (Below.refl _ _).alloc (Nat.le_refl _) _⟩
/-- Each name is less than the next one. -/
def riseB : List ByteArray → Bool
  | a :: b :: r => Op.bytesLess a.toList b.toList && riseB (b :: r)
  | _ => true
theorem riseB_get {ns : List ByteArray} : riseB ns = true ↔ ∀ (i : Nat) a b, ns[i]? = some a → ns[i + 1]? = some b → Op.bytesLess a.toList b.toList = true := by
  induction ns with
  | nil => simp [riseB]
  | cons a r ih =>
    cases r with
    | nil => simp [riseB]
    | cons b r =>
      rw [riseB, Bool.and_eq_true, ih]
      constructor
      · rintro ⟨h1, h2⟩ (_ | i) x y hx hy
        · simp at hx hy; subst hx hy; exact h1
        · exact h2 i x y (by simpa using hx) (by simpa using hy)
      · intro h
        exact ⟨h 0 a b rfl rfl, fun i x y hx hy => h (i + 1) x y (by simpa using hx) (by simpa using hy)⟩
@[local go_sem] theorem binOp_string_geq (t : TypeId) (a b : ByteArray) : binOp .geq t (.string a) (.string b) = pure (.bool (!Op.bytesLess a.toList b.toList)) := by simp [binOp, Op.stringOp]
set_option maxHeartbeats 2000000 in
set_option maxRecDepth 100000 in
theorem rise_any (A : Option Addr) (cap : Nat) (ns : List ByteArray) (w : World) (hS : SlAt (fun b => b < w.heap.size) w A ns.length (ns.map .string)) (hn : ns.length ≤ 70000) :
    Calls Tryz.prog 49 #[.slice A ns.length cap] w fun e w' => e = .returned (.bool (riseB ns)) ∧ Below w.heap.size w w' := by
  obtain ⟨g, off, hA⟩ : ∃ g off, ns = [] ∨ (A = some ⟨g, off, none⟩ ∧ ∀ (j : Nat) x, ns[j]? = some x → w.cell? ⟨g, off + j, none⟩ = some (.string x)) := by
    rcases Nat.eq_zero_or_pos ns.length with h | h
    · exact ⟨0, 0, .inl (List.length_eq_zero_iff.1 h)⟩
    · obtain ⟨b, o, e, _, hc⟩ := hS.2 h
      exact ⟨b, o, .inr ⟨e, fun j x hx => hc j _ (by rw [List.getElem?_map, hx]; rfl)⟩⟩
  clear hS
  have HA := Lib.hid hA
  clear hA
  go_enter Tryz.func49, Tryz.ntmps49
  go_wp2
  go_loopw [7] (fun i wr => ∃ k : Nat, k ≤ ns.length - 1 ∧ i = .int .i64 k ∧ Below w.heap.size w wr ∧ Hid (∀ (i : Nat) a b, i < k → ns[i]? = some a → ns[i + 1]? = some b → Op.bytesLess a.toList b.toList = true)) (fun i _ => ns.length - (intOf i).toNat)
  case atStart => exact ⟨0, Nat.zero_le _, rfl, Below.refl _ _, Lib.hid (by intro i a b h; omega)⟩
  case round =>
    obtain ⟨k, hk, rfl, hbel, HT⟩ := hrel
    have HB := Lib.hid hbel
    clear hbel
    by_cases hlt : k < ns.length - 1
    · obtain ⟨a, ha⟩ : ∃ a, ns[k]? = some a := ⟨_, List.getElem?_eq_getElem (by omega)⟩
      obtain ⟨b, hb⟩ : ∃ b, ns[k + 1]? = some b := ⟨_, List.getElem?_eq_getElem (by omega)⟩
      rcases HA.out with h0 | ⟨rfl, hc⟩
      · subst h0; simp at hlt
      have c1 := hc k a ha
      have c2 := hc (k + 1) b hb
      have hg := World.block_lt_of_cell? w _ c1
      rw [← HB.out.cell (p := ⟨g, off + k, none⟩) hg] at c1
      rw [← HB.out.cell (p := ⟨g, off + (k + 1), none⟩) hg] at c2
      have u0 : IntKind.i64.wrap ((k : Int) + 1) = ((k + 1 : Nat) : Int) := by simp [IntKind.wrap, IntKind.bits, IntKind.signed]; omega
      have u1 : (0 : Int) ≤ (k : Int) := by omega
      have u2 : (k : Int) < (ns.length : Int) := by omega
      have u3 : ((k + 1 : Nat) : Int) < (ns.length : Int) := by omega
      have u4 : (0 : Int) ≤ ((k + 1 : Nat) : Int) := by omega
      have hH := Lib.hid ha
      have hH2 := Lib.hid hb
      clear hc ha hb
      go_wp2
      go_region
      all_goals go_wp2
      · rename_i hf
        exact bodyPost_ret (v := .bool false) (by simp [results, Tryz.results49, go_sem]) rfl ⟨(by
          congr 2
          symm
          rw [Bool.eq_false_iff]
          intro u
          have := riseB_get.1 u k a b hH.out hH2.out
          rw [this] at hf; exact absurd hf (by decide)), HB.out.drew⟩
      case roundEnd =>
        rename_i hf
        go_roundw
        case rel =>
          refine ⟨k + 1, by omega, by simp, HB.out.drew, Lib.hid fun i x y hi hx hy => ?_⟩
          by_cases e : i = k
          · subst e
            rw [hH.out] at hx; rw [hH2.out] at hy; cases hx; cases hy
            simpa using hf
          · exact HT.out i x y (by omega) hx hy
        case measure => simp [intOf]; omega
    · go_wp2
      exact bodyPost_ret (v := .bool true) (by simp [results, Tryz.results49, go_sem]) rfl ⟨(by
        congr 2
        symm
        refine riseB_get.2 fun i x y hx hy => HT.out i x y ?_ hx hy
        have := (List.getElem?_eq_some_iff.1 hy).1
        omega), HB.out⟩
set_option maxRecDepth 100000 in
set_option maxHeartbeats 4000000 in
theorem hasAsked_any (t : Hd) (p : Ptr2) (w : World) (hE : Env w) (hT : HdOk (Lt w.heap.size) w t p) (hF : HdFew t) :
    Calls Tryz.prog 50 #[hdV t p] w fun e w' => e = .returned (.bool (checkF (treeH t))) ∧ Below w.heap.size w w' := by
  obtain ⟨W1, hW1⟩ : ∃ W, w.alloc (.cells (hdCells t p).toArray 38) = W := ⟨_, rfl⟩
  have hb : Below w.heap.size w W1 := by rw [← hW1]; exact (Below.refl _ _).alloc (Nat.le_refl _) _
  have hX : Blk W1 w.heap.size 38 (hdCells t p).toArray := by rw [← hW1]; exact Blk.new w 38 _
  have hT1 : HdOk (Lt W1.heap.size) W1 t p := by
    have := hT.keep (w' := W1) (fun b o hb' => hb.cell (p := ⟨b, o, none⟩) hb')
    exact ⟨this.1.imp (fun b hb' => Nat.lt_of_lt_of_le hb' hb.size), this.2.imp (fun b hb' => Nat.lt_of_lt_of_le hb' hb.size)⟩
  have cA := asType_any t p W1 (hE.on hb) hT1 hF
  obtain ⟨F1, F2, F3⟩ := hF
  obtain ⟨r, hr⟩ : ∃ r, checkF (treeH t) = r := ⟨_, rfl⟩
  rw [hr] at cA ⊢
  dsimp only [hdV, hdCells] at cA hX ⊢
  dsimp only [hdCells] at hW1
  have c0 := hX.cell 0
  have c1 := hX.cell 1
  have c2 := hX.cell 2
  have c3 := hX.cell 3
  simp only [List.getElem?_toArray, List.getElem?_cons_zero, List.getElem?_cons_succ] at c0 c1 c2 c3
  have d1 : decide ((65535 : Int) < (t.ns.length : Int)) = false := by simp; omega
  have d2 : decide ((t.ks.length : Int) ≤ (65535 : Int)) = true := by simp; omega
  have d3 : decide ((65535 : Int) < (t.ks.length : Int)) = false := by simp; omega
  have HB := Lib.hid hb
  clear hb hX hT1 hE hT hr F3
  go_enter Tryz.func50, Tryz.ntmps50
  go_wp2
  go_loopw [2] (fun v wr => v = .bool false ∧ wr = W1) (fun _ _ => 0)
  case atStart => exact ⟨rfl, rfl⟩
  case round =>
    obtain ⟨rfl, rfl⟩ := hrel
    go_wp2_with (go_at_call 53; refine cA.mono ?_; rintro e w' ⟨rfl, hb'⟩; have HC := Lib.hid hb'; clear hb')
    go_ret
    exact ⟨rfl, HB.out.trans (HC.out.mono HB.out.size)⟩
end Go.Proofs.YtggchkddmihobaaGreatDoor
