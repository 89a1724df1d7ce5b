/- Whether a term, and a type, has what its kind asks: at every one. -/
import Derived.Test.YtggchkddmihobaaGreatDoorMayA
namespace Go.Proofs.YtggchkddmihobaaGreatDoor
open Go Go.Proofs Go.RowKit

set_option maxHeartbeats 4000000 in
/-- The walk behind a type's shape: the same at every kind. -/
theorem typ_by (t : TypD) (p : Ptr2) (w : World) (g0 g1 : Option Nat) (K : Int) (b0 b1 : Bool) (hK : 0 ≤ K ∧ K ≤ 2000)
    (hs : ∀ W, Calls Tryz.prog 101 #[.agg (typCells t p).toArray] W fun e w' => e = .returned (.tuple #[.agg #[fv g0, fv g1, .nilFunc, .int .i64 0, .int .i64 K, .int .i64 0, .int .i64 0], .bool true]) ∧ Below W.heap.size W w')
    (k0 : ∀ W, Below w.heap.size w W → Calls Tryz.prog 115 #[fv g0, .string t.name, .bool t.name.toList.isEmpty] W fun e w' => e = .returned (.bool b0) ∧ Below W.heap.size W w')
    (k1 : ∀ W, Below w.heap.size w W → Calls Tryz.prog 116 #[fv g1, .slice p.a3 t.names.length p.c3, .bool t.names.isEmpty] W fun e w' => e = .returned (.bool b1) ∧ Below W.heap.size W w') :
    Calls Tryz.prog 83 #[.agg (typCells t p).toArray] w fun e w' => e = .returned (.bool (holdsB 0 K 0 0 0 t.kids.length 0 b0 b1 true && (!t.opn || decide (t.kind = 9)))) ∧ Below w.heap.size w w' := by
  have kh := fun W (hW : Below w.heap.size w W) => holds_any (fv g0) (fv g1) .nilFunc 0 K 0 0 0 0 0 t.name 0 p.a3 p.a4 none t.names.length p.c3 t.kids.length p.c4 0 0 b0 b1 true W hK (by omega)
    (fun W' h => k0 W' (hW.trans (h.mono hW.size))) (fun W' h => by rw [names_empty]; exact k1 W' (hW.trans (h.mono hW.size))) (fun W' h => by have := ask70_nil 0 true W'; simpa using this)
  clear k0 k1
  unfold typCells at *
  obtain ⟨kd, pos, nm, nms, kids, o⟩ := t
  obtain ⟨a3, c3, a4, c4⟩ := p
  dsimp only at *
  obtain ⟨H, hH⟩ : ∃ H, holdsB 0 K 0 0 0 kids.length 0 b0 b1 true = H := ⟨_, rfl⟩
  rw [hH] at kh ⊢
  clear hH
  have kh' : ∀ W, Below w.heap.size w W → Calls Tryz.prog 100 #[.agg #[fv g0, fv g1, .nilFunc, .int .i64 0, .int .i64 K, .int .i64 0, .int .i64 0], .agg #[.int .i64 0, .int .i64 0, .string nm, .int .i64 0, .int .u64 0, .slice a3 nms.length c3, .slice a4 kids.length c4, .slice none 0 0]] W fun e w' => e = .returned (.bool H) ∧ Below W.heap.size W w' := kh
  clear kh
  have hq : ((kd : Int) == 9) = decide (kd = 9) := by rw [Bool.eq_iff_iff]; simp
  obtain ⟨q, hqq⟩ : ∃ q, decide (kd = 9) = q := ⟨_, rfl⟩
  rw [hqq] at hq ⊢
  clear hqq
  cases g0 <;> cases g1
  all_goals
    simp only [fv] at hs kh'
    cases H <;> cases o
    all_goals
      go_enter Tryz.func83, Tryz.ntmps83
      go_wp2_with (first
        | (go_at_call 101; refine (hs _).mono ?_; rintro e w1 ⟨rfl, hb1⟩; obtain ⟨hc1, hf1⟩ := bcell hb1; have hz1 := hb1.size; simp only [World.size_alloc] at hz1; have hz2 : w.heap.size < w1.heap.size := (by omega); have hB1 : Below w.heap.size w w1 := ((Below.refl _ _).alloc (Nat.le_refl _) _).trans (hb1.mono (by simp only [World.size_alloc]; omega)))
        | (go_at_call 100; refine (kh' _ (hB1.alloc (by omega) _)).mono ?_; rintro e w2 ⟨rfl, hb2⟩; obtain ⟨hc2, hf2⟩ := bcell hb2; simp only [World.size_alloc] at hc2))
      go_ret
      exact ⟨rfl, (hB1.alloc (by omega) _).trans (hb2.mono (by simp only [World.size_alloc]; omega))⟩

theorem term_no (t : TermD) (p : Ptr3) (w : World) (hk : ¬ (0 ≤ t.kind ∧ t.kind ≤ 16)) :
    Calls Tryz.prog 82 #[.agg (termCells t p).toArray] w fun e w' => e = .returned (.bool false) ∧ Below w.heap.size w w' := by
  have hs := fun W => shape_no t.kind t.pos t.int t.name t.bits p.a5 t.names.length p.c5 (.slice p.a6 t.kids.length p.c6) (.slice p.a7 t.types.length p.c7) W hk
  unfold termCells at *
  obtain ⟨kd, pos, nm, x, y, nms, kids, types⟩ := t
  obtain ⟨a5, c5, a6, c6, a7, c7⟩ := p
  dsimp only at *
  clear hk
  go_enter Tryz.func82, Tryz.ntmps82
  go_wp2_with (go_at_call 99; refine (hs _).mono ?_; rintro e w1 ⟨rfl, hb1⟩; have hB1 : Below w.heap.size w w1 := ((Below.refl _ _).alloc (Nat.le_refl _) _).trans (hb1.mono (by simp only [World.size_alloc]; omega)))
  go_ret
  exact ⟨rfl, hB1.alloc (hB1.size) _⟩
theorem typ_no (t : TypD) (p : Ptr2) (w : World) (hk : ¬ (0 ≤ t.kind ∧ t.kind ≤ 10)) :
    Calls Tryz.prog 83 #[.agg (typCells t p).toArray] w fun e w' => e = .returned (.bool false) ∧ Below w.heap.size w w' := by
  have hs := fun W => tshape_no t.kind t.pos t.name p.a3 t.names.length p.c3 (.slice p.a4 t.kids.length p.c4) t.opn W hk
  unfold typCells at *
  obtain ⟨kd, pos, nm, nms, kids, o⟩ := t
  obtain ⟨a3, c3, a4, c4⟩ := p
  dsimp only at *
  clear hk
  go_enter Tryz.func83, Tryz.ntmps83
  go_wp2_with (go_at_call 101; refine (hs _).mono ?_; rintro e w1 ⟨rfl, hb1⟩; have hB1 : Below w.heap.size w w1 := ((Below.refl _ _).alloc (Nat.le_refl _) _).trans (hb1.mono (by simp only [World.size_alloc]; omega)))
  go_ret
  exact ⟨rfl, hB1.alloc (hB1.size) _⟩


theorem termMay_any (t : TermD) (p : Ptr3) (w : World) (hE : Env w) (hF : TermFew t) (hP : TermOk (Lt w.heap.size) w t p) :
    Calls Tryz.prog 82 #[.agg (termCells t p).toArray] w fun e w' => e = .returned (.bool (termB t)) ∧ Below w.heap.size w w' := by
  obtain ⟨f1, f2, f3, f4, f5⟩ := hF
  have hN : ∀ W, Below w.heap.size w W → SlAt (Lt W.heap.size) W p.a5 t.names.length (t.names.map .string) := fun W hW => (hP.1.keep (keep_below hW)).imp (lt_mono hW.size)
  have n0 : ∀ W, Below w.heap.size w W → Calls Tryz.prog 115 #[fv none, .string t.name, .bool t.name.toList.isEmpty] W fun e w' => e = .returned (.bool t.name.toList.isEmpty) ∧ Below W.heap.size W w' := fun W _ => ask68_nil _ _ W
  have n1 : ∀ W, Below w.heap.size w W → Calls Tryz.prog 116 #[fv none, .slice p.a5 t.names.length p.c5, .bool t.names.isEmpty] W fun e w' => e = .returned (.bool t.names.isEmpty) ∧ Below W.heap.size W w' := fun W _ => ask69_nil _ _ _ _ W
  have n2 : ∀ W, Below w.heap.size w W → Calls Tryz.prog 117 #[fv none, .int .u64 (t.bits : Int), .bool (decide (t.bits = 0))] W fun e w' => e = .returned (.bool (decide (t.bits = 0))) ∧ Below W.heap.size W w' := fun W _ => ask70_nil _ _ W
  have s61 : ∀ W, Below w.heap.size w W → Calls Tryz.prog 115 #[fv (some 108), .string t.name, .bool t.name.toList.isEmpty] W fun e w' => e = .returned (.bool (isName (tl t.name))) ∧ Below W.heap.size W w' := fun W _ => ask68_61 _ _ W _ (isName_any _ (by omega) W)
  have s62 : ∀ W, Below w.heap.size w W → Calls Tryz.prog 115 #[fv (some 109), .string t.name, .bool t.name.toList.isEmpty] W fun e w' => e = .returned (.bool (lineB t.name)) ∧ Below W.heap.size W w' := fun W hW => ask68_62 _ _ W _ (isLine_any _ f1 W (hE.on hW).2 (hE.on hW).1)
  have s65 : ∀ W, Below w.heap.size w W → Calls Tryz.prog 115 #[fv (some 112), .string t.name, .bool t.name.toList.isEmpty] W fun e w' => e = .returned (.bool (tagB (tl t.name))) ∧ Below W.heap.size W w' := fun W _ => ask68_65 _ _ W _ (isTag_any _ f1 W)
  have s67 : ∀ W, Below w.heap.size w W → Calls Tryz.prog 115 #[fv (some 114), .string t.name, .bool t.name.toList.isEmpty] W fun e w' => e = .returned (.bool (opB (tl t.name))) ∧ Below W.heap.size W w' := fun W _ => ask68_67 _ _ W _ ((isOp_any _ W).mono fun _ _ ⟨h1, h2⟩ => ⟨h1, h2 ▸ Below.refl _ _⟩)
  have m64 : ∀ W, Below w.heap.size w W → Calls Tryz.prog 116 #[fv (some 111), .slice p.a5 t.names.length p.c5, .bool t.names.isEmpty] W fun e w' => e = .returned (.bool (armsB t.names)) ∧ Below W.heap.size W w' := fun W hW => ask69_64 _ _ _ _ W _ (areArms_any _ _ _ W (hN W hW) f2 f3)
  have m66 : ∀ W, Below w.heap.size w W → Calls Tryz.prog 116 #[fv (some 113), .slice p.a5 t.names.length p.c5, .bool t.names.isEmpty] W fun e w' => e = .returned (.bool (onceB isName t.names)) ∧ Below W.heap.size W w' := fun W hW => ask69_66 _ _ _ _ W _ (areNames_any _ _ _ W (hN W hW) f2 f3)
  have b63 : ∀ W, Below w.heap.size w W → Calls Tryz.prog 117 #[fv (some 110), .int .u64 (t.bits : Int), .bool (decide (t.bits = 0))] W fun e w' => e = .returned (.bool (floatB t.bits)) ∧ Below W.heap.size W w' := fun W _ => ask70_63 _ _ W _ ((isFloat_any _ W).mono fun _ _ ⟨h1, h2⟩ => ⟨h1, h2 ▸ Below.refl _ _⟩)
  clear hN hP hE
  by_cases hk : 0 ≤ t.kind ∧ t.kind ≤ 16
  · obtain ⟨kd, pos, nm, x, y, nms, kids, types⟩ := t
    dsimp only at *
    have hcases : kd = 0 ∨ kd = 1 ∨ kd = 2 ∨ kd = 3 ∨ kd = 4 ∨ kd = 5 ∨ kd = 6 ∨ kd = 7 ∨ kd = 8 ∨ kd = 9 ∨ kd = 10 ∨ kd = 11 ∨ kd = 12 ∨ kd = 13 ∨ kd = 14 ∨ kd = 15 ∨ kd = 16 := by omega
    clear hk
    rcases hcases with rfl | rfl | rfl | rfl | rfl | rfl | rfl | rfl | rfl | rfl | rfl | rfl | rfl | rfl | rfl | rfl | rfl
    · exact term_by ⟨0, pos, nm, x, y, nms, kids, types⟩ p w (some 108) none none 0 0 0 0 _ _ _ (by omega) (by omega) (fun W => shape0 pos x nm y p.a5 nms.length p.c5 _ _ W) s61 n1 n2
    · exact term_by ⟨1, pos, nm, x, y, nms, kids, types⟩ p w none none none 9223372036854775807 0 0 0 _ _ _ (by omega) (by omega) (fun W => shape1 pos x nm y p.a5 nms.length p.c5 _ _ W) n0 n1 n2
    · exact term_by ⟨2, pos, nm, x, y, nms, kids, types⟩ p w none none none 1 0 0 0 _ _ _ (by omega) (by omega) (fun W => shape2 pos x nm y p.a5 nms.length p.c5 _ _ W) n0 n1 n2
    · exact term_by ⟨3, pos, nm, x, y, nms, kids, types⟩ p w (some 109) none none 0 0 0 0 _ _ _ (by omega) (by omega) (fun W => shape3 pos x nm y p.a5 nms.length p.c5 _ _ W) s62 n1 n2
    · exact term_by ⟨4, pos, nm, x, y, nms, kids, types⟩ p w none none (some 110) 0 0 0 0 _ _ _ (by omega) (by omega) (fun W => shape4 pos x nm y p.a5 nms.length p.c5 _ _ W) n0 n1 b63
    · exact term_by ⟨5, pos, nm, x, y, nms, kids, types⟩ p w (some 108) none none 0 1 0 0 _ _ _ (by omega) (by omega) (fun W => shape5 pos x nm y p.a5 nms.length p.c5 _ _ W) s61 n1 n2
    · exact term_by ⟨6, pos, nm, x, y, nms, kids, types⟩ p w none none none 0 2 0 0 _ _ _ (by omega) (by omega) (fun W => shape6 pos x nm y p.a5 nms.length p.c5 _ _ W) n0 n1 n2
    · exact term_by ⟨7, pos, nm, x, y, nms, kids, types⟩ p w (some 108) none none 0 2 0 0 _ _ _ (by omega) (by omega) (fun W => shape7 pos x nm y p.a5 nms.length p.c5 _ _ W) s61 n1 n2
    · exact term_by ⟨8, pos, nm, x, y, nms, kids, types⟩ p w (some 108) none none 0 2 0 0 _ _ _ (by omega) (by omega) (fun W => shape8 pos x nm y p.a5 nms.length p.c5 _ _ W) s61 n1 n2
    · exact term_by ⟨9, pos, nm, x, y, nms, kids, types⟩ p w none none none 0 3 0 0 _ _ _ (by omega) (by omega) (fun W => shape9 pos x nm y p.a5 nms.length p.c5 _ _ W) n0 n1 n2
    · exact term_by ⟨10, pos, nm, x, y, nms, kids, types⟩ p w none (some 111) none 0 (1 + (nms.length : Int) / 2) 1 0 _ _ _ (by omega) (by omega) (fun W => shape10 pos x nm y p.a5 nms.length p.c5 _ _ (by omega) W) n0 m64 n2
    · exact term_by ⟨11, pos, nm, x, y, nms, kids, types⟩ p w (some 112) none none 0 1 0 0 _ _ _ (by omega) (by omega) (fun W => shape11 pos x nm y p.a5 nms.length p.c5 _ _ W) s65 n1 n2
    · exact term_by ⟨12, pos, nm, x, y, nms, kids, types⟩ p w none (some 113) none 0 (nms.length : Int) 0 0 _ _ _ (by omega) (by omega) (fun W => shape12 pos x nm y p.a5 nms.length p.c5 _ _ W) n0 m66 n2
    · exact term_by ⟨13, pos, nm, x, y, nms, kids, types⟩ p w (some 108) none none 0 1 0 0 _ _ _ (by omega) (by omega) (fun W => shape13 pos x nm y p.a5 nms.length p.c5 _ _ W) s61 n1 n2
    · exact term_by ⟨14, pos, nm, x, y, nms, kids, types⟩ p w (some 114) none none 0 2 0 0 _ _ _ (by omega) (by omega) (fun W => shape14 pos x nm y p.a5 nms.length p.c5 _ _ W) s67 n1 n2
    · exact term_by ⟨15, pos, nm, x, y, nms, kids, types⟩ p w none none none 0 1 0 1 _ _ _ (by omega) (by omega) (fun W => shape15 pos x nm y p.a5 nms.length p.c5 _ _ W) n0 n1 n2
    · exact term_by ⟨16, pos, nm, x, y, nms, kids, types⟩ p w none none none 0 1 0 2 _ _ _ (by omega) (by omega) (fun W => shape16 pos x nm y p.a5 nms.length p.c5 _ _ W) n0 n1 n2
  · have : termB t = false := by
      unfold termB
      repeat rw [if_neg (by omega)]
    rw [this]
    exact term_no t p w hk

theorem typMay_any (t : TypD) (p : Ptr2) (w : World) (hF : TypFew t) (hP : TypOk (Lt w.heap.size) w t p) :
    Calls Tryz.prog 83 #[.agg (typCells t p).toArray] w fun e w' => e = .returned (.bool (typB t)) ∧ Below w.heap.size w w' := by
  obtain ⟨f1, f2, f3, f4⟩ := hF
  have hN : ∀ W, Below w.heap.size w W → SlAt (Lt W.heap.size) W p.a3 t.names.length (t.names.map .string) := fun W hW => (hP.1.keep (keep_below hW)).imp (lt_mono hW.size)
  have n0 : ∀ W, Below w.heap.size w W → Calls Tryz.prog 115 #[fv none, .string t.name, .bool t.name.toList.isEmpty] W fun e w' => e = .returned (.bool t.name.toList.isEmpty) ∧ Below W.heap.size W w' := fun W _ => ask68_nil _ _ W
  have n1 : ∀ W, Below w.heap.size w W → Calls Tryz.prog 116 #[fv none, .slice p.a3 t.names.length p.c3, .bool t.names.isEmpty] W fun e w' => e = .returned (.bool t.names.isEmpty) ∧ Below W.heap.size W w' := fun W _ => ask69_nil _ _ _ _ W
  have s45 : ∀ W, Below w.heap.size w W → Calls Tryz.prog 115 #[fv (some 84), .string t.name, .bool t.name.toList.isEmpty] W fun e w' => e = .returned (.bool (aliasB (tl t.name))) ∧ Below W.heap.size W w' := fun W _ => ask68_45 _ _ W _ ((isAlias_any _ f1 W).mono fun _ _ ⟨h1, h2⟩ => ⟨h1, h2 ▸ Below.refl _ _⟩)
  have m66 : ∀ W, Below w.heap.size w W → Calls Tryz.prog 116 #[fv (some 113), .slice p.a3 t.names.length p.c3, .bool t.names.isEmpty] W fun e w' => e = .returned (.bool (onceB isName t.names)) ∧ Below W.heap.size W w' := fun W hW => ask69_66 _ _ _ _ W _ (areNames_any _ _ _ W (hN W hW) f2 f3)
  have m71 : ∀ W, Below w.heap.size w W → Calls Tryz.prog 116 #[fv (some 118), .slice p.a3 t.names.length p.c3, .bool t.names.isEmpty] W fun e w' => e = .returned (.bool (onceB tagB t.names)) ∧ Below W.heap.size W w' := fun W hW => ask69_71 _ _ _ _ W _ (areTags_any _ _ _ W (hN W hW) f2 f3)
  clear hN hP
  by_cases hk : 0 ≤ t.kind ∧ t.kind ≤ 10
  · obtain ⟨kd, pos, nm, nms, kids, op⟩ := t
    dsimp only at *
    have hcases : kd = 0 ∨ kd = 1 ∨ kd = 2 ∨ kd = 3 ∨ kd = 4 ∨ kd = 5 ∨ kd = 6 ∨ kd = 7 ∨ kd = 8 ∨ kd = 9 ∨ kd = 10 := by omega
    clear hk
    rcases hcases with rfl | rfl | rfl | rfl | rfl | rfl | rfl | rfl | rfl | rfl | rfl
    · have := typ_by ⟨0, pos, nm, nms, kids, op⟩ p w none none 0 _ _ (by omega) (fun W => tshape0 pos nm p.a3 nms.length p.c3 _ op W) n0 n1
      simpa [typB] using this
    · have := typ_by ⟨1, pos, nm, nms, kids, op⟩ p w none none 0 _ _ (by omega) (fun W => tshape1 pos nm p.a3 nms.length p.c3 _ op W) n0 n1
      simpa [typB] using this
    · have := typ_by ⟨2, pos, nm, nms, kids, op⟩ p w none none 0 _ _ (by omega) (fun W => tshape2 pos nm p.a3 nms.length p.c3 _ op W) n0 n1
      simpa [typB] using this
    · have := typ_by ⟨3, pos, nm, nms, kids, op⟩ p w none none 0 _ _ (by omega) (fun W => tshape3 pos nm p.a3 nms.length p.c3 _ op W) n0 n1
      simpa [typB] using this
    · have := typ_by ⟨4, pos, nm, nms, kids, op⟩ p w none none 0 _ _ (by omega) (fun W => tshape4 pos nm p.a3 nms.length p.c3 _ op W) n0 n1
      simpa [typB] using this
    · have := typ_by ⟨5, pos, nm, nms, kids, op⟩ p w none none 0 _ _ (by omega) (fun W => tshape5 pos nm p.a3 nms.length p.c3 _ op W) n0 n1
      simpa [typB] using this
    · have := typ_by ⟨6, pos, nm, nms, kids, op⟩ p w none none 0 _ _ (by omega) (fun W => tshape6 pos nm p.a3 nms.length p.c3 _ op W) n0 n1
      simpa [typB] using this
    · have := typ_by ⟨7, pos, nm, nms, kids, op⟩ p w none none 2 _ _ (by omega) (fun W => tshape7 pos nm p.a3 nms.length p.c3 _ op W) n0 n1
      simpa [typB] using this
    · have := typ_by ⟨8, pos, nm, nms, kids, op⟩ p w none (some 113) (nms.length : Int) _ _ (by omega) (fun W => tshape8 pos nm p.a3 nms.length p.c3 _ op W) n0 m66
      simpa [typB] using this
    · have := typ_by ⟨9, pos, nm, nms, kids, op⟩ p w none (some 118) (nms.length : Int) _ _ (by omega) (fun W => tshape9 pos nm p.a3 nms.length p.c3 _ op W) n0 m71
      simpa [typB] using this
    · have := typ_by ⟨10, pos, nm, nms, kids, op⟩ p w (some 84) none 0 _ _ (by omega) (fun W => tshape10 pos nm p.a3 nms.length p.c3 _ op W) s45 n1
      simpa [typB] using this
  · have : typB t = false := by
      unfold typB
      repeat rw [if_neg (by omega)]
    rw [this]
    exact typ_no t p w hk
end Go.Proofs.YtggchkddmihobaaGreatDoor
