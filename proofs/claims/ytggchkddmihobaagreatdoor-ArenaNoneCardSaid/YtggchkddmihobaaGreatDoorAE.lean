/- Could a head be a type in a tree: the walk. -/
import Derived.Test.YtggchkddmihobaaGreatDoorAD
set_option linter.unusedVariables false
set_option linter.unusedSimpArgs false
namespace Go.Proofs.YtggchkddmihobaaGreatDoor
open Go Go.Proofs Go.RowKit
abbrev nodesC (n : Nat) (s : Nat) : Array Value := #[.int .i64 1, .int .i64 0, .string ⟨#[]⟩, .int .i64 0, .int .u64 0, .slice none 0 0, .slice none 0 0, .slice none 0 0,
    .int .i64 15, .int .i64 0, .string ⟨#[]⟩, .int .i64 0, .int .u64 0, .slice none 0 0, .slice (some ⟨s + 1, 0, none⟩) 1 1, .slice (some ⟨s + 1 + 1, 0, none⟩) 1 1]
theorem sl_nil {Pb : Nat → Prop} {w : World} {A : Option Addr} : SlAt Pb w A 0 [] := ⟨rfl, fun h => absurd h (by omega)⟩
theorem sl_blk {Pb : Nat → Prop} {w : World} {g : Nat} {t : TypeId} {cs : Array Value} (h : Blk w g t cs) (hp : Pb g) {n : Nat} {xs : List Value} (hn : xs.length = n) (hx : ∀ (j : Nat) (u : Value), xs[j]? = some u → cs[j]? = some u) : SlAt Pb w (some ⟨g, 0, none⟩) n xs :=
  ⟨hn, fun _ => ⟨g, 0, rfl, hp, fun j u hu => by rw [Nat.zero_add, h.cell]; exact hx j u hu⟩⟩
theorem treeH_len (t : Hd) : (treeH t).types.length = t.ks.length + 1 := by simp [treeH]
theorem treeH_few {t : Hd} (h : HdFew t) : TreeFew (treeH t) := by
  obtain ⟨h1, h2, h3⟩ := h
  refine ⟨?_, ?_, by simp [treeH], by simp [treeH], by simp [treeH], by simp [treeH]; omega⟩
  · intro x hx
    simp only [treeH, List.mem_cons, List.not_mem_nil, or_false] at hx
    rcases hx with rfl | rfl <;> exact ⟨Nat.zero_le _, Nat.zero_le _, fun s h => absurd h (List.not_mem_nil), by show _ ≤ _; simp, by show _ ≤ _; simp⟩
  · intro x hx
    simp only [treeH, List.mem_append, List.mem_cons, List.not_mem_nil, or_false, List.mem_replicate] at hx
    rcases hx with ⟨_, rfl⟩ | rfl
    · exact ⟨Nat.zero_le _, Nat.zero_le _, fun s h => absurd h (List.not_mem_nil), Nat.zero_le _⟩
    · unfold TypFew; dsimp only; exact ⟨Nat.zero_le _, by omega, fun s hs => by have := h3 s hs; omega, by rw [upto_len]; omega⟩
theorem treeH_at {t : Hd} {p : Ptr2} {k K s : Nat} {w : World} (hk : t.ks.length = k) (hT : HdOk (Lt w.heap.size) w t p)
    (w1 : Blk w (s + 1) 3 #[.int .i64 0]) (w2 : Blk w (s + 2) 3 #[.int .i64 (k : Int)]) (w3 : Blk w (s + 3) 121 (nodesC k s)) (w4 : Blk w (s + 4) 128 (T1 t p K k)) (w5 : Blk w K 3 (ivs (kz k k))) :
    TreeAt (Lt w.heap.size) w (treeH t) ⟨some ⟨s + 3, 0, none⟩, 2, some ⟨s + 4, 0, none⟩, k + 1, none, 0⟩ := by
  refine ⟨?_, ?_, fun h => absurd h (by simp [treeH])⟩
  · intro _
    refine ⟨s + 3, 0, rfl, w3.lt, fun i x hx => ?_⟩
    match i, hx with
    | 0, hx =>
      simp [treeH] at hx
      subst hx
      refine ⟨⟨none, 0, none, 0, none, 0⟩, ⟨SlAt.nil, SlAt.nil, SlAt.nil⟩, fun j u hu => ?_⟩
      rw [w3.cell]
      have hj : j < 8 := (List.getElem?_eq_some_iff.1 hu).1
      rcases (show j = 0 ∨ j = 1 ∨ j = 2 ∨ j = 3 ∨ j = 4 ∨ j = 5 ∨ j = 6 ∨ j = 7 by omega) with rfl | rfl | rfl | rfl | rfl | rfl | rfl | rfl <;> exact hu
    | 1, hx =>
      simp [treeH] at hx
      subst hx
      refine ⟨⟨none, 0, some ⟨s + 1, 0, none⟩, 1, some ⟨s + 2, 0, none⟩, 1⟩, ⟨SlAt.nil, sl_blk w1 w1.lt rfl (fun j u hu => ?_), sl_blk w2 w2.lt rfl (fun j u hu => ?_)⟩, fun j u hu => ?_⟩
      · simpa using hu
      · dsimp only at hu; rw [hk] at hu; simpa using hu
      · rw [w3.cell]
        have hj : j < 8 := (List.getElem?_eq_some_iff.1 hu).1
        rcases (show j = 0 ∨ j = 1 ∨ j = 2 ∨ j = 3 ∨ j = 4 ∨ j = 5 ∨ j = 6 ∨ j = 7 by omega) with rfl | rfl | rfl | rfl | rfl | rfl | rfl | rfl <;> exact hu
    | i + 2, hx => simp [treeH] at hx
  · intro _
    refine ⟨s + 4, 0, rfl, w4.lt, fun i x hx => ?_⟩
    simp only [treeH, hk] at hx
    by_cases hi : i < k
    · rw [List.getElem?_append_left (by simpa using hi), List.getElem?_replicate, if_pos hi] at hx
      injection hx with hx
      subst hx
      refine ⟨⟨none, 0, none, 0⟩, ⟨SlAt.nil, SlAt.nil⟩, fun j u hu => ?_⟩
      have hj : j < 6 := (List.getElem?_eq_some_iff.1 hu).1
      rw [w4.cell, Nat.zero_add, T1_old t p K k i j hi hj]
      rcases (show j = 0 ∨ j = 1 ∨ j = 2 ∨ j = 3 ∨ j = 4 ∨ j = 5 by omega) with rfl | rfl | rfl | rfl | rfl | rfl <;> exact hu
    · rw [List.getElem?_append_right (by simpa using hi), List.length_replicate] at hx
      have hik : i = k := by
        have := (List.getElem?_eq_some_iff.1 hx).1
        simp at this
        omega
      subst hik
      rw [Nat.sub_self] at hx
      simp at hx
      subst hx
      refine ⟨⟨p.a3, p.c3, some ⟨K, 0, none⟩, i⟩, ⟨hT.1, sl_blk w5 w5.lt (by simp) (fun j u hu => ?_)⟩, fun j u hu => ?_⟩
      · dsimp only at hu; rw [kz_end]; simpa [ivs] using hu
      · rw [w4.cell, Nat.zero_add]
        refine T1_new t p K i j u ?_
        simpa [typCells, upto_len] using hu
theorem asked_any {t : Hd} {p : Ptr2} {k K : Nat} {w W : World} (hE : Env w) (hk : t.ks.length = k) (hF : HdFew t) (hT : HdOk (Lt w.heap.size) w t p) (hb : Below w.heap.size w W)
    (w1 : Blk W (w.heap.size + 1) 3 #[.int .i64 0]) (w2 : Blk W (w.heap.size + 2) 3 #[.int .i64 (k : Int)]) (w3 : Blk W (w.heap.size + 3) 121 (nodesC k w.heap.size)) (w4 : Blk W (w.heap.size + 4) 128 (T1 t p K k)) (w5 : Blk W K 3 (ivs (kz k k))) :
    Calls Tryz.prog 60 #[.agg #[.slice (some ⟨w.heap.size + 3, 0, none⟩) 2 2, .slice (some ⟨w.heap.size + 4, 0, none⟩) (k + 1) (k + 1), .slice none 0 0]] W fun e w' => e = .returned (.int .i64 (if checkF (treeH t) then 0 else 14)) ∧ Below W.heap.size W w' := by
  have hT' : HdOk (Lt W.heap.size) W t p := by
    have := hT.keep (w' := W) (fun b o hb' => hb.cell (p := ⟨b, o, none⟩) hb')
    exact ⟨this.1.imp (fun b hb' => Nat.lt_of_lt_of_le hb' hb.size), this.2.imp (fun b hb' => Nat.lt_of_lt_of_le hb' hb.size)⟩
  have c := check_any (treeH t) ⟨some ⟨w.heap.size + 3, 0, none⟩, 2, some ⟨w.heap.size + 4, 0, none⟩, k + 1, none, 0⟩ W (hE.on hb) (treeH_at hk hT' w1 w2 w3 w4 w5) (treeH_few hF)
  unfold treeV at c
  rw [treeH_len, hk] at c
  exact c
set_option maxRecDepth 100000 in
set_option maxHeartbeats 4000000 in
theorem asType_any (t : Hd) (p : Ptr2) (w : World) (hE : Env w) (hT : HdOk (Lt w.heap.size) w t p) (hF : HdFew t) :
    Calls Tryz.prog 53 #[hdV t p] w fun e w' => e = .returned (.bool (checkF (treeH t))) ∧ Below w.heap.size w w' := by
  obtain ⟨F1, F2, F3⟩ := hF
  obtain ⟨r, hr⟩ : ∃ r, checkF (treeH t) = r := ⟨_, rfl⟩
  rw [hr]
  have HR := Lib.hid hr
  clear hr
  obtain ⟨n, hn⟩ : ∃ n, t.ks.length = n := ⟨_, rfl⟩
  have mT := fun W => madeT (n + 1) (by omega) W ((n : Int) + 1) (by omega)
  have mI := fun W => madeI n (by omega) W
  have HN := Lib.hid hn
  have F2' : n ≤ 20 := by omega
  dsimp only [hdV, hdCells]
  rw [hn]
  clear hn
  go_enter Tryz.func53, Tryz.ntmps53
  go_wp2
  obtain ⟨W1, hW1⟩ : ∃ W, w.alloc (.cells #[.int .i64 t.k, .slice p.a3 t.ns.length p.c3, .slice p.a4 n p.c4, .bool t.o] 38) = W := ⟨_, rfl⟩
  obtain ⟨W2, hW2⟩ : ∃ W, W1.alloc (.cells #[.int .i64 0] 3) = W := ⟨_, rfl⟩
  obtain ⟨W3, hW3⟩ : ∃ W, W2.alloc (.cells #[.int .i64 (n : Int)] 3) = W := ⟨_, rfl⟩
  obtain ⟨W4, hW4⟩ : ∃ W, W3.alloc (.cells #[.int .i64 1, .int .i64 0, .string ⟨#[]⟩, .int .i64 0, .int .u64 0, .slice none 0 0, .slice none 0 0, .slice none 0 0,
    .int .i64 15, .int .i64 0, .string ⟨#[]⟩, .int .i64 0, .int .u64 0, .slice none 0 0, .slice (some ⟨w.heap.size + 1, 0, none⟩) 1 1, .slice (some ⟨w.heap.size + 1 + 1, 0, none⟩) 1 1] 121) = W := ⟨_, rfl⟩
  obtain ⟨W5, hW5⟩ : ∃ W, W4.alloc (.cells (T0 (n + 1)) 128) = W := ⟨_, rfl⟩
  have s1 : W1.heap.size = w.heap.size + 1 := by rw [← hW1]; simp
  have s2 : W2.heap.size = w.heap.size + 2 := by rw [← hW2]; simp [s1]
  have s3 : W3.heap.size = w.heap.size + 3 := by rw [← hW3]; simp [s2]
  have s4 : W4.heap.size = w.heap.size + 4 := by rw [← hW4]; simp [s3]
  have s5 : W5.heap.size = w.heap.size + 5 := by rw [← hW5]; simp [s4]
  obtain ⟨W6, hW6⟩ : ∃ W, W5.alloc (.cells #[.slice (some ⟨w.heap.size + 3, 0, none⟩) 2 2, .slice (some ⟨w.heap.size + 4, 0, none⟩) (n + 1) (n + 1), .slice none 0 0] 126) = W := ⟨_, rfl⟩
  rw [hW1, hW2, hW3, hW4, hW5, hW6]
  have s6 : W6.heap.size = w.heap.size + 6 := by rw [← hW6]; simp [s5]
  have k1 : Below w.heap.size w W1 := by rw [← hW1]; exact (Below.refl _ _).alloc (Nat.le_refl _) _
  have k2 : Below W1.heap.size W1 W2 := by rw [← hW2]; exact (Below.refl _ _).alloc (Nat.le_refl _) _
  have k3 : Below W2.heap.size W2 W3 := by rw [← hW3]; exact (Below.refl _ _).alloc (Nat.le_refl _) _
  have k4 : Below W3.heap.size W3 W4 := by rw [← hW4]; exact (Below.refl _ _).alloc (Nat.le_refl _) _
  have k5 : Below W4.heap.size W4 W5 := by rw [← hW5]; exact (Below.refl _ _).alloc (Nat.le_refl _) _
  have k6 : Below W5.heap.size W5 W6 := by rw [← hW6]; exact (Below.refl _ _).alloc (Nat.le_refl _) _
  have g5 : Below W4.heap.size W4 W6 := k5.trans (k6.mono k5.size)
  have g4 : Below W3.heap.size W3 W6 := k4.trans (g5.mono k4.size)
  have g3 : Below W2.heap.size W2 W6 := k3.trans (g4.mono k3.size)
  have g2 : Below W1.heap.size W1 W6 := k2.trans (g3.mono k2.size)
  have g1 : Below w.heap.size w W6 := k1.trans (g2.mono k1.size)
  have x1 : Blk W1 w.heap.size 38 #[.int .i64 t.k, .slice p.a3 t.ns.length p.c3, .slice p.a4 n p.c4, .bool t.o] := by rw [← hW1]; exact Blk.new w 38 _
  have x2 : Blk W2 W1.heap.size 3 #[.int .i64 0] := by rw [← hW2]; exact Blk.new W1 3 _
  have x3 : Blk W3 W2.heap.size 3 #[.int .i64 (n : Int)] := by rw [← hW3]; exact Blk.new W2 3 _
  have x4 : Blk W4 W3.heap.size 121 #[.int .i64 1, .int .i64 0, .string ⟨#[]⟩, .int .i64 0, .int .u64 0, .slice none 0 0, .slice none 0 0, .slice none 0 0,
    .int .i64 15, .int .i64 0, .string ⟨#[]⟩, .int .i64 0, .int .u64 0, .slice none 0 0, .slice (some ⟨w.heap.size + 1, 0, none⟩) 1 1, .slice (some ⟨w.heap.size + 1 + 1, 0, none⟩) 1 1] := by rw [← hW4]; exact Blk.new W3 121 _
  have x5 : Blk W5 W4.heap.size 128 (T0 (n + 1)) := by rw [← hW5]; exact Blk.new W4 128 _
  have x6 : Blk W6 W5.heap.size 126 #[.slice (some ⟨w.heap.size + 3, 0, none⟩) 2 2, .slice (some ⟨w.heap.size + 4, 0, none⟩) (n + 1) (n + 1), .slice none 0 0] := by rw [← hW6]; exact Blk.new W5 126 _
  have y1 := x1.below g2 (by omega)
  have y2 := x2.below g3 (by omega)
  have y3 := x3.below g4 (by omega)
  have y4 := x4.below g5 (by omega)
  have y5 := x5.below k6 (by omega)
  rw [s1] at y2
  rw [s2] at y3
  rw [s3] at y4
  rw [s4] at y5
  rw [s5] at x6
  clear hW1 hW2 hW3 hW4 hW5 hW6 k1 k2 k3 k4 k5 k6 g2 g3 g4 g5 x1 x2 x3 x4 x5 s1 s2 s3 s4 s5 W1 W2 W3 W4 W5
  have c0 := y1.cell 0
  have c1 := y1.cell 1
  have c3 := y1.cell 3
  simp only [List.getElem?_toArray, List.getElem?_cons_zero, List.getElem?_cons_succ] at c0 c1 c3
  have G1 := Lib.hid g1
  have Y1 := Lib.hid y1
  have Y2 := Lib.hid y2
  have Y3 := Lib.hid y3
  have Y4 := Lib.hid y4
  have Y5 := Lib.hid y5
  have Y6 := Lib.hid x6
  clear g1 y1 y2 y3 y4 y5 x6
  go_region_held3 (fun w' => w'.cell? ⟨w.heap.size, 0, none⟩ = some (.int .i64 t.k) ∧ w'.cell? ⟨w.heap.size, 1, none⟩ = some (.slice p.a3 t.ns.length p.c3) ∧ w'.cell? ⟨w.heap.size, 3, none⟩ = some (.bool t.o)) (go_keep) (fail)
  rename_i hHq
  clear hHq
  obtain ⟨W8, hW8⟩ : ∃ W, ((W6.alloc (.cells (ivs (List.replicate n 0)) 3)).alloc (.cells #[.int .i64 t.k, .int .i64 0, .string ⟨#[]⟩, .slice p.a3 t.ns.length p.c3, .slice (some ⟨w.heap.size + 6, 0, none⟩) n n, .bool t.o] 128)).drew = W := ⟨_, rfl⟩
  rw [hW8]
  have hK : Blk W8 (w.heap.size + 6) 3 (ivs (kz n 0)) := by rw [← hW8, kz_zero, ← s6]; exact (Blk.new W6 3 _).alloc _
  have hNn : Blk W8 (w.heap.size + 6 + 1) 128 #[.int .i64 t.k, .int .i64 0, .string ⟨#[]⟩, .slice p.a3 t.ns.length p.c3, .slice (some ⟨w.heap.size + 6, 0, none⟩) n n, .bool t.o] := by
    rw [← hW8]; have := Blk.new (W6.alloc (.cells (ivs (List.replicate n 0)) 3)) 128 #[.int .i64 t.k, .int .i64 0, .string ⟨#[]⟩, .slice p.a3 t.ns.length p.c3, .slice (some ⟨w.heap.size + 6, 0, none⟩) n n, .bool t.o]
    rw [World.size_alloc, s6] at this; exact this
  have hb8 : Below W6.heap.size W6 W8 := by rw [← hW8]; exact (((Below.refl _ _).alloc (Nat.le_refl _) _).alloc (by simp) _).drew
  have q1 : w.heap.size + 6 ≠ w.heap.size + 6 + 1 := by omega
  have q2 : w.heap.size + 5 < w.heap.size + 6 := by omega
  have q3 : w.heap.size + 5 < w.heap.size + 6 + 1 := by omega
  have z1 := Y1.out.below hb8 (by omega)
  have z2 := Y2.out.below hb8 (by omega)
  have z3 := Y3.out.below hb8 (by omega)
  have z4 := Y4.out.below hb8 (by omega)
  have z5 := Y5.out.below hb8 (by omega)
  have z6 := Y6.out.below hb8 (by omega)
  have z0 : Below w.heap.size w W8 := G1.out.trans (hb8.mono (by omega))
  clear hW8 hb8 s6 Y1 Y2 Y3 Y4 Y5 Y6 G1 c0 c1 c3 mT mI
  generalize hNN : w.heap.size + 6 + 1 = N at *
  generalize hKK : w.heap.size + 6 = K at *
  clear hNN hKK W6
  rotate_left
  rename_i hHq
  clear hHq
  obtain ⟨W8, hW8⟩ : ∃ W, ((W6.alloc (.cells #[.int .i64 t.k, .int .i64 0, .string ⟨#[]⟩, .slice p.a3 t.ns.length p.c3, .slice (some ⟨w.heap.size + 6 + 1, 0, none⟩) n n, .bool t.o] 128)).alloc (.cells (ivs (List.replicate n 0)) 3)).drew = W := ⟨_, rfl⟩
  rw [hW8]
  have hNn : Blk W8 (w.heap.size + 6) 128 #[.int .i64 t.k, .int .i64 0, .string ⟨#[]⟩, .slice p.a3 t.ns.length p.c3, .slice (some ⟨w.heap.size + 6 + 1, 0, none⟩) n n, .bool t.o] := by rw [← hW8, ← s6]; exact (Blk.new W6 128 _).alloc _
  have hK : Blk W8 (w.heap.size + 6 + 1) 3 (ivs (kz n 0)) := by
    rw [← hW8, kz_zero]; have := Blk.new (W6.alloc (.cells #[.int .i64 t.k, .int .i64 0, .string ⟨#[]⟩, .slice p.a3 t.ns.length p.c3, .slice (some ⟨w.heap.size + 6 + 1, 0, none⟩) n n, .bool t.o] 128)) 3 (ivs (List.replicate n 0))
    rw [World.size_alloc, s6] at this; exact this
  have hb8 : Below W6.heap.size W6 W8 := by rw [← hW8]; exact (((Below.refl _ _).alloc (Nat.le_refl _) _).alloc (by simp) _).drew
  have q1 : w.heap.size + 6 + 1 ≠ w.heap.size + 6 := by omega
  have q2 : w.heap.size + 5 < w.heap.size + 6 + 1 := by omega
  have q3 : w.heap.size + 5 < w.heap.size + 6 := by omega
  have z1 := Y1.out.below hb8 (by omega)
  have z2 := Y2.out.below hb8 (by omega)
  have z3 := Y3.out.below hb8 (by omega)
  have z4 := Y4.out.below hb8 (by omega)
  have z5 := Y5.out.below hb8 (by omega)
  have z6 := Y6.out.below hb8 (by omega)
  have z0 : Below w.heap.size w W8 := G1.out.trans (hb8.mono (by omega))
  clear hW8 hb8 s6 Y1 Y2 Y3 Y4 Y5 Y6 G1 c0 c1 c3 mT mI
  generalize hKK : w.heap.size + 6 + 1 = K at *
  generalize hNN : w.heap.size + 6 = N at *
  clear hNN hKK W6
  all_goals
    have Z0 := Lib.hid z0
    have Z2 := Lib.hid z2
    have Z3 := Lib.hid z3
    have Z4 := Lib.hid z4
    have Z6 := Lib.hid z6
    have Q1 := Lib.hid q1
    clear z0 z1 z2 z3 z4 z6 q1
    go_wp2
    go_loopw [30] (fun i wr => ∃ k : Nat, k ≤ n ∧ i = .int .i64 k ∧ Blk wr K 3 (ivs (kz n k)) ∧ Blk wr (w.heap.size + 4) 128 (T0 (n + 1)) ∧ Fr (fun b => b = K ∨ b = w.heap.size + 4) W8 wr) (fun i _ => n - (intOf i).toNat)
    case atStart => exact ⟨0, Nat.zero_le _, rfl, hK, z5, Fr.refl _ _⟩
    case round =>
      obtain ⟨k, hk, rfl, bK, bT, hFr⟩ := hrel
      by_cases hlt : k < n
      · have g1 : wr.cell? ⟨w.heap.size + 1 + 1 + 1 + 1 + 1, 1, none⟩ = some (.slice (some ⟨w.heap.size + 4, 0, none⟩) (n + 1) (n + 1)) := hFr.cell (p := ⟨w.heap.size + 5, 1, none⟩) (Z6.out.cell 1) (by dsimp only; omega)
        have g4 : wr.cell? ⟨N, 4, none⟩ = some (.slice (some ⟨K, 0, none⟩) n n) := hFr.cell (p := ⟨N, 4, none⟩) (hNn.cell 4) (by have := Q1.out; dsimp only; omega)
        have e1 : wr.cell? ⟨w.heap.size + 4, k * 6, none⟩ = some (.int .i64 0) := (bT.cell (k * 6)).trans (T0_get (n + 1) k 0 (by omega) (by omega))
        have e2 : wr.frozen? ⟨w.heap.size + 4, k * 6, none⟩ = false := bT.frozen _
        have e3 : wr.cell? ⟨K, k, none⟩ = some (.int .i64 0) := by rw [bK.cell]; simp only [ivs]; simp [kz_get n k hlt]
        have e4 : wr.frozen? ⟨K, k, none⟩ = false := bK.frozen _
        have u1 : (0 : Int) ≤ (k : Int) := by omega
        have u2 : (k : Int) < (n : Int) := by omega
        have u3 : (k : Int) < ((n + 1 : Nat) : Int) := by omega
        have HB := Lib.hid bK
        have HBT := Lib.hid bT
        have HFr := Lib.hid hFr
        clear bK bT hFr
        have u4 : (k : Int) < (n : Int) + 1 := by omega
        have n1 : w.heap.size + 1 + 1 + 1 + 1 + 1 ≠ w.heap.size + 4 := by omega
        have n2 : w.heap.size + 1 + 1 + 1 + 1 + 1 ≠ K := by omega
        have n3 : N ≠ w.heap.size + 4 := by omega
        have n4 : N ≠ K := fun u => Q1.out u.symm
        go_wp2
        go_region_held3 (fun w' => w'.cell? ⟨w.heap.size + 1 + 1 + 1 + 1 + 1, 1, none⟩ = some (.slice (some ⟨w.heap.size + 4, 0, none⟩) (n + 1) (n + 1)) ∧ w'.cell? ⟨N, 4, none⟩ = some (.slice (some ⟨K, 0, none⟩) n n)) (exact (by refine ⟨?_, ?_⟩ <;> (repeat (first | with_reducible exact g1 | with_reducible exact g4 | with_reducible refine drew_c ?_ | (refine set_c ?_ ?_; (first | exact n1 | exact n2 | exact n3 | exact n4)))))) (fail)
        go_wp2
        go_roundw
        case rel =>
          refine ⟨k + 1, by omega, by simp, ?_, ?_, ?_⟩
          · have := ((HB.out.far (p := ⟨w.heap.size + 4, k * 6, none⟩) (show K ≠ w.heap.size + 4 by omega) (.int .i64 0)).set_ k (.int .i64 k)).drew
            have e : (ivs (kz n k)).setIfInBounds k (.int .i64 (k : Int)) = ivs (kz n (k + 1)) := by rw [← kz_set n k hlt, ivs_set]
            rw [e] at this; exact this
          · have := ((HBT.out.set_ (k * 6) (.int .i64 0)).far (p := ⟨K, k, none⟩) (show w.heap.size + 4 ≠ K by omega) (.int .i64 k)).drew
            rw [set_same (T0 (n + 1)) (k * 6) (.int .i64 0) (T0_get (n + 1) k 0 (by omega) (by omega))] at this; exact this
          · exact ((HFr.out.set _ _ (.inl (.inr rfl))).set _ _ (.inl (.inl rfl))).drew
        case measure => simp [intOf]; omega
      · obtain rfl : k = n := by omega
        have g1 : wr.cell? ⟨w.heap.size + 1 + 1 + 1 + 1 + 1, 1, none⟩ = some (.slice (some ⟨w.heap.size + 4, 0, none⟩) (k + 1) (k + 1)) := hFr.cell (p := ⟨w.heap.size + 5, 1, none⟩) (Z6.out.cell 1) (by dsimp only; omega)
        have t0 : wr.cell? ⟨w.heap.size + 1 + 1 + 1 + 1 + 1, 0, none⟩ = some (.slice (some ⟨w.heap.size + 3, 0, none⟩) 2 2) := hFr.cell (p := ⟨w.heap.size + 5, 0, none⟩) (Z6.out.cell 0) (by dsimp only; omega)
        have t2 : wr.cell? ⟨w.heap.size + 1 + 1 + 1 + 1 + 1, 2, none⟩ = some (.slice none 0 0) := hFr.cell (p := ⟨w.heap.size + 5, 2, none⟩) (Z6.out.cell 2) (by dsimp only; omega)
        have nn : ∀ j v, (#[.int .i64 t.k, .int .i64 0, .string ⟨#[]⟩, .slice p.a3 t.ns.length p.c3, .slice (some ⟨K, 0, none⟩) k k, .bool t.o] : Array Value)[j]? = some v → wr.cell? ⟨N, j, none⟩ = some v := fun j v hv => hFr.cell (p := ⟨N, j, none⟩) ((hNn.cell j).trans hv) (by have := Q1.out; dsimp only; omega)
        have m0 := nn 0 _ rfl
        have m1 := nn 1 _ rfl
        have m2 := nn 2 _ rfl
        have m3 := nn 3 _ rfl
        have m4 := nn 4 _ rfl
        have m5 := nn 5 _ rfl
        clear nn
        have tt := fun j (h : j < 6) => (bT.cell (k * 6 + j)).trans (T0_get (k + 1) k j (by omega) h)
        have o0 := tt 0 (by omega)
        have o1 := tt 1 (by omega)
        have o2 := tt 2 (by omega)
        have o3 := tt 3 (by omega)
        have o4 := tt 4 (by omega)
        have o5 := tt 5 (by omega)
        simp only [zT, List.getElem?_toArray, List.getElem?_cons_zero, List.getElem?_cons_succ, Nat.add_zero] at o0 o1 o2 o3 o4 o5
        have fz := fun j => bT.frozen j
        have z0 := fz (k * 6)
        have z1 := fz (k * 6 + 1)
        have z2 := fz (k * 6 + 2)
        have z3 := fz (k * 6 + 3)
        have z4 := fz (k * 6 + 4)
        have z5 := fz (k * 6 + 5)
        have u1 : (0 : Int) ≤ (k : Int) := by omega
        have u4 : (k : Int) < (k : Int) + 1 := by omega
        have u5 : (k : Int) < ((k + 1 : Nat) : Int) := by omega
        have HB := Lib.hid bK
        have HBT := Lib.hid bT
        have HFr := Lib.hid hFr
        clear bK bT hFr tt fz hK hNn hlt hk
        go_upto_region 9 with (fail)
        iterate 24 go_step
        obtain ⟨WX, hWX⟩ : ∃ WX, (((((wr.setCell ⟨w.heap.size + 4, k * 6, none⟩ (.int .i64 t.k)).setCell ⟨w.heap.size + 4, k * 6 + 1, none⟩ (.int .i64 0)).setCell ⟨w.heap.size + 4, k * 6 + 2, none⟩ (.string ⟨#[]⟩)).setCell ⟨w.heap.size + 4, k * 6 + 3, none⟩ (.slice p.a3 t.ns.length p.c3)).setCell ⟨w.heap.size + 4, k * 6 + 4, none⟩ (.slice (some ⟨K, 0, none⟩) k k)).setCell ⟨w.heap.size + 4, k * 6 + 5, none⟩ (.bool t.o) = WX := ⟨_, rfl⟩
        rw [hWX]
        have b1 := HBT.out.set_ (k * 6) (.int .i64 t.k)
        have f1 := (Fr.refl (fun b => b = w.heap.size + 4) wr).set ⟨w.heap.size + 4, k * 6, none⟩ (.int .i64 t.k) (.inl rfl)
        have b2 := b1.set_ (k * 6 + 1) (.int .i64 0)
        have f2 := f1.set ⟨w.heap.size + 4, k * 6 + 1, none⟩ (.int .i64 0) (.inl rfl)
        have b3 := b2.set_ (k * 6 + 2) (.string ⟨#[]⟩)
        have f3 := f2.set ⟨w.heap.size + 4, k * 6 + 2, none⟩ (.string ⟨#[]⟩) (.inl rfl)
        have b4 := b3.set_ (k * 6 + 3) (.slice p.a3 t.ns.length p.c3)
        have f4 := f3.set ⟨w.heap.size + 4, k * 6 + 3, none⟩ (.slice p.a3 t.ns.length p.c3) (.inl rfl)
        have b5 := b4.set_ (k * 6 + 4) (.slice (some ⟨K, 0, none⟩) k k)
        have f5 := f4.set ⟨w.heap.size + 4, k * 6 + 4, none⟩ (.slice (some ⟨K, 0, none⟩) k k) (.inl rfl)
        have b6 := b5.set_ (k * 6 + 5) (.bool t.o)
        have f6 := f5.set ⟨w.heap.size + 4, k * 6 + 5, none⟩ (.bool t.o) (.inl rfl)
        rw [hWX] at b6 f6
        have bX : Blk WX (w.heap.size + 4) 128 (T1 t p K k) := b6
        have fX := f6
        clear b1 b2 b3 b4 b5 b6 f1 f2 f3 f4 f5 f6 hWX
        have t0' := fX.cell t0 (by dsimp only; omega)
        have t1' := fX.cell g1 (by dsimp only; omega)
        have t2' := fX.cell t2 (by dsimp only; omega)
        have bK' : Blk WX K 3 (ivs (kz k k)) := (fX.block K HB.out.lt (by omega)).trans HB.out
        have FF : Fr (fun b => b = K ∨ b = w.heap.size + 4) W8 WX := HFr.out.trans fX (fun x hx => .inl (.inr hx))
        have hbX : Below w.heap.size w WX := Z0.out.trans (FF.below (Nat.le_trans (Nat.le_refl _) Z0.out.size) (fun x hx => by omega))
        have w1 : Blk WX (w.heap.size + 1) 3 #[.int .i64 0] := (FF.block _ Z2.out.lt (by omega)).trans Z2.out
        have w2 : Blk WX (w.heap.size + 2) 3 #[.int .i64 (k : Int)] := (FF.block _ Z3.out.lt (by omega)).trans Z3.out
        have w3 := (FF.block _ Z4.out.lt (by omega)).trans Z4.out
        have cC := asked_any (t := t) (p := p) (k := k) (K := K) hE HN.out ⟨F1, F2, F3⟩ hT hbX w1 w2 w3 bX bK'
        rw [HR.out] at cC
        have HBX := Lib.hid hbX
        have hwx : w.heap.size + 1 + 1 + 1 + 1 + 1 < WX.heap.size := World.block_lt_of_cell? WX _ t0'
        clear w1 w2 w3 bX bK' hT hbX o0 o1 o2 o3 o4 o5 z0 z1 z2 z3 z4 z5 t0 t2 g1 m0 m1 m2 m3 m4 m5 FF fX HFr HBT HB Z2 Z3 Z4 Z6 Z0 u1 u4 u5
        cases r
        · go_wp2_with (go_at_call 60; refine cC.mono ?_; rintro e w' ⟨rfl, hb'⟩; have HC := Lib.hid hb'; clear hb')
          go_ret
          exact ⟨rfl, HBX.out.trans (HC.out.mono HBX.out.size)⟩
        · go_wp2_with (go_at_call 60; refine cC.mono ?_; rintro e w' ⟨rfl, hb'⟩; have HC := Lib.hid hb'; clear hb')
          go_ret
          exact ⟨rfl, HBX.out.trans (HC.out.mono HBX.out.size)⟩
end Go.Proofs.YtggchkddmihobaaGreatDoor
