/- An arena in memory: its parts in a row of its own; one made, parts put in. -/
import Derived.Test.YtggchkddmihobaaGreatDoorOwn
import Derived.Below
import Derived.Laws.OwnMore
import Derived.Laws.Rows
import Derived.Deep.AppendLies
import Derived.WalkKit
import Derived.BigQuiet
import Derived.IntWalk
import Derived.Deep.QuietTactic
import Derived.RegionTactic
import Derived.ChangeAlike
import Derived.Carry
set_option linter.unusedVariables false
set_option linter.unusedSimpArgs false
namespace Go.Proofs.YtggchkddmihobaaGreatDoor
open Go Go.Proofs Go.RowKit
/-- But for some blocks nothing has changed. -/
structure Fr (M : Nat → Prop) (w w' : World) : Prop where
  os : w'.os = w.os
  tape : w'.tape = w.tape
  output : w'.output = w.output
  size : w.heap.size ≤ w'.heap.size
  block : ∀ k, k < w.heap.size → ¬ M k → w'.heap[k]? = w.heap[k]?
theorem Fr.refl (M : Nat → Prop) (w : World) : Fr M w w := ⟨rfl, rfl, rfl, Nat.le_refl _, fun _ _ _ => rfl⟩
theorem Fr.trans {M M' : Nat → Prop} {a b c : World} (h : Fr M a b) (k : Fr M' b c) (hM : ∀ x, M' x → M x ∨ a.heap.size ≤ x) : Fr M a c :=
  ⟨k.os.trans h.os, k.tape.trans h.tape, k.output.trans h.output, Nat.le_trans h.size k.size, fun i hi hm =>
    (k.block i (Nat.lt_of_lt_of_le hi h.size) (fun u => (hM i u).elim hm (fun g => by omega))).trans (h.block i hi hm)⟩
theorem Fr.mono {M M' : Nat → Prop} {w w' : World} (h : Fr M w w') (hM : ∀ x, x < w.heap.size → M x → M' x) : Fr M' w w' :=
  ⟨h.os, h.tape, h.output, h.size, fun k hk hm => h.block k hk (fun u => hm (hM k hk u))⟩
theorem Fr.below {M : Nat → Prop} {w w' : World} (h : Fr M w w') {B : Nat} (hB : B ≤ w.heap.size) (hM : ∀ x, M x → B ≤ x) : Below B w w' :=
  ⟨h.os, h.tape, h.output, h.size, fun k hk => h.block k (Nat.lt_of_lt_of_le hk hB) (fun u => by have := hM k u; omega)⟩
theorem Fr.of_below {M : Nat → Prop} {w w' : World} (h : Below w.heap.size w w') : Fr M w w' := ⟨h.os, h.tape, h.output, h.size, fun k hk _ => h.block k hk⟩
theorem Fr.of_grown {M : Nat → Prop} {w w' : World} {row : Option Nat} (h : w.grownBy w' row) (hM : ∀ x, row = some x → M x) : Fr M w w' :=
  ⟨h.os, h.tape, h.output, h.size, fun k hk hm => h.block k hk (fun u => hm (hM k u.symm))⟩
theorem Fr.alloc {M : Nat → Prop} {w w' : World} (h : Fr M w w') (o : Obj) : Fr M w (w'.alloc o) :=
  ⟨h.os, h.tape, h.output, by have := h.size; simp only [World.size_alloc]; omega, fun k hk hm => (Below.heap_alloc w' o k (Nat.lt_of_lt_of_le hk h.size)).trans (h.block k hk hm)⟩
theorem Fr.set {M : Nat → Prop} {w w' : World} (h : Fr M w w') (p : Addr) (u : Value) (hp : M p.block ∨ w.heap.size ≤ p.block) : Fr M w (w'.setCell p u) :=
  ⟨h.os, h.tape, h.output, by have := h.size; simpa using this, fun k hk hm => (heap_setCell_other w' p k u (fun e => hp.elim (fun g => hm (e ▸ g)) (fun g => by subst e; omega))).trans (h.block k hk hm)⟩
theorem Fr.drew {M : Nat → Prop} {w w' : World} (h : Fr M w w') : Fr M w w'.drew := ⟨h.os, h.tape, h.output, h.size, h.block⟩
theorem Fr.cell {M : Nat → Prop} {w w' : World} (h : Fr M w w') {p : Addr} {v : Value} (hc : w.cell? p = some v) (hm : ¬ M p.block) : w'.cell? p = some v :=
  (World.cell?_of_block (h.block p.block (World.block_lt_of_cell? w p hc) hm)).trans hc
theorem ownsRow_fr {M : Nat → Prop} {w w' : World} (h : Fr M w w') {base : Nat} {e : TypeId} {s : Nat} {v : Value} {n : Nat} {xs : List Value} (ho : w.ownsRow base e s v n xs)
    (hm : ∀ b, v.ownBlock = some b → ¬ M b) : w'.ownsRow base e s v n xs := by
  refine ⟨ho.1, ?_⟩
  rcases ho.2 with hn | ⟨g, cap, cur, rfl, hb, hgg, rest⟩
  · exact .inl hn
  · exact .inr ⟨g, cap, cur, rfl, hb, (h.block g (Array.getElem?_eq_some_iff.1 hgg).1 (hm g rfl)).trans hgg, rest⟩

theorem below_drewN {B : Nat} {a w : World} (h : Below B a w) (n : Nat) : Below B a (w.drewN n) := ⟨h.os, h.tape, h.output, h.size, h.block⟩
theorem own_form {w : World} {base : Nat} {e : TypeId} {size : Nat} {v : Value} {n : Nat} {xs : List Value} (h : w.ownsRow base e size v n xs) : ∃ A c, v = .slice A n c := by
  rcases h.2 with ⟨rfl, rfl⟩ | ⟨g, cap, cur, rfl, _⟩
  · exact ⟨_, _, rfl⟩
  · exact ⟨_, _, rfl⟩
theorem info76 : (Tryz.prog.info? 76).map (fun i => (i.zero, i.size, i.bytes)) = some (some (.agg #[.int .i64 0, .pointer none, .pointer none]), 3, 24) := by kernel_rfl
/-- A part as it lies: its level, where its head lies, and where what is told of a variable does. -/
abbrev Prt := Int × Option Addr × Option Addr
def prtC (x : Prt) : List Value := [.int .i64 x.1, .pointer x.2.1, .pointer x.2.2]
theorem prtC_len (l : List Prt) : (l.flatMap prtC).length = l.length * 3 := by
  induction l with
  | nil => rfl
  | cons x r ih => simp only [List.flatMap_cons, List.length_append, ih, List.length_cons]; show 3 + _ = _; omega
theorem prtC_one (l : List Prt) : ∀ u ∈ l.flatMap prtC, u.oneCell' = true := by
  intro u hu
  obtain ⟨x, _, hx⟩ := List.mem_flatMap.1 hu
  simp only [prtC, List.mem_cons, List.not_mem_nil, or_false] at hx
  rcases hx with rfl | rfl | rfl <;> rfl
theorem prtC_get : ∀ (l : List Prt) (i : Nat) (x : Prt), l[i]? = some x → ∀ j u, (prtC x)[j]? = some u → (l.flatMap prtC)[i * 3 + j]? = some u
  | [], i, x, h, _, _, _ => by simp at h
  | y :: r, 0, x, h, j, u, hu => by
    simp at h; subst h
    have hj : j < 3 := (List.getElem?_eq_some_iff.1 hu).1
    rw [List.flatMap_cons, Nat.zero_mul, Nat.zero_add, List.getElem?_append_left hj]; exact hu
  | y :: r, i + 1, x, h, j, u, hu => by
    rw [List.flatMap_cons, List.getElem?_append_right (by show 3 ≤ _; omega)]
    show (r.flatMap prtC)[(i + 1) * 3 + j - 3]? = _
    rw [show (i + 1) * 3 + j - 3 = i * 3 + j by omega]
    exact prtC_get r i x (by simpa using h) j u hu
structure Ar (w : World) (base a : Nat) (most : Int) (m : Nat) (v : Value) (l : List Prt) : Prop where
  blk : Blk w a 69 #[.int .i64 most, v, .map (some m)]
  own : w.ownsRow base 76 3 v l.length (l.flatMap prtC)
  ne : v.ownBlock ≠ some a
def ArM (a : Nat) (v : Value) (b : Nat) : Prop := b = a ∨ v.ownBlock = some b
abbrev arP (a : Nat) : Value := .pointer (some ⟨a, 0, none⟩)
theorem Ar.fr {M : Nat → Prop} {w w' : World} {base a : Nat} {most : Int} {m : Nat} {v : Value} {l : List Prt} (h : Ar w base a most m v l) (hf : Fr M w w') (hm : ∀ b, ArM a v b → ¬ M b) : Ar w' base a most m v l :=
  ⟨(hf.block a h.blk.lt (hm a (.inl rfl))).trans h.blk, ownsRow_fr hf h.own (fun b hb => hm b (.inr hb)), h.ne⟩
theorem Ar.below {w w' : World} {base a : Nat} {most : Int} {m : Nat} {v : Value} {l : List Prt} (h : Ar w base a most m v l) (hb : Below w.heap.size w w') : Ar w' base a most m v l :=
  h.fr (M := fun _ => False) (Fr.of_below hb) (fun _ _ h => h)
section
variable {w : World} {base a : Nat} {most : Int} {m : Nat} {v : Value} {l : List Prt}
theorem len_any (h : Ar w base a most m v l) : Calls Tryz.prog 11 #[arP a] w fun e w' => e = .returned (.int .i64 (l.length : Int)) ∧ w = w' := by
  obtain ⟨A, c, rfl⟩ := own_form h.own
  have c1 := h.blk.cell 1
  simp only [List.getElem?_toArray, List.getElem?_cons_zero, List.getElem?_cons_succ] at c1
  clear h
  go_enter Tryz.func11, Tryz.ntmps11
  go_wp2
  go_ret
  exact ⟨rfl, rfl⟩
def hasB (n : Nat) (i : Int) : Bool := decide (0 ≤ i) && decide (i < (n : Int))
theorem has_any (h : Ar w base a most m v l) (i : Int) : Calls Tryz.prog 31 #[arP a, .int .i64 i] w fun e w' => e = .returned (.bool (hasB l.length i)) ∧ w = w' := by
  have cl := len_any h
  clear h
  obtain ⟨r, hr⟩ : ∃ r, hasB l.length i = r := ⟨_, rfl⟩
  rw [hr]
  have HR := Lib.hid hr
  clear hr
  by_cases h0 : 0 ≤ i
  · go_enter Tryz.func31, Tryz.ntmps31
    go_wp2_with (go_at_call 11; refine cl.mono ?_; rintro e w' ⟨rfl, rfl⟩)
    go_ret
    refine ⟨?_, rfl⟩
    rw [← HR.out]
    simp [hasB, h0]
  · go_enter Tryz.func31, Tryz.ntmps31
    go_wp2
    go_ret
    refine ⟨?_, rfl⟩
    rw [← HR.out]
    simp [hasB]; omega
theorem level_any (h : Ar w base a most m v l) (i : Nat) (x : Prt) (hx : l[i]? = some x) : Calls Tryz.prog 14 #[arP a, .int .i64 (i : Int)] w fun e w' => e = .returned (.int .i64 x.1) ∧ w = w' := by
  have ch := has_any h i
  have hil := (List.getElem?_eq_some_iff.1 hx).1
  have hb : hasB l.length i = true := by simp [hasB]; omega
  rw [hb] at ch
  obtain ⟨g, cap, e1, _, _⟩ := h.own.form (by omega)
  subst e1
  have c1 := h.blk.cell 1
  simp only [List.getElem?_toArray, List.getElem?_cons_zero, List.getElem?_cons_succ] at c1
  have s0 := (h.own.cellAt (i * 3) (by omega)).trans (prtC_get l i x hx 0 _ rfl)
  have u1 : (0 : Int) ≤ (i : Int) := by omega
  have u2 : (i : Int) < (l.length : Int) := by omega
  clear h
  have HX := Lib.hid hx
  clear hx hb
  go_enter Tryz.func14, Tryz.ntmps14
  go_wp2_with (go_at_call 31; refine ch.mono ?_; rintro e w' ⟨rfl, rfl⟩)
  go_ret
  exact ⟨rfl, rfl⟩
def PutPost (w : World) (base a : Nat) (most : Int) (m : Nat) (v : Value) (l ns : List Prt) (e : Ending) (w' : World) : Prop :=
  if (l.length + ns.length : Nat) ≤ most then e = .returned (.tuple #[.int .i64 (l.length : Int), .int .i64 0]) ∧ ∃ v', Ar w' base a most m v' (l ++ ns) ∧ Fr (ArM a v) w w' ∧ (v'.ownBlock = v.ownBlock ∨ ∃ g, v'.ownBlock = some g ∧ w.heap.size ≤ g)
  else e = .returned (.tuple #[.int .i64 0, .int .i64 12]) ∧ Below w.heap.size w w'
theorem PutPost.yes {most : Int} {v : Value} {l ns : List Prt} {w w' : World} {e : Ending} (h : (l.length + ns.length : Nat) ≤ most) (k : PutPost w base a most m v l ns e w') :
    e = .returned (.tuple #[.int .i64 (l.length : Int), .int .i64 0]) ∧ ∃ v', Ar w' base a most m v' (l ++ ns) ∧ Fr (ArM a v) w w' ∧ (v'.ownBlock = v.ownBlock ∨ ∃ g, v'.ownBlock = some g ∧ w.heap.size ≤ g) := by
  unfold PutPost at k; rwa [if_pos h] at k
set_option maxHeartbeats 2000000 in
set_option maxRecDepth 100000 in
theorem put_any (h : Ar w base a most m v l) (hm : most ≤ 1048576) (ns : List Prt) (A : Option Addr) (c : Nat) (hl : l.length ≤ 1048576) (hns : ns.length ≤ 1048576) (hR : RdAt w A (ns.flatMap prtC)) (hb : base ≤ w.heap.size) (h0 : 0 ≤ most) :
    Calls Tryz.prog 29 #[arP a, .slice A ns.length c] w (PutPost w base a most m v l ns) := by
  obtain ⟨i0, hi, hz0, hz1, hz2⟩ := info_parts info76
  obtain ⟨B, cb, rfl⟩ := own_form h.own
  have c0 := h.blk.cell 0
  have c1 := h.blk.cell 1
  simp only [List.getElem?_toArray, List.getElem?_cons_zero, List.getElem?_cons_succ] at c0 c1
  have f1 := h.blk.frozen 1
  have hal := h.blk.lt
  have HH := Lib.hid h
  clear h
  by_cases hlt : (l.length + ns.length : Nat) ≤ most
  · have d0 : decide (most - (l.length : Int) < (ns.length : Int)) = false := by simp; omega
    have hpp : ∀ e w', (e = .returned (.tuple #[.int .i64 (l.length : Int), .int .i64 0]) ∧ ∃ v', Ar w' base a most m v' (l ++ ns) ∧ Fr (ArM a (.slice B l.length cb)) w w' ∧ (v'.ownBlock = (Value.slice B l.length cb).ownBlock ∨ ∃ g, v'.ownBlock = some g ∧ w.heap.size ≤ g)) → PutPost w base a most m (.slice B l.length cb) l ns e w' := by
      intro e w' k; unfold PutPost; rwa [if_pos hlt]
    have HPP := Lib.hid hpp
    clear hpp
    have HL := Lib.hid hlt
    clear hlt
    go_enter Tryz.func29, Tryz.ntmps29
    go_wp2
    go_quiet (fail)
    have hW : Ar (w.drewN nq) base a most m (.slice B l.length cb) l := ⟨HH.out.blk.drewN nq, HH.out.own, HH.out.ne⟩
    have hF : Fr (ArM a (.slice B l.length cb)) w (w.drewN nq) := ⟨rfl, rfl, rfl, Nat.le_refl _, fun _ _ _ => rfl⟩
    have hR' : RdAt (w.drewN nq) A (ns.flatMap prtC) := hR
    have hs' : (w.drewN nq).heap.size = w.heap.size := rfl
    have c1' : (w.drewN nq).cell? ⟨a, 1, none⟩ = some (.slice B l.length cb) := c1
    have f1' : (w.drewN nq).frozen? ⟨a, 1, none⟩ = false := f1
    have hb' : base ≤ (w.drewN nq).heap.size := hb
    generalize w.drewN nq = W at *
    have HW := Lib.hid hW
    have HO := Lib.hid hW.own
    have HF := Lib.hid hF
    have HS := Lib.hid hs'
    clear c0 c1 f1 hW hF hs' d0 hR HH hb
    go_wp2_with (at_builtin; go_loud (refine wpList_app _ rfl _ _ 67 rfl base 76 i0 _ 3 24 Tryz.underlying67 hi hz0 hz1 hz2 rfl (by decide) _ _ _ rfl HO.out A ns.length c (ns.flatMap prtC) rfl (prtC_len ns) hR' (prtC_one ns) (by unfold maxLen; omega) (by omega) hb' ?_; intro v' w2 hown2 hgrow2 hbk2; obtain ⟨A', n', e'⟩ := own_form hown2; subst e'; have HB2 := Lib.hid (HW.out.blk.grown hgrow2 (fun u => HW.out.ne u.symm)); have c2 := HB2.out.cell 1; have f2 := HB2.out.frozen 1; simp only [List.getElem?_toArray, List.getElem?_cons_zero, List.getElem?_cons_succ] at c2; have HN2 := Lib.hid hown2; have HG2 := Lib.hid hgrow2; have HK2 := Lib.hid hbk2; clear hown2 hgrow2 hbk2))
    go_ret2
    have hsz : W.heap.size = w.heap.size := HS.out
    have hne : (Value.slice A' (l.length + ns.length) n').ownBlock ≠ some a := by
      intro u
      rcases HK2.out with k | k
      · rw [k] at u; exact HW.out.ne u
      · rw [k] at u; injection u with u; omega
    have hf2 : Fr (ArM a (.slice B l.length cb)) W w2 := Fr.of_grown HG2.out (fun x hx => .inr hx)
    have hfs : Fr (· = a) w2 (w2.setCell ⟨a, 1, none⟩ (.slice A' (l.length + ns.length) n')) := (Fr.refl _ w2).set _ _ (.inl rfl)
    refine HPP.out _ _ ⟨rfl, .slice A' (l.length + ns.length) n', ⟨HB2.out.set_ 1 _, ?_, hne⟩, ?_, ?_⟩
    · rw [List.flatMap_append, List.length_append]
      exact ownsRow_fr hfs HN2.out (fun b hb u => hne (by rw [hb, u]))
    · exact (HF.out.trans hf2 (fun x hx => .inl hx)).trans hfs (fun x hx => .inl (.inl hx))
    · rcases HK2.out with k | k
      · exact .inl k
      · exact .inr ⟨_, k, by omega⟩
  · have d0 : decide (most - (l.length : Int) < (ns.length : Int)) = true := by simp; omega
    go_enter Tryz.func29, Tryz.ntmps29
    go_wp2
    go_quiet (fail)
    go_wp2
    go_ret2
    unfold PutPost
    rw [if_neg (by omega)]
    exact ⟨rfl, below_drewN (Below.refl _ _) _⟩
theorem rd_prt (w : World) (x : Prt) : RdAt (w.alloc (.cells (prtC x).toArray 76)) (some ⟨w.heap.size, 0, none⟩) ([x].flatMap prtC) := .inr ⟨_, _, rfl, fun j u hu => by
  rw [(Blk.new w 76 (prtC x).toArray).cell (0 + j), Nat.zero_add]
  simpa using hu⟩
set_option maxHeartbeats 2000000 in
set_option maxRecDepth 100000 in
theorem var_any (h : Ar w base a most m v l) (hm : most ≤ 1048576) (n : Int) (hn : 0 ≤ n) (hl : l.length ≤ 1048576) (hb : base ≤ w.heap.size) (hlt : (l.length + 1 : Nat) ≤ most) :
    Calls Tryz.prog 10 #[arP a, .int .i64 n] w fun e w' => e = .returned (.tuple #[.int .i64 (l.length : Int), .int .i64 0]) ∧ ∃ v' g, Ar w' base a most m v' (l ++ [(n, none, some ⟨g, 0, none⟩)]) ∧ Fr (ArM a v) w w' ∧ w.heap.size ≤ g ∧ Blk w' g 73 #[.slice none 0 0, .slice none 0 0] ∧ ¬ ArM a v' g ∧ (v'.ownBlock = v.ownBlock ∨ ∃ g, v'.ownBlock = some g ∧ w.heap.size ≤ g) := by
  obtain ⟨W1, hW1⟩ : ∃ W1, w.alloc (.cells #[.slice none 0 0, .slice none 0 0] 73) = W1 := ⟨_, rfl⟩
  obtain ⟨W2, hW2⟩ : ∃ W2, W1.alloc (.cells #[.int .i64 n, .pointer none, .pointer (some ⟨w.heap.size, 0, none⟩)] 76) = W2 := ⟨_, rfl⟩
  have hb1 : Below w.heap.size w W1 := by rw [← hW1]; exact (Below.refl _ _).alloc (Nat.le_refl _) _
  have hb2 : Below W1.heap.size W1 W2 := by rw [← hW2]; exact (Below.refl _ _).alloc (Nat.le_refl _) _
  have hb12 : Below w.heap.size w W2 := hb1.trans (hb2.mono hb1.size)
  have hs1 : W1.heap.size = w.heap.size + 1 := by rw [← hW1]; simp
  have hs2 : W2.heap.size = w.heap.size + 2 := by rw [← hW2]; simp [hs1]
  have hX : Blk W2 w.heap.size 73 #[.slice none 0 0, .slice none 0 0] := by
    have : Blk W1 w.heap.size 73 #[.slice none 0 0, .slice none 0 0] := by rw [← hW1]; exact Blk.new w 73 _
    exact this.below hb2 (by omega)
  have hR : RdAt W2 (some ⟨W1.heap.size, 0, none⟩) ([((n, none, some ⟨w.heap.size, 0, none⟩) : Prt)].flatMap prtC) := by rw [← hW2]; exact rd_prt W1 _
  have cP := put_any (h.below hb12) hm [(n, none, some ⟨w.heap.size, 0, none⟩)] (some ⟨W1.heap.size, 0, none⟩) 1 hl (by simp) hR (Nat.le_trans hb hb12.size) (by omega)
  rw [hs1] at cP
  have hal := h.blk.lt
  have HV := Lib.hid (fun g hg => (World.ownsRow.lt h.own g hg).2)
  have HB := Lib.hid hb12
  have HX := Lib.hid hX
  have HS := Lib.hid hs2
  clear hb1 hb2 hb12 hX hR h hs2
  go_enter Tryz.func10, Tryz.ntmps10
  go_wp2_with fail
  refine cP.mono ?_
  intro e w' hp
  obtain ⟨rfl, v', hA, hF, hv⟩ := hp.yes (by simpa using hlt)
  have HA := Lib.hid hA
  have HF := Lib.hid hF
  have HVV := Lib.hid hv
  clear hA hF hv hp cP
  go_wp2
  go_ret2
  have hs : W2.heap.size = w.heap.size + 2 := HS.out
  have hng : ¬ ArM a v w.heap.size := by
    rintro (u | u)
    · omega
    · have := HV.out _ u; omega
  have hX' : Blk w' w.heap.size 73 #[.slice none 0 0, .slice none 0 0] := (HF.out.block _ HX.out.lt hng).trans HX.out
  refine ⟨rfl, v', w.heap.size, HA.out, ?_, Nat.le_refl _, hX', ?_, ?_⟩
  · exact (Fr.of_below HB.out : Fr (ArM a v) w W2).trans HF.out (fun x hx => .inl hx)
  · rintro (u | u)
    · omega
    · rcases HVV.out with k | ⟨g, k, k2⟩
      · rw [k] at u; exact hng (.inr u)
      · rw [k] at u; injection u with u; omega
  · rcases HVV.out with k | ⟨g, k, k2⟩
    · exact .inl k
    · exact .inr ⟨g, k, by omega⟩
set_option maxHeartbeats 2000000 in
set_option maxRecDepth 100000 in
theorem new_any (most : Int) (w : World) (base : Nat) (h1 : 1 ≤ most) (h2 : most ≤ 1048576) (hb : base ≤ w.heap.size) :
    Calls Tryz.prog 9 #[.int .i64 most] w fun e w' => ∃ a m, e = .returned (.tuple #[arP a, .int .i64 0]) ∧ Ar w' base a most m (.slice none 0 0) [] ∧ Below w.heap.size w w' ∧ w.heap.size ≤ a ∧ w'.heap[m]? = some (.map #[] 0) ∧ w.heap.size ≤ m := by
  have hmm := @run_makeMap Tryz.prog
  have d1 : decide (most < 1) = false := by simp; omega
  have d2 : decide (1048576 < most) = false := by simp; omega
  go_enter Tryz.func9, Tryz.ntmps9
  go_wp2
  go_ret2
  refine ⟨w.heap.size + 1, w.heap.size, rfl, ⟨?_, World.ownsRow_nil _ _ _ _, by intro u; cases u⟩, ((Below.refl _ _).alloc (Nat.le_refl _) _).alloc (by simp) _, by omega, ?_, Nat.le_refl _⟩
  · have := Blk.new (w.alloc (Obj.map #[] 0)) 69 #[.int .i64 most, .slice none 0 0, .map (some w.heap.size)]
    rwa [World.size_alloc] at this
  · exact (Below.heap_alloc (w.alloc (Obj.map #[] 0)) _ w.heap.size (by simp)).trans (World.alloc_heap_new w _)
end
end Go.Proofs.YtggchkddmihobaaGreatDoor
