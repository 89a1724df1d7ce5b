/- A copy of a row of aliases; a tree of a call's own reads as a tree. -/
import Derived.Test.YtidmeodmkcomlaaGreatDoorOwn3
import Derived.Test.YtidmeodmkcomlaaGreatDoorCopyB
namespace Go.Proofs.YtidmeodmkcomlaaGreatDoor
open Go Go.Proofs Go.RowKit

theorem flat_get {α : Type} (f : α → List Value) (s : Nat) (hf : ∀ a, (f a).length = s) : ∀ (l : List α) (i : Nat) (a : α) (j : Nat), l[i]? = some a → j < s → (l.flatMap f)[i * s + j]? = (f a)[j]?
  | [], i, a, j, h, _ => by simp at h
  | b :: l, 0, a, j, h, hj => by
    simp only [List.getElem?_cons_zero, Option.some.injEq] at h
    subst h
    rw [List.flatMap_cons, Nat.zero_mul, Nat.zero_add, List.getElem?_append_left (by rw [hf]; exact hj)]
  | b :: l, i + 1, a, j, h, hj => by
    simp only [List.getElem?_cons_succ] at h
    rw [List.flatMap_cons, List.getElem?_append_right (by rw [hf, Nat.add_mul]; omega), hf, ← flat_get f s hf l i a j h hj]
    congr 1
    rw [Nat.add_mul]; omega
theorem flat_len {α : Type} (f : α → List Value) (s : Nat) (hf : ∀ a, (f a).length = s) (l : List α) : (l.flatMap f).length = l.length * s := by
  induction l with
  | nil => simp
  | cons a l ih => rw [List.flatMap_cons, List.length_append, hf, ih, List.length_cons, Nat.add_mul]; omega

theorem own_form {w : World} {base : Nat} {e : TypeId} {s : Nat} {v : Value} {n : Nat} {xs : List Value} (h : w.ownsRow base e s v n xs) : ∃ A c, v = .slice A n c := by
  rcases h.2 with ⟨rfl, rfl⟩ | ⟨g, cap, cur, rfl, _⟩
  · exact ⟨_, _, rfl⟩
  · exact ⟨_, _, rfl⟩
/-- A row of structs reads element by element. -/
theorem own_at {α : Type} (f : α → List Value) (s : Nat) (_ : 0 < s) (hf : ∀ a, (f a).length = s) {w : World} {base : Nat} {e : TypeId} {A : Option Addr} {n c : Nat} {l : List α} (hn : l.length = n) (h : w.ownsRow base e s (.slice A n c) n (l.flatMap f)) (hl : 0 < l.length) :
    ∃ g, A = some ⟨g, 0, none⟩ ∧ base ≤ g ∧ g < w.heap.size ∧ ∀ (i : Nat) (a : α), l[i]? = some a → ∀ (j : Nat) (u : Value), (f a)[j]? = some u → w.cell? ⟨g, 0 + i * s + j, none⟩ = some u := by
  rcases h.2 with ⟨_, h0⟩ | ⟨g, cap, cur, hv, hb, hh, hnc, hcm, hsz, hx⟩
  · omega
  · injection hv with hA _ _
    subst hA
    refine ⟨g, rfl, hb, ?_, fun i a hi j u hu => ?_⟩
    · rcases Nat.lt_or_ge g w.heap.size with hlt | hge
      · exact hlt
      · rw [Array.getElem?_eq_none hge] at hh; cases hh
    · have hj : j < s := by have := (List.getElem?_eq_some_iff.1 hu).1; rw [hf] at this; exact this
      have hil : i < l.length := (List.getElem?_eq_some_iff.1 hi).1
      have hle : i * s + j < n * s := by
        have : (i + 1) * s ≤ n * s := Nat.mul_le_mul_right s (by omega)
        rw [Nat.add_mul] at this; omega
      rw [cell_of_row w g (0 + i * s + j) cur e (0, 0) hh, Nat.zero_add]
      have hg := flat_get f s hf l i a j hi hj
      rw [hu, ← hx, List.getElem?_take_of_lt hle] at hg
      simpa using hg

theorem TreeOwn.at_ {w : World} {base cb : Nat} {ty : TypeId} {v1 v2 v3 : Value} {r1 : List (TermD × Ptr3)} {r2 : List (TypD × Ptr2)} {r3 : List AliD} (h : TreeOwn w base cb ty v1 v2 v3 r1 r2 r3) :
    ∃ p : Ptr6, v1 = .slice p.a1 r1.length p.c1 ∧ v2 = .slice p.a2 r2.length p.c2 ∧ v3 = .slice p.a3 r3.length p.c3 ∧ TreeAt (fun b => base ≤ b ∧ b < w.heap.size) w ⟨r1.map (·.1), r2.map (·.1), r3⟩ p := by
  obtain ⟨A1, c1, rfl⟩ := own_form h.o1
  obtain ⟨A2, c2, rfl⟩ := own_form h.o2
  obtain ⟨A3, c3, rfl⟩ := own_form h.o3
  refine ⟨⟨A1, c1, A2, c2, A3, c3⟩, rfl, rfl, rfl, fun hl => ?_, fun hl => ?_, fun hl => ?_⟩
  · obtain ⟨g, hA, hb, hg, hc⟩ := own_at (fun x : TermD × Ptr3 => termCells x.1 x.2) 8 (by decide) (fun a => rfl) rfl h.o1 (by simpa using hl)
    refine ⟨g, 0, hA, ⟨hb, hg⟩, fun i t ht => ?_⟩
    simp only [List.getElem?_map, Option.map_eq_some_iff] at ht
    obtain ⟨x, hx, rfl⟩ := ht
    exact ⟨x.2, (h.k1 x (List.mem_of_getElem? hx)).imp (fun b k => ⟨k.1, k.2.1⟩), hc i x hx⟩
  · obtain ⟨g, hA, hb, hg, hc⟩ := own_at (fun x : TypD × Ptr2 => typCells x.1 x.2) 6 (by decide) (fun a => rfl) rfl h.o2 (by simpa using hl)
    refine ⟨g, 0, hA, ⟨hb, hg⟩, fun i t ht => ?_⟩
    simp only [List.getElem?_map, Option.map_eq_some_iff] at ht
    obtain ⟨x, hx, rfl⟩ := ht
    exact ⟨x.2, (h.k2 x (List.mem_of_getElem? hx)).imp (fun b k => ⟨k.1, k.2.1⟩), hc i x hx⟩
  · obtain ⟨g, hA, hb, hg, hc⟩ := own_at aliCells 3 (by decide) (fun a => rfl) rfl h.o3 (by simpa using hl)
    exact ⟨g, 0, hA, ⟨hb, hg⟩, fun i t ht => hc i t ht⟩

theorem info52 : (Tryz.prog.info? 44).map (fun i => (i.zero, i.size, i.bytes)) = some (some (.agg #[.string ByteArray.empty, .int .i64 0, .int .i64 0]), 3, 32) := by kernel_rfl
theorem info33 : (Tryz.prog.info? 38).map (fun i => (i.zero, i.size, i.bytes)) = some (some (.agg #[.int .i64 0, .int .i64 0, .string ByteArray.empty, .int .i64 0, .int .u64 0, .slice none 0 0, .slice none 0 0, .slice none 0 0]), 8, 120) := by kernel_rfl
theorem info47 : (Tryz.prog.info? 40).map (fun i => (i.zero, i.size, i.bytes)) = some (some (.agg #[.int .i64 0, .int .i64 0, .string ByteArray.empty, .slice none 0 0, .slice none 0 0, .bool false]), 6, 88) := by kernel_rfl

def CopyAPost (w : World) (l : List AliD) (e : Ending) (w' : World) : Prop := ∃ v, e = .returned v ∧ w'.ownsRow w.heap.size 44 3 v l.length (alCells l) ∧ Below w.heap.size w w'
theorem alis_rd {Pb : Nat → Prop} {w : World} {A : Option Addr} {l : List AliD} (h : AlisAt Pb w A l) : RdAt w A (alCells l) := by
  rcases Nat.eq_zero_or_pos l.length with h0 | h0
  · have : l = [] := List.eq_nil_of_length_eq_zero h0
    subst this
    exact .inl rfl
  · obtain ⟨b, off, e, _, hc⟩ := h h0
    refine .inr ⟨b, off, e, fun j u hu => ?_⟩
    have hj := (List.getElem?_eq_some_iff.1 hu).1
    rw [flat_len aliCells 3 (fun a => rfl)] at hj
    have hi : j / 3 < l.length := by omega
    have hg := flat_get aliCells 3 (fun a => rfl) l (j / 3) l[j / 3] (j % 3) (List.getElem?_eq_getElem hi) (by omega)
    rw [show j / 3 * 3 + j % 3 = j by omega, hu] at hg
    have := hc (j / 3) _ (List.getElem?_eq_getElem hi) (j % 3) u hg.symm
    rw [show off + j / 3 * 3 + j % 3 = off + j by omega] at this
    exact this

set_option maxHeartbeats 1000000 in
theorem copyA_any (A : Option Addr) (c : Nat) (l : List AliD) (w : World) (hS : RdAt w A (alCells l)) (hn : l.length ≤ 65536) : Calls Tryz.prog 111 #[.slice A l.length c] w (CopyAPost w l) := by
  obtain ⟨i0, hi, hz0, hz1, hz2⟩ := info_parts info52
  have hfl := flat_len aliCells 3 (fun a => rfl) l
  have h1c : ∀ u ∈ alCells l, u.oneCell' = true := fun u hu => by
    obtain ⟨a, _, ha⟩ := List.mem_flatMap.1 hu
    simp only [aliCells, List.mem_cons, List.not_mem_nil, or_false] at ha
    rcases ha with rfl | rfl | rfl <;> rfl
  go_enter Tryz.func111, Tryz.ntmps111
  go_wp2_with (at_builtin; refine wpList_app _ rfl _ _ 25 rfl w.heap.size 44 i0 _ 3 32 Tryz.underlying25 hi hz0 hz1 hz2 rfl (by decide) (.slice none 0 0) 0 [] rfl (World.ownsRow_nil _ _ _ _) A l.length c (alCells l) rfl hfl hS h1c (by unfold maxLen; omega) (by omega) (Nat.le_refl _) ?_; intro v' w2 hown2 hgrow2 hloc2)
  go_ret
  rw [Nat.zero_add, List.nil_append] at hown2
  exact ⟨_, rfl, hown2, hgrow2.os, hgrow2.tape, hgrow2.output, hgrow2.size, fun i hi => hgrow2.block i hi (by simp [Value.ownBlock])⟩
end Go.Proofs.YtidmeodmkcomlaaGreatDoor
