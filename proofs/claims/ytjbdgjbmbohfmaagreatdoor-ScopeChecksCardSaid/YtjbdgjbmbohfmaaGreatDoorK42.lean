/- The iterators over a row of numbers, forward and backward, at every row, for every loop body. What an iterator over a row of numbers tells, collected; how the -/
import Derived.Test.YtjbdgjbmbohfmaaGreatDoorK41
namespace Go.Proofs.YtjbdgjbmbohfmaaGreatDoor
open Go Go.Proofs Go.RowKit Go.Shelf
attribute [local go_sem] Oper.semAt_some

/-- What a round keeps: the row's block, and the iterator's box. -/
def Kq (b Bs : Nat) (W W' : World) : Prop := W.heap.size ≤ W'.heap.size ∧ ∀ k, k = b ∨ k = Bs → W'.heap[k]? = W.heap[k]?
theorem Kq.refl (b Bs : Nat) (W : World) : Kq b Bs W W := ⟨Nat.le_refl _, fun _ _ => rfl⟩
theorem Kq.trans {b Bs : Nat} {A B C : World} (h : Kq b Bs A B) (k : Kq b Bs B C) : Kq b Bs A C := ⟨Nat.le_trans h.1 k.1, fun i hi => (k.2 i hi).trans (h.2 i hi)⟩
theorem Kq.cell {b Bs k o : Nat} {A B : World} (h : Kq b Bs A B) (hk : k = b ∨ k = Bs) : B.cell? ⟨k, o, none⟩ = A.cell? ⟨k, o, none⟩ := World.cell?_of_block (a := ⟨k, o, none⟩) (h.2 k hk)

/-- Places and numbers, from the last one on. -/
def bk (xs : List Int) : List (Int × Int) := (List.range xs.length).reverse.map fun i : Nat => ((i : Int), xs.getD i 0)
attribute [local go_sem] Oper.semAt_some

theorem Kq.of_below {b Bs n₀ : Nat} {A B : World} (h : Below n₀ A B) (hb : b < n₀) (hB : Bs < n₀) : Kq b Bs A B := ⟨h.size, fun k hk => h.block k (by omega)⟩

/-- A row named by its block. -/
theorem SlAt.named {B : Nat} {w : World} {A : Option Addr} {n : Nat} {xs : List Value} (h : SlAt (Lt B) w A n xs) (h0 : 0 < B) : ∃ b, b < B ∧ SlAt (fun k => k = b) w A n xs := by
 rcases Nat.eq_zero_or_pos n with rfl | hn
 ·have : xs = [] := List.eq_nil_of_length_eq_zero h.1
  subst this
  exact ⟨0, h0, SlAt.nil⟩
 ·obtain ⟨b, off, e, hb, hc⟩ := h.2 hn
  exact ⟨b, hb, h.1, fun _ => ⟨b, off, e, rfl, hc⟩⟩
theorem SlAt.block {b : Nat} {w w' : World} {A : Option Addr} {n : Nat} {xs : List Value} (h : SlAt (fun k => k = b) w A n xs) (hb : w'.heap[b]? = w.heap[b]?) : SlAt (fun k => k = b) w' A n xs :=
 h.keep fun k o e => by subst e; exact World.cell?_of_block (a := ⟨k, o, none⟩) hb
attribute [local go_sem] Oper.semAt_some

/-- Two rows of numbers, apart from one another. -/
def Two (w : World) (base : Nat) (v1 : Value) (xs : List Int) (v2 : Value) (ys : List Int) : Prop :=
 w.ownsRow base 3 1 v1 xs.length (xs.map iv) ∧ w.ownsRow base 3 1 v2 ys.length (ys.map iv) ∧ (v1.ownBlock = none ∨ v1.ownBlock ≠ v2.ownBlock)

theorem own_lt {w : World} {base : Nat} {e : TypeId} {size : Nat} {v : Value} {n : Nat} {xs : List Value} (h : w.ownsRow base e size v n xs) {g : Nat} (hg : v.ownBlock = some g) : g < w.heap.size ∧ base ≤ g := by
 rcases own_block h with h1 | ⟨g', h1, h2, h3⟩
 ·rw [h1] at hg; cases hg
 ·rw [h1] at hg; cases hg; exact ⟨h3, h2⟩

theorem own_ty {w : World} {base : Nat} {e : TypeId} {size : Nat} {v : Value} {n : Nat} {xs : List Value} (h : w.ownsRow base e size v n xs) {g : Nat} (hg : v.ownBlock = some g) : ∃ cur, w.heap[g]? = some (.cells cur e (0, 0)) := by
 rcases h.2 with ⟨rfl, _⟩ | ⟨g', cap, cur, rfl, _, hh, _⟩
 ·cases hg
 ·simp only [Value.ownBlock, Option.some.injEq] at hg
  subst hg
  exact ⟨cur, hh⟩

theorem Two.kept {w w' : World} {base : Nat} {v1 v2 : Value} {xs ys : List Int} (h : Two w base v1 xs v2 ys) {row : Option Nat} (hg : w.grownBy w' row) (hr : ∀ g, row = some g → w.heap.size ≤ g ∨ ∃ o : Obj, w.heap[g]? = some o ∧ ∀ cur, o ≠ .cells cur 3 (0, 0)) : Two w' base v1 xs v2 ys := by
 have key : ∀ {v : Value} {n : Nat} {zs : List Value}, w.ownsRow base 3 1 v n zs → v.ownBlock = none ∨ row ≠ v.ownBlock := fun {v n zs} hv => by
  rcases own_block hv with h1 | ⟨g, h1, h2, h3⟩
  ·exact .inl h1
  ·refine .inr fun e => ?_
   rw [h1] at e
   rcases hr g e with h4 | ⟨o, ho, hne⟩
   ·omega
   ·obtain ⟨cur, hc⟩ := own_ty hv h1
    rw [hc] at ho
    cases ho
    exact hne _ rfl
 have k2 : ∀ {v : Value} {n : Nat} {zs : List Value}, w.ownsRow base 3 1 v n zs → w'.ownsRow base 3 1 v n zs := fun {v n zs} hv => hv.kept hg (by
  rcases key hv with h1 | h1
  ·exact .inl h1
  ·exact .inr (fun e => h1 e.symm))
 exact ⟨k2 h.1, k2 h.2.1, h.2.2⟩

def Marks (B : Nat) (W : World) (Ds : List Nat) : Prop := Ds.Nodup ∧ ∀ D ∈ Ds, B ≤ D ∧ W.heap[D]? = some (.deferred (some []))
theorem Marks.nil (B : Nat) (W : World) : Marks B W [] := ⟨List.nodup_nil, fun _ h => by simp at h⟩
theorem Marks.lt {B : Nat} {W : World} {Ds : List Nat} (h : Marks B W Ds) : ∀ D ∈ Ds, D < W.heap.size := fun D hD => (Array.getElem?_eq_some_iff.1 (h.2 D hD).2).1
theorem Marks.kept {B : Nat} {W W' : World} {Ds : List Nat} (h : Marks B W Ds) {row : Option Nat} (hg : W.grownBy W' row) (hr : ∀ r, row = some r → W.heap.size ≤ r ∨ ∃ o : Obj, W.heap[r]? = some o ∧ ∀ c, o ≠ .deferred c) : Marks B W' Ds :=
 ⟨h.1, fun D hD => ⟨(h.2 D hD).1, (hg.block D (h.lt D hD) (fun e => by
  rcases hr D e.symm with h1 | ⟨o, ho, hne⟩
  ·have := h.lt D hD; omega
  ·rw [(h.2 D hD).2] at ho; cases ho; exact hne _ rfl)).trans (h.2 D hD).2⟩⟩
theorem Marks.cons {B D : Nat} {W : World} {Ds : List Nat} (h : Marks B W Ds) (hB : B ≤ D) (hD : W.heap[D]? = some (.deferred (some []))) (hn : ∀ E ∈ Ds, E < D) : Marks B W (D :: Ds) :=
 ⟨List.nodup_cons.2 ⟨fun hm => by have := hn D hm; omega, h.1⟩, fun E hE => by
  rcases List.mem_cons.1 hE with rfl | hE
  ·exact ⟨hB, hD⟩
  ·exact h.2 E hE⟩

/-- What lies in cells stays when the marks are taken. -/
structure Shut (B : Nat) (W W' : World) : Prop where
 below : Below B W W'
 size : W'.heap.size = W.heap.size
 cells : ∀ (k : Nat) (o : Obj), W.heap[k]? = some o → o.isCells = true → W'.heap[k]? = some o
end Go.Proofs.YtjbdgjbmbohfmaaGreatDoor
namespace Go.Proofs.YtjbdgjbmbohfmaaGreatDoor
open Go Go.Proofs Go.RowKit
abbrev RowP := Option Addr × Nat × List Int
def rowV (x : RowP) : Value := .slice x.1 x.2.2.length x.2.1
/-- A row of numbers that lies below B, or in a block of numbers. -/
def RowOk (B : Nat) (W : World) (x : RowP) : Prop := x.2.2 = [] ∨ ∃ b off, x.1 = some ⟨b, off, none⟩ ∧ b < W.heap.size ∧ (b < B ∨ ∃ cs, W.heap[b]? = some (.cells cs 3 (0, 0))) ∧ ∀ j u, (x.2.2.map iv)[j]? = some u → W.cell? ⟨b, off + j, none⟩ = some u
theorem RowOk.below {B : Nat} {W W' : World} {x : RowP} (h : RowOk B W x) (hb : Below W.heap.size W W') : RowOk B W' x := by
 rcases h with h | ⟨b, off, h1, h2, h3, h4⟩
 ·exact .inl h
 ·refine .inr ⟨b, off, h1, Nat.lt_of_lt_of_le h2 hb.size, h3.imp id (fun ⟨cs, h⟩ => ⟨cs, (hb.block b h2).trans h⟩), fun j u hu => (hb.cell (p := ⟨b, _, none⟩) h2).trans (h4 j u hu)⟩
theorem RowOk.grown {B : Nat} {W W' : World} {x : RowP} {v : Value} {n : Nat} {xs : List Value} (h : RowOk B W x) (ho : W.ownsRow B 49 1 v n xs) (hg : W.grownBy W' v.ownBlock) : RowOk B W' x := by
 rcases h with h | ⟨b, off, h1, h2, h3, h4⟩
 ·exact .inl h
 ·have hne : some b ≠ v.ownBlock := fun e => by
   rcases h3 with h3 | ⟨cs, h3⟩
   ·have := (own_lt ho e.symm).2
    omega
   ·obtain ⟨cur, hc⟩ := own_ty ho e.symm
    rw [h3] at hc
    cases hc
  have hk := hg.block b h2 hne
  exact .inr ⟨b, off, h1, Nat.lt_of_lt_of_le h2 hg.size, h3.imp id (fun ⟨cs, h⟩ => ⟨cs, hk.trans h⟩), fun j u hu => (World.cell?_of_block (a := ⟨b, off + j, none⟩) hk).trans (h4 j u hu)⟩
theorem RowOk.of_sl {B : Nat} {W : World} {A : Option Addr} {c : Nat} {ks : List Int} {Pb : Nat → Prop} (h : SlAt Pb W A ks.length (ks.map iv)) (hP : ∀ b, Pb b → b < B ∧ b < W.heap.size) : RowOk B W (A, c, ks) := by
 rcases Nat.eq_zero_or_pos ks.length with h0 | h0
 ·exact .inl (List.length_eq_zero_iff.1 h0)
 ·obtain ⟨b, off, hA, hb, hc⟩ := h.2 h0
  exact .inr ⟨b, off, hA, (hP b hb).2, .inl (hP b hb).1, hc⟩
theorem RowOk.one {B : Nat} {W : World} (z : Int) : RowOk B (W.alloc (.cells #[.int .i64 z] 3)) (some ⟨W.heap.size, 0, none⟩, 1, [z]) :=
 .inr ⟨_, _, rfl, by simp, .inr ⟨_, Blk.new W 3 _⟩, fun j u hu => by
  rcases rd_one W (.int .i64 z) 3 with h | ⟨b, off, e, h⟩
  ·cases h
  ·cases e
   exact h j u hu⟩

structure TwoR (W : World) (B : Nat) (v3 v4 : Value) (L3 L4 : List RowP) : Prop where
 o3 : W.ownsRow B 49 1 v3 L3.length (L3.map rowV)
 o4 : W.ownsRow B 49 1 v4 L4.length (L4.map rowV)
 ne : ∀ g, v3.ownBlock = some g → v4.ownBlock ≠ some g
 k3 : ∀ x ∈ L3, RowOk B W x
 k4 : ∀ x ∈ L4, RowOk B W x
theorem TwoR.swap {W : World} {B : Nat} {v3 v4 : Value} {L3 L4 : List RowP} (h : TwoR W B v3 v4 L3 L4) : TwoR W B v4 v3 L4 L3 :=
 ⟨h.o4, h.o3, fun g h4 h3 => h.ne g h3 h4, h.k4, h.k3⟩
theorem TwoR.below {W W' : World} {B : Nat} {v3 v4 : Value} {L3 L4 : List RowP} (h : TwoR W B v3 v4 L3 L4) (hb : Below W.heap.size W W') : TwoR W' B v3 v4 L3 L4 :=
 ⟨own_below h.o3 hb, own_below h.o4 hb, h.ne, fun x hx => (h.k3 x hx).below hb, fun x hx => (h.k4 x hx).below hb⟩
theorem TwoR.push {W W' : World} {B : Nat} {v3 v4 v' : Value} {L3 L4 : List RowP} {x : RowP} (h : TwoR W B v3 v4 L3 L4) (hx : RowOk B W x) (hs : B ≤ W.heap.size)
 (ho : W'.ownsRow B 49 1 v' (L3.length + 1) (L3.map rowV ++ [rowV x])) (hg : W.grownBy W' v3.ownBlock) (hl : v'.ownBlock = v3.ownBlock ∨ v'.ownBlock = some W.heap.size) :
 TwoR W' B v' v4 (L3 ++ [x]) L4 ∧ Below B W W' := by
 have hb : Below B W W' := own_grown (Below.refl B W) h.o3 hg (Nat.le_refl _) hs
 refine ⟨⟨?_, h.o4.kept hg ?_, ?_, ?_, fun y hy => (h.k4 y hy).grown h.o3 hg⟩, hb⟩
 ·rw [List.length_append, List.map_append]
  exact ho
 ·cases h4 : v4.ownBlock with
  | none => exact .inl rfl
  | some g => exact .inr fun e => h.ne g e.symm h4
 ·intro g hg' h4
  rcases hl with hl | hl
  ·exact h.ne g (hl ▸ hg') h4
  ·rw [hl] at hg'
   cases hg'
   have := (own_lt h.o4 h4).1
   omega
 ·intro y hy
  rcases List.mem_append.1 hy with hy | hy
  ·exact (h.k3 y hy).grown h.o3 hg
  ·simp only [List.mem_singleton] at hy
   subst hy
   exact hx.grown h.o3 hg
/-- The rows, to be counted. -/
theorem TwoR.rows {W : World} {B : Nat} {v3 v4 : Value} {L3 L4 : List RowP} (h : TwoR W B v3 v4 L3 L4) : ∃ A c, v3 = .slice A L3.length c ∧ RowsAt (Lt W.heap.size) W A (L3.map fun x => x.2.2) := by
 obtain ⟨A, c, hv, _, hS⟩ := SlAt.of_own h.o3
 refine ⟨A, c, hv, ?_⟩
 rcases Nat.eq_zero_or_pos L3.length with h0 | h0
 ·left
  rw [List.length_eq_zero_iff.1 h0]
  rfl
 ·obtain ⟨b, off, hA, hb, hc⟩ := hS.2 h0
  refine .inr ⟨b, off, hA, hb.2, fun i row hi => ?_⟩
  rw [List.getElem?_map] at hi
  cases hx : L3[i]? with
  | none => rw [hx] at hi; cases hi
  | some x =>
   rw [hx] at hi
   cases hi
   refine ⟨x.1, x.2.1, hc i (rowV x) (by rw [List.getElem?_map, hx]; rfl), ?_⟩
   rcases h.k3 x (List.mem_of_getElem? hx) with he | ⟨b2, off2, e1, e2, _, e4⟩
   ·dsimp only
    rw [he]
    exact ⟨rfl, fun h => absurd h (by simp)⟩
   ·exact ⟨by simp, fun _ => ⟨b2, off2, e1, e2, e4⟩⟩

/-- Each number below n is told once. -/
def Ones (n : Nat) (ks : List Int) : Prop := ∀ j, j < n → ks.count (j : Int) = 1
theorem ones_iff (n : Nat) (ks : List Int) : (∀ u ∈ ticks (List.replicate n 0) ks, u = 1) ↔ Ones n ks := by
 have hl : (ticks (List.replicate n 0) ks).length = n := by rw [ticks_len]; simp
 have hg : ∀ j (h : j < n), (ticks (List.replicate n 0) ks)[j]'(by omega) = (ks.count (j : Int) : Int) := fun j h => by
  have := ticks_get ks (List.replicate n 0) j (by simpa using h)
  rw [get0, Int.zero_add, List.getD_eq_getElem?_getD, List.getElem?_eq_getElem (by omega)] at this
  exact this
 constructor
 ·intro h j hj
  have := h _ (List.getElem_mem (by omega : j < (ticks (List.replicate n 0) ks).length))
  rw [hg j hj] at this
  omega
 ·intro h u hu
  obtain ⟨j, hj, rfl⟩ := List.getElem_of_mem hu
  rw [hg j (by omega), h j (by omega)]
  rfl
theorem count_nats {ks : List Int} (hr : ∀ k ∈ ks, 0 ≤ k) (j : Nat) : (nats ks).count j = ks.count (j : Int) := by
 induction ks with
 | nil => rfl
 | cons k ks ih =>
  have hk := hr k (by simp)
  unfold nats at *
  rw [List.map_cons, List.count_cons, List.count_cons, ih (fun x hx => hr x (by simp [hx]))]
  have : (k.toNat == j) = (k == (j : Int)) := by
   rw [Bool.eq_iff_iff, beq_iff_eq, beq_iff_eq]
   omega
  rw [this]
theorem ones_nats {n : Nat} {ks : List Int} (hr : InR ks n) : Ones n ks ↔ (nats ks).Nodup ∧ ∀ j, j < n → j ∈ nats ks := by
 have hr0 : ∀ k ∈ ks, 0 ≤ k := fun k hk => (hr k hk).1
 constructor
 ·intro h
  refine ⟨?_, fun j hj => ?_⟩
  ·rw [List.nodup_iff_count]
   intro j
   by_cases hm : j ∈ nats ks
   ·obtain ⟨z, hz, rfl⟩ := List.mem_map.1 hm
    have := hr z hz
    rw [count_nats hr0, h _ (by omega)]
    exact Nat.le_refl _
   ·rw [List.count_eq_zero_of_not_mem hm]
    omega
  ·have := h j hj
   rw [← count_nats hr0] at this
   exact List.count_pos_iff.1 (by omega)
 ·rintro ⟨h1, h2⟩ j hj
  rw [← count_nats hr0]
  have h3 := List.nodup_iff_count.1 h1 j
  have h4 := List.count_pos_iff.2 (h2 j hj)
  omega
end Go.Proofs.YtjbdgjbmbohfmaaGreatDoor
namespace Go.Proofs.YtjbdgjbmbohfmaaGreatDoor
open Go Go.Proofs Go.RowKit Go.Shelf
theorem drewN_below (w : World) (k : Nat) : Below w.heap.size w (w.drewN k) := ⟨rfl, rfl, rfl, Nat.le_refl _, fun _ _ => rfl⟩

/-- What so many bytes tell, if they were a sign. -/
def val2 (b0 b1 : Int) : Int := b0 % 32 * 64 + b1 % 64
def val3 (b0 b1 b2 : Int) : Int := b0 % 16 * 4096 + b1 % 64 * 64 + b2 % 64
def val4 (b0 b1 b2 b3 : Int) : Int := b0 % 8 * 262144 + b1 % 64 * 4096 + b2 % 64 * 64 + b3 % 64

set_option maxHeartbeats 1000000 in
theorem value1_any (b off cap : Nat) (x0 : Int) (w : World) (c0 : w.cell? ⟨b, off, none⟩ = some (.int .u8 x0)) (h0 : 0 ≤ x0) (g0 : x0 ≤ 255) :
 Calls Tryz.prog 214 #[.slice (some ⟨b, off, none⟩) 1 cap] w fun e w' => e = .returned (.int .i64 x0) ∧ w' = w := by
 go_enter Tryz.func214, Tryz.ntmps214
 go_wp2
 go_ret
 exact ⟨rfl, rfl⟩

set_option maxHeartbeats 1000000 in
theorem value2_any (b off cap : Nat) (x0 x1 : Int) (w : World) (c0 : w.cell? ⟨b, off, none⟩ = some (.int .u8 x0)) (c1 : w.cell? ⟨b, off + 1, none⟩ = some (.int .u8 x1)) (h0 : 0 ≤ x0) (g0 : x0 ≤ 255) (h1 : 0 ≤ x1) (g1 : x1 ≤ 255) :
 Calls Tryz.prog 214 #[.slice (some ⟨b, off, none⟩) 2 cap] w fun e w' => e = .returned (.int .i64 (val2 x0 x1)) ∧ Below w.heap.size w w' := by
 have mixed : Tryz.prog.follows .mixedOrders = true := by kernel_rfl
 go_enter Tryz.func214, Tryz.ntmps214
 go_wp2
 go_quiet (fail)
 go_wp2
 go_ret
 exact ⟨rfl, drewN_below _ _⟩

set_option maxHeartbeats 1000000 in
theorem value3_any (b off cap : Nat) (x0 x1 x2 : Int) (w : World) (c0 : w.cell? ⟨b, off, none⟩ = some (.int .u8 x0)) (c1 : w.cell? ⟨b, off + 1, none⟩ = some (.int .u8 x1)) (c2 : w.cell? ⟨b, off + 2, none⟩ = some (.int .u8 x2))
 (h0 : 0 ≤ x0) (g0 : x0 ≤ 255) (h1 : 0 ≤ x1) (g1 : x1 ≤ 255) (h2 : 0 ≤ x2) (g2 : x2 ≤ 255) :
 Calls Tryz.prog 214 #[.slice (some ⟨b, off, none⟩) 3 cap] w fun e w' => e = .returned (.int .i64 (val3 x0 x1 x2)) ∧ Below w.heap.size w w' := by
 have mixed : Tryz.prog.follows .mixedOrders = true := by kernel_rfl
 go_enter Tryz.func214, Tryz.ntmps214
 go_wp2
 go_quiet (fail)
 go_wp2
 go_ret
 exact ⟨rfl, drewN_below _ _⟩

set_option maxHeartbeats 1000000 in
theorem value4_any (b off cap : Nat) (x0 x1 x2 x3 : Int) (w : World) (c0 : w.cell? ⟨b, off, none⟩ = some (.int .u8 x0)) (c1 : w.cell? ⟨b, off + 1, none⟩ = some (.int .u8 x1)) (c2 : w.cell? ⟨b, off + 2, none⟩ = some (.int .u8 x2)) (c3 : w.cell? ⟨b, off + 3, none⟩ = some (.int .u8 x3))
 (h0 : 0 ≤ x0) (g0 : x0 ≤ 255) (h1 : 0 ≤ x1) (g1 : x1 ≤ 255) (h2 : 0 ≤ x2) (g2 : x2 ≤ 255) (h3 : 0 ≤ x3) (g3 : x3 ≤ 255) :
 Calls Tryz.prog 214 #[.slice (some ⟨b, off, none⟩) 4 cap] w fun e w' => e = .returned (.int .i64 (val4 x0 x1 x2 x3)) ∧ Below w.heap.size w w' := by
 have mixed : Tryz.prog.follows .mixedOrders = true := by kernel_rfl
 go_enter Tryz.func214, Tryz.ntmps214
 go_wp2
 go_quiet (fail)
 go_wp2
 go_ret
 exact ⟨rfl, drewN_below _ _⟩

def at8 (l : List UInt8) (i : Nat) : Int := ((l.getD i 0).toNat : Int)
theorem at8_bounds (l : List UInt8) (i : Nat) : 0 ≤ at8 l i ∧ at8 l i ≤ 255 := by
 have := (l.getD i 0).toNat_lt
 unfold at8
 omega
/-- What the first n bytes tell, if they were a sign. -/
def valL (l : List UInt8) (n : Nat) : Int :=
 if n = 1 then at8 l 0 else if n = 2 then val2 (at8 l 0) (at8 l 1) else if n = 3 then val3 (at8 l 0) (at8 l 1) (at8 l 2) else val4 (at8 l 0) (at8 l 1) (at8 l 2) (at8 l 3)

theorem value_any (l : List UInt8) (b off cap n : Nat) (h1 : 1 ≤ n) (h4 : n ≤ 4) (hn : n ≤ l.length) (w : World) (hh : Holds w b off l) :
 Calls Tryz.prog 214 #[.slice (some ⟨b, off, none⟩) n cap] w fun e w' => e = .returned (.int .i64 (valL l n)) ∧ Below w.heap.size w w' := by
 have : n = 1 ∨ n = 2 ∨ n = 3 ∨ n = 4 := by omega
 have b0 := at8_bounds l 0
 have b1 := at8_bounds l 1
 have b2 := at8_bounds l 2
 have b3 := at8_bounds l 3
 rcases this with rfl | rfl | rfl | rfl
 ·exact (value1_any b off cap (at8 l 0) w (hh 0 (by omega)) b0.1 b0.2).mono fun e w' ⟨he, hw⟩ => ⟨he, by rw [hw]; exact Below.refl _ _⟩
 ·exact value2_any b off cap (at8 l 0) (at8 l 1) w (hh 0 (by omega)) (hh 1 (by omega)) b0.1 b0.2 b1.1 b1.2
 ·exact value3_any b off cap (at8 l 0) (at8 l 1) (at8 l 2) w (hh 0 (by omega)) (hh 1 (by omega)) (hh 2 (by omega)) b0.1 b0.2 b1.1 b1.2 b2.1 b2.2
 ·exact value4_any b off cap (at8 l 0) (at8 l 1) (at8 l 2) (at8 l 3) w (hh 0 (by omega)) (hh 1 (by omega)) (hh 2 (by omega)) (hh 3 (by omega)) b0.1 b0.2 b1.1 b1.2 b2.1 b2.2 b3.1 b3.2

/-- The first n bytes are a sign's. -/
def fit (l : List UInt8) (n : Nat) : Prop := isSign (valL l n) ∧ encB (valL l n) = l.take n

theorem fit_good (l : List UInt8) (n : Nat) (hn : n ≤ l.length) (h : fit l n) : ¬ isBad l ∧ (D l).2 = n ∧ ((D l).1 : Int) = valL l n := by
 obtain ⟨hs, he⟩ := h
 have hg := encB_good _ hs
 have hd := D_encB _ hs
 have hl := encB_length (valL l n)
 have hle : (encB (valL l n)).length = n := by rw [he]; simp; omega
 have hda := D_append (encB (valL l n)) (l.drop n) (by omega) hg
 have hll : encB (valL l n) ++ l.drop n = l := by rw [he]; exact List.take_append_drop n l
 rw [hll, hd, hle] at hda
 refine ⟨?_, by rw [hda], ?_⟩
 ·unfold isBad at hg ⊢
  rw [hda]
  rw [hd, hle] at hg
  exact hg
 ·rw [hda]
  have := hs.1
  dsimp only
  omega

theorem list1 (l : List UInt8) (h : 1 ≤ l.length) : l.take 1 = [l.getD 0 0] := by
 match l, h with
 | a :: _, _ => rfl
theorem list2 (l : List UInt8) (h : 2 ≤ l.length) : l.take 2 = [l.getD 0 0, l.getD 1 0] := by
 match l, h with
 | a :: b :: _, _ => rfl
theorem list3 (l : List UInt8) (h : 3 ≤ l.length) : l.take 3 = [l.getD 0 0, l.getD 1 0, l.getD 2 0] := by
 match l, h with
 | a :: b :: c :: _, _ => rfl
theorem list4 (l : List UInt8) (h : 4 ≤ l.length) : l.take 4 = [l.getD 0 0, l.getD 1 0, l.getD 2 0, l.getD 3 0] := by
 match l, h with
 | a :: b :: c :: d :: _, _ => rfl
theorem byte_of (u : UInt8) (x : Int) (h : x = (u.toNat : Int)) : UInt8.ofNat x.toNat = u := by
 subst h
 simp

theorem fit1 (l : List UInt8) (h : 1 ≤ l.length) (c0 : (l.getD 0 0).toNat < 128) : fit l 1 := by
 have e : valL l 1 = (((l.getD 0 0).toNat : Nat) : Int) := by simp [valL, at8]
 unfold fit
 rw [e]
 refine ⟨⟨by omega, by omega, by omega⟩, ?_⟩
 unfold encB
 rw [Lib.encodeRuneZ_one (by omega) (by omega), list1 l h]
 simp only [List.map_cons, List.map_nil]
 rw [byte_of (l.getD 0 0) _ rfl]
theorem fit2 (l : List UInt8) (h : 2 ≤ l.length) (c0 : (l.getD 0 0).toNat / 32 = 6) (c1 : (l.getD 1 0).toNat / 64 = 2) (c : (l.getD 0 0).toNat % 32 * 64 + (l.getD 1 0).toNat % 64 ≥ 128) : fit l 2 := by
 have e : valL l 2 = (((l.getD 0 0).toNat % 32 * 64 + (l.getD 1 0).toNat % 64 : Nat) : Int) := by simp [valL, val2, at8]
 unfold fit
 rw [e]
 refine ⟨⟨by omega, by omega, by omega⟩, ?_⟩
 unfold encB
 rw [Lib.encodeRuneZ_two (by omega) (by omega), list2 l h]
 simp only [List.map_cons, List.map_nil]
 rw [byte_of (l.getD 0 0) _ (by omega), byte_of (l.getD 1 0) _ (by omega)]
theorem fit3 (l : List UInt8) (h : 3 ≤ l.length) (c0 : (l.getD 0 0).toNat / 16 = 14) (c1 : (l.getD 1 0).toNat / 64 = 2) (c2 : (l.getD 2 0).toNat / 64 = 2)
 (c : (l.getD 0 0).toNat % 16 * 4096 + (l.getD 1 0).toNat % 64 * 64 + (l.getD 2 0).toNat % 64 ≥ 2048 ∧ ((l.getD 0 0).toNat % 16 * 4096 + (l.getD 1 0).toNat % 64 * 64 + (l.getD 2 0).toNat % 64 < 55296 ∨ 57344 ≤ (l.getD 0 0).toNat % 16 * 4096 + (l.getD 1 0).toNat % 64 * 64 + (l.getD 2 0).toNat % 64)) : fit l 3 := by
 have e : valL l 3 = (((l.getD 0 0).toNat % 16 * 4096 + (l.getD 1 0).toNat % 64 * 64 + (l.getD 2 0).toNat % 64 : Nat) : Int) := by simp [valL, val3, at8]
 unfold fit
 rw [e]
 refine ⟨⟨by omega, by omega, by omega⟩, ?_⟩
 unfold encB
 rw [Lib.encodeRuneZ_three (by omega), list3 l h]
 simp only [List.map_cons, List.map_nil]
 rw [byte_of (l.getD 0 0) _ (by omega), byte_of (l.getD 1 0) _ (by omega), byte_of (l.getD 2 0) _ (by omega)]
theorem fit4 (l : List UInt8) (h : 4 ≤ l.length) (c0 : (l.getD 0 0).toNat / 8 = 30) (c1 : (l.getD 1 0).toNat / 64 = 2) (c2 : (l.getD 2 0).toNat / 64 = 2) (c3 : (l.getD 3 0).toNat / 64 = 2)
 (c : (l.getD 0 0).toNat % 8 * 262144 + (l.getD 1 0).toNat % 64 * 4096 + (l.getD 2 0).toNat % 64 * 64 + (l.getD 3 0).toNat % 64 ≥ 65536 ∧ (l.getD 0 0).toNat % 8 * 262144 + (l.getD 1 0).toNat % 64 * 4096 + (l.getD 2 0).toNat % 64 * 64 + (l.getD 3 0).toNat % 64 ≤ 1114111) : fit l 4 := by
 have e : valL l 4 = (((l.getD 0 0).toNat % 8 * 262144 + (l.getD 1 0).toNat % 64 * 4096 + (l.getD 2 0).toNat % 64 * 64 + (l.getD 3 0).toNat % 64 : Nat) : Int) := by simp [valL, val4, at8]
 unfold fit
 rw [e]
 refine ⟨⟨by omega, by omega, by omega⟩, ?_⟩
 unfold encB
 rw [Lib.encodeRuneZ_four (by omega) (by omega), list4 l h]
 simp only [List.map_cons, List.map_nil]
 rw [byte_of (l.getD 0 0) _ (by omega), byte_of (l.getD 1 0) _ (by omega), byte_of (l.getD 2 0) _ (by omega), byte_of (l.getD 3 0) _ (by omega)]

set_option maxRecDepth 100000 in
set_option maxHeartbeats 4000000 in
theorem good_fit (l : List UInt8) (h0 : 0 < l.length) (hb : ¬ isBad l) : fit l (D l).2 := by
 have l0 := (l.getD 0 0).toNat_lt
 have l1 := (l.getD 1 0).toNat_lt
 have l2 := (l.getD 2 0).toNat_lt
 have l3 := (l.getD 3 0).toNat_lt
 have hdl := D_bounds l h0
 unfold isBad at hb
 revert hb hdl
 unfold D Lib.decodeN
 repeat' split
 all_goals (dsimp only; intro hdl hb)
 all_goals first | (exfalso; omega) | (exact fit1 l (by omega) (by omega)) | (exact fit2 l (by omega) (by omega) (by omega) (by omega)) | (exact fit3 l (by omega) (by omega) (by omega) (by omega) (by omega)) | (exact fit4 l (by omega) (by omega) (by omega) (by omega) (by omega) (by omega))
end Go.Proofs.YtjbdgjbmbohfmaaGreatDoor
