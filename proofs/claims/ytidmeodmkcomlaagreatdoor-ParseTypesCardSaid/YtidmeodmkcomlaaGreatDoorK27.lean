/- What waits in a list; the parts of a term and of a type, told one by one. The document's answer for the first sign of bytes, at every list of -/
import Derived.Test.YtidmeodmkcomlaaGreatDoorK10
import Derived.Deep.QuietTactic
import Derived.BigQuiet
set_option linter.unusedSimpArgs false
set_option linter.unusedVariables false
namespace Go.Proofs.YtidmeodmkcomlaaGreatDoor
open Go Go.Proofs Go.RowKit Go.Shelf
attribute [local go_sem] Oper.semAt_some
def Kq (b Bs : Nat) (W W' : World) : Prop := W.heap.size ≤ W'.heap.size ∧ ∀ k, k = b ∨ k = Bs → W'.heap[k]? = W.heap[k]?
theorem Kq.refl (b Bs : Nat) (W : World) : Kq b Bs W W := ⟨zJw _, fun _ _ => rfl⟩
theorem Kq.trans {b Bs : Nat} {A B C : World} (h : Kq b Bs A B) (k : Kq b Bs B C) : Kq b Bs A C := ⟨zK4 h.1 k.1, fun i hi => (k.2 i hi).trans (h.2 i hi)⟩
theorem Kq.cell {b Bs k o : Nat} {A B : World} (h : Kq b Bs A B) (hk : k = b ∨ k = Bs) : B.cell? ⟨k, o, none⟩ = A.cell? ⟨k, o, none⟩ := zKb (a := ⟨k, o, none⟩) (h.2 k hk)
end Go.Proofs.YtidmeodmkcomlaaGreatDoor
namespace Go.Proofs.YtidmeodmkcomlaaGreatDoor
open Go Go.Proofs Go.RowKit Go.Shelf
attribute [local go_sem] Oper.semAt_some
theorem Kq.of_below {b Bs n₀ : Nat} {A B : World} (h : Below n₀ A B) (hb : b < n₀) (hB : Bs < n₀) : Kq b Bs A B := ⟨h.size, fun k hk => h.block k (by omega)⟩
theorem SlAt.named {B : Nat} {w : World} {A : Option Addr} {n : Nat} {xs : List Value} (h : SlAt (Lt B) w A n xs) (h0 : 0 < B) : ∃ b, b < B ∧ SlAt (fun k => k = b) w A n xs := by
 rcases Nat.eq_zero_or_pos n with rfl | hn
 · have : xs = [] := List.eq_nil_of_length_eq_zero h.1
   subst this;exact ⟨0, h0, SlAt.nil⟩
 · obtain ⟨b, off, e, hb, hc⟩ := h.2 hn
   exact ⟨b, hb, h.1, fun _ => ⟨b, off, e, rfl, hc⟩⟩
theorem SlAt.block {b : Nat} {w w' : World} {A : Option Addr} {n : Nat} {xs : List Value} (h : SlAt (fun k => k = b) w A n xs) (hb : w'.heap[b]? = w.heap[b]?) : SlAt (fun k => k = b) w' A n xs :=
 h.keep fun k o e => by subst e; exact zKb (a := ⟨k, o, none⟩) hb
end Go.Proofs.YtidmeodmkcomlaaGreatDoor
namespace Go.Proofs.YtidmeodmkcomlaaGreatDoor
open Go Go.Proofs Go.RowKit Go.Shelf
attribute [local go_sem] Oper.semAt_some
def Two (w : World) (base : Nat) (v1 : Value) (xs : List Int) (v2 : Value) (ys : List Int) : Prop :=
 w.ownsRow base 3 1 v1 xs.length (xs.map iv) ∧ w.ownsRow base 3 1 v2 ys.length (ys.map iv) ∧ (v1.ownBlock = none ∨ v1.ownBlock ≠ v2.ownBlock)
theorem zls {w : World} {base : Nat} {e : TypeId} {size : Nat} {v : Value} {n : Nat} {xs : List Value} (h : w.ownsRow base e size v n xs) {g : Nat} (hg : v.ownBlock = some g) : g < w.heap.size ∧ base ≤ g := by
 rcases zae h with h1 | ⟨g', h1, h2, h3⟩
 · rw [h1] at hg; cases hg
 · rw [h1] at hg; cases hg; exact ⟨h3, h2⟩
theorem zs7 {w : World} {base : Nat} {e : TypeId} {size : Nat} {v : Value} {n : Nat} {xs : List Value} (h : w.ownsRow base e size v n xs) {g : Nat} (hg : v.ownBlock = some g) : ∃ cur, w.heap[g]? = some (.cells cur e (0, 0)) := by
 rcases h.2 with ⟨rfl, _⟩ | ⟨g', cap, cur, rfl, _, hh, _⟩
 · cases hg
 · simp only [Value.ownBlock, zKt] at hg
   subst hg;exact ⟨cur, hh⟩
theorem Two.kept {w w' : World} {base : Nat} {v1 v2 : Value} {xs ys : List Int} (h : Two w base v1 xs v2 ys) {row : Option Nat} (hg : w.grownBy w' row) (hr : ∀ g, row = some g → w.heap.size ≤ g ∨ ∃ o : Obj, w.heap[g]? = some o ∧ ∀ cur, o ≠ .cells cur 3 (0, 0)) : Two w' base v1 xs v2 ys := by
 have key : ∀ {v : Value} {n : Nat} {zs : List Value}, w.ownsRow base 3 1 v n zs → v.ownBlock = none ∨ row ≠ v.ownBlock := fun {v n zs} hv => by
  rcases zae hv with h1 | ⟨g, h1, h2, h3⟩
  · exact .inl h1
  · refine .inr fun e => ?_
    rw [h1] at e;rcases hr g e with h4 | ⟨o, ho, hne⟩
    · omega
    · obtain ⟨cur, hc⟩ := zs7 hv h1
      rw [hc] at ho;cases ho
      exact hne _ rfl
 have k2 : ∀ {v : Value} {n : Nat} {zs : List Value}, w.ownsRow base 3 1 v n zs → w'.ownsRow base 3 1 v n zs := fun {v n zs} hv => hv.kept hg (by
  rcases key hv with h1 | h1
  · exact .inl h1
  · exact .inr (fun e => h1 e.symm))
 exact ⟨k2 h.1, k2 h.2.1, h.2.2⟩
def Marks (B : Nat) (W : World) (Ds : List Nat) : Prop := Ds.Nodup ∧ ∀ D ∈ Ds, B ≤ D ∧ W.heap[D]? = some (.deferred (some []))
theorem Marks.nil (B : Nat) (W : World) : Marks B W [] := ⟨List.nodup_nil, fun _ h => by simp at h⟩
theorem Marks.lt {B : Nat} {W : World} {Ds : List Nat} (h : Marks B W Ds) : ∀ D ∈ Ds, D < W.heap.size := fun D hD => (Array.getElem?_eq_some_iff.1 (h.2 D hD).2).1
theorem Marks.kept {B : Nat} {W W' : World} {Ds : List Nat} (h : Marks B W Ds) {row : Option Nat} (hg : W.grownBy W' row) (hr : ∀ r, row = some r → W.heap.size ≤ r ∨ ∃ o : Obj, W.heap[r]? = some o ∧ ∀ c, o ≠ .deferred c) : Marks B W' Ds :=
 ⟨h.1, fun D hD => ⟨(h.2 D hD).1, (hg.block D (h.lt D hD) (fun e => by
  rcases hr D e.symm with h1 | ⟨o, ho, hne⟩
  · have := h.lt D hD; omega
  · rw [(h.2 D hD).2] at ho; cases ho; exact hne _ rfl)).trans (h.2 D hD).2⟩⟩
theorem Marks.cons {B D : Nat} {W : World} {Ds : List Nat} (h : Marks B W Ds) (hB : B ≤ D) (hD : W.heap[D]? = some (.deferred (some []))) (hn : ∀ E ∈ Ds, E < D) : Marks B W (D :: Ds) :=
 ⟨List.nodup_cons.2 ⟨fun hm => by have := hn D hm; omega, h.1⟩, fun E hE => by
  rcases List.mem_cons.1 hE with rfl | hE
  · exact ⟨hB, hD⟩
  · exact h.2 E hE⟩
structure Shut (B : Nat) (W W' : World) : Prop where
 below : Below B W W'
 size : W'.heap.size = W.heap.size
 cells : ∀ (k : Nat) (o : Obj), W.heap[k]? = some o → o.isCells = true → W'.heap[k]? = some o
set_option maxHeartbeats 4000000
theorem ze7 (w : World) (k : Nat) : Below w.heap.size w (w.drewN k) := ⟨rfl, rfl, rfl, zJw _, fun _ _ => rfl⟩
def val2 (b0 b1 : Int) : Int := b0 % 32 * 64 + b1 % 64
def val3 (b0 b1 b2 : Int) : Int := b0 % 16 * 4096 + b1 % 64 * 64 + b2 % 64
def val4 (b0 b1 b2 b3 : Int) : Int := b0 % 8 * 262144 + b1 % 64 * 4096 + b2 % 64 * 64 + b3 % 64
theorem zw4 (b off cap : Nat) (x0 : Int) (w : World) (c0 : w.cell? ⟨b, off, none⟩ = some (.int .u8 x0)) (h0 : 0 ≤ x0) (g0 : x0 ≤ 255) :
 Calls Tryz.prog 121 #[.slice (some ⟨b, off, none⟩) 1 cap] w fun e w' => e = .returned (.int .i64 x0) ∧ w' = w := by
 go_enter Tryz.func121, Tryz.ntmps121
 go_wp2
 go_ret;exact ⟨rfl, rfl⟩
theorem zuz (b off cap : Nat) (x0 x1 : Int) (w : World) (c0 : w.cell? ⟨b, off, none⟩ = some (.int .u8 x0)) (c1 : w.cell? ⟨b, off + 1, none⟩ = some (.int .u8 x1)) (h0 : 0 ≤ x0) (g0 : x0 ≤ 255) (h1 : 0 ≤ x1) (g1 : x1 ≤ 255) :
 Calls Tryz.prog 121 #[.slice (some ⟨b, off, none⟩) 2 cap] w fun e w' => e = .returned (.int .i64 (val2 x0 x1)) ∧ Below w.heap.size w w' := by
 have mixed : Tryz.prog.follows .mixedOrders = true := by kernel_rfl
 go_enter Tryz.func121, Tryz.ntmps121
 go_wp2
 go_quiet (fail)
 go_wp2
 go_ret;exact ⟨rfl, ze7 _ _⟩
theorem zx5 (b off cap : Nat) (x0 x1 x2 : Int) (w : World) (c0 : w.cell? ⟨b, off, none⟩ = some (.int .u8 x0)) (c1 : w.cell? ⟨b, off + 1, none⟩ = some (.int .u8 x1)) (c2 : w.cell? ⟨b, off + 2, none⟩ = some (.int .u8 x2))
 (h0 : 0 ≤ x0) (g0 : x0 ≤ 255) (h1 : 0 ≤ x1) (g1 : x1 ≤ 255) (h2 : 0 ≤ x2) (g2 : x2 ≤ 255) :
 Calls Tryz.prog 121 #[.slice (some ⟨b, off, none⟩) 3 cap] w fun e w' => e = .returned (.int .i64 (val3 x0 x1 x2)) ∧ Below w.heap.size w w' := by
 have mixed : Tryz.prog.follows .mixedOrders = true := by kernel_rfl
 go_enter Tryz.func121, Tryz.ntmps121
 go_wp2
 go_quiet (fail)
 go_wp2
 go_ret;exact ⟨rfl, ze7 _ _⟩
theorem zx3 (b off cap : Nat) (x0 x1 x2 x3 : Int) (w : World) (c0 : w.cell? ⟨b, off, none⟩ = some (.int .u8 x0)) (c1 : w.cell? ⟨b, off + 1, none⟩ = some (.int .u8 x1)) (c2 : w.cell? ⟨b, off + 2, none⟩ = some (.int .u8 x2)) (c3 : w.cell? ⟨b, off + 3, none⟩ = some (.int .u8 x3))
 (h0 : 0 ≤ x0) (g0 : x0 ≤ 255) (h1 : 0 ≤ x1) (g1 : x1 ≤ 255) (h2 : 0 ≤ x2) (g2 : x2 ≤ 255) (h3 : 0 ≤ x3) (g3 : x3 ≤ 255) :
 Calls Tryz.prog 121 #[.slice (some ⟨b, off, none⟩) 4 cap] w fun e w' => e = .returned (.int .i64 (val4 x0 x1 x2 x3)) ∧ Below w.heap.size w w' := by
 have mixed : Tryz.prog.follows .mixedOrders = true := by kernel_rfl
 go_enter Tryz.func121, Tryz.ntmps121
 go_wp2
 go_quiet (fail)
 go_wp2
 go_ret;exact ⟨rfl, ze7 _ _⟩
def at8 (l : List UInt8) (i : Nat) : Int := ((l.getD i 0).toNat : Int)
theorem zg9 (l : List UInt8) (i : Nat) : 0 ≤ at8 l i ∧ at8 l i ≤ 255 := by
 have := (l.getD i 0).toNat_lt;unfold at8;omega
def valL (l : List UInt8) (n : Nat) : Int :=
 if n = 1 then at8 l 0 else if n = 2 then val2 (at8 l 0) (at8 l 1) else if n = 3 then val3 (at8 l 0) (at8 l 1) (at8 l 2) else val4 (at8 l 0) (at8 l 1) (at8 l 2) (at8 l 3)
theorem zz0 (l : List UInt8) (b off cap n : Nat) (h1 : 1 ≤ n) (h4 : n ≤ 4) (hn : n ≤ l.length) (w : World) (hh : Holds w b off l) :
 Calls Tryz.prog 121 #[.slice (some ⟨b, off, none⟩) n cap] w fun e w' => e = .returned (.int .i64 (valL l n)) ∧ Below w.heap.size w w' := by
 have : n = 1 ∨ n = 2 ∨ n = 3 ∨ n = 4 := by omega
 have b0 := zg9 l 0;have b1 := zg9 l 1;have b2 := zg9 l 2;have b3 := zg9 l 3;rcases this with rfl | rfl | rfl | rfl
 · exact (zw4 b off cap (at8 l 0) w (hh 0 (by omega)) b0.1 b0.2).mono fun e w' ⟨he, hw⟩ => ⟨he, by rw [hw]; exact zJx _ _⟩
 · exact zuz b off cap (at8 l 0) (at8 l 1) w (hh 0 (by omega)) (hh 1 (by omega)) b0.1 b0.2 b1.1 b1.2
 · exact zx5 b off cap (at8 l 0) (at8 l 1) (at8 l 2) w (hh 0 (by omega)) (hh 1 (by omega)) (hh 2 (by omega)) b0.1 b0.2 b1.1 b1.2 b2.1 b2.2
 · exact zx3 b off cap (at8 l 0) (at8 l 1) (at8 l 2) (at8 l 3) w (hh 0 (by omega)) (hh 1 (by omega)) (hh 2 (by omega)) (hh 3 (by omega)) b0.1 b0.2 b1.1 b1.2 b2.1 b2.2 b3.1 b3.2
def fit (l : List UInt8) (n : Nat) : Prop := zgo (valL l n) ∧ encB (valL l n) = l.take n
theorem zDh (l : List UInt8) (n : Nat) (hn : n ≤ l.length) (h : fit l n) : ¬ isBad l ∧ (D l).2 = n ∧ ((D l).1 : Int) = valL l n := by
 obtain ⟨hs, he⟩ := h;have hg := zAy _ hs;have hd := zy0 _ hs;have hl := zsi (valL l n);have hle : (encB (valL l n)).length = n := by rw [he]; simp; omega
 have hda := zkw (encB (valL l n)) (l.drop n) (by omega) hg;have hll : encB (valL l n) ++ l.drop n = l := by rw [he]; exact List.take_append_drop n l
 rw [hll, hd, hle] at hda;refine ⟨?_, by rw [hda], ?_⟩
 · unfold isBad at hg ⊢
   rw [hda];rw [hd, hle] at hg;exact hg
 · rw [hda]
   have := hs.1;dsimp only;omega
theorem list1 (l : List UInt8) (h : 1 ≤ l.length) : l.take 1 = [l.getD 0 0] := by
 match l, h with
 | a :: _, _ => rfl
theorem list2 (l : List UInt8) (h : 2 ≤ l.length) : l.take 2 = [l.getD 0 0, l.getD 1 0] := by
 match l, h with
 | a :: b :: _, _ => rfl
theorem list3 (l : List UInt8) (h : 3 ≤ l.length) : l.take 3 = [l.getD 0 0, l.getD 1 0, l.getD 2 0] := by
 match l, h with
 | a :: b :: c :: _, _ => rfl
theorem list4 (l : List UInt8) (h : 4 ≤ l.length) : l.take 4 = [l.getD 0 0, l.getD 1 0, l.getD 2 0, l.getD 3 0] := by
 match l, h with
 | a :: b :: c :: d :: _, _ => rfl
theorem ze8 (u : UInt8) (x : Int) (h : x = (u.toNat : Int)) : UInt8.ofNat x.toNat = u := by
 subst h;simp
theorem fit1 (l : List UInt8) (h : 1 ≤ l.length) (c0 : (l.getD 0 0).toNat < 128) : fit l 1 := by
 have e : valL l 1 = (((l.getD 0 0).toNat : Nat) : Int) := by simp [valL, at8]
 unfold fit;rw [e];refine ⟨⟨by omega, by omega, by omega⟩, ?_⟩;unfold encB;rw [Lib.encodeRuneZ_one (by omega) (by omega), list1 l h];simp only [List.map_cons, List.map_nil];rw [ze8 (l.getD 0 0) _ rfl]
theorem fit2 (l : List UInt8) (h : 2 ≤ l.length) (c0 : (l.getD 0 0).toNat / 32 = 6) (c1 : (l.getD 1 0).toNat / 64 = 2) (c : (l.getD 0 0).toNat % 32 * 64 + (l.getD 1 0).toNat % 64 ≥ 128) : fit l 2 := by
 have e : valL l 2 = (((l.getD 0 0).toNat % 32 * 64 + (l.getD 1 0).toNat % 64 : Nat) : Int) := by simp [valL, val2, at8]
 unfold fit;rw [e];refine ⟨⟨by omega, by omega, by omega⟩, ?_⟩;unfold encB;rw [Lib.encodeRuneZ_two (by omega) (by omega), list2 l h];simp only [List.map_cons, List.map_nil];rw [ze8 (l.getD 0 0) _ (by omega), ze8 (l.getD 1 0) _ (by omega)]
theorem fit3 (l : List UInt8) (h : 3 ≤ l.length) (c0 : (l.getD 0 0).toNat / 16 = 14) (c1 : (l.getD 1 0).toNat / 64 = 2) (c2 : (l.getD 2 0).toNat / 64 = 2)
 (c : (l.getD 0 0).toNat % 16 * 4096 + (l.getD 1 0).toNat % 64 * 64 + (l.getD 2 0).toNat % 64 ≥ 2048 ∧ ((l.getD 0 0).toNat % 16 * 4096 + (l.getD 1 0).toNat % 64 * 64 + (l.getD 2 0).toNat % 64 < 55296 ∨ 57344 ≤ (l.getD 0 0).toNat % 16 * 4096 + (l.getD 1 0).toNat % 64 * 64 + (l.getD 2 0).toNat % 64)) : fit l 3 := by
 have e : valL l 3 = (((l.getD 0 0).toNat % 16 * 4096 + (l.getD 1 0).toNat % 64 * 64 + (l.getD 2 0).toNat % 64 : Nat) : Int) := by simp [valL, val3, at8]
 unfold fit;rw [e];refine ⟨⟨by omega, by omega, by omega⟩, ?_⟩;unfold encB;rw [Lib.encodeRuneZ_three (by omega), list3 l h];simp only [List.map_cons, List.map_nil];rw [ze8 (l.getD 0 0) _ (by omega), ze8 (l.getD 1 0) _ (by omega), ze8 (l.getD 2 0) _ (by omega)]
theorem fit4 (l : List UInt8) (h : 4 ≤ l.length) (c0 : (l.getD 0 0).toNat / 8 = 30) (c1 : (l.getD 1 0).toNat / 64 = 2) (c2 : (l.getD 2 0).toNat / 64 = 2) (c3 : (l.getD 3 0).toNat / 64 = 2)
 (c : (l.getD 0 0).toNat % 8 * 262144 + (l.getD 1 0).toNat % 64 * 4096 + (l.getD 2 0).toNat % 64 * 64 + (l.getD 3 0).toNat % 64 ≥ 65536 ∧ (l.getD 0 0).toNat % 8 * 262144 + (l.getD 1 0).toNat % 64 * 4096 + (l.getD 2 0).toNat % 64 * 64 + (l.getD 3 0).toNat % 64 ≤ 1114111) : fit l 4 := by
 have e : valL l 4 = (((l.getD 0 0).toNat % 8 * 262144 + (l.getD 1 0).toNat % 64 * 4096 + (l.getD 2 0).toNat % 64 * 64 + (l.getD 3 0).toNat % 64 : Nat) : Int) := by simp [valL, val4, at8]
 unfold fit;rw [e];refine ⟨⟨by omega, by omega, by omega⟩, ?_⟩;unfold encB;rw [Lib.encodeRuneZ_four (by omega) (by omega), list4 l h];simp only [List.map_cons, List.map_nil];rw [ze8 (l.getD 0 0) _ (by omega), ze8 (l.getD 1 0) _ (by omega), ze8 (l.getD 2 0) _ (by omega), ze8 (l.getD 3 0) _ (by omega)]
set_option maxRecDepth 100000 in
theorem zD1 (l : List UInt8) (h0 : 0 < l.length) (hb : ¬ isBad l) : fit l (D l).2 := by
 have l0 := (l.getD 0 0).toNat_lt;have l1 := (l.getD 1 0).toNat_lt;have l2 := (l.getD 2 0).toNat_lt;have l3 := (l.getD 3 0).toNat_lt;have hdl := zbl l h0;unfold isBad at hb;revert hb hdl
 unfold D Lib.decodeN;repeat' split
 all_goals (dsimp only; intro hdl hb)
 all_goals first | (exfalso; omega) | (exact fit1 l (by omega) (by omega)) | (exact fit2 l (by omega) (by omega) (by omega) (by omega)) | (exact fit3 l (by omega) (by omega) (by omega) (by omega) (by omega)) | (exact fit4 l (by omega) (by omega) (by omega) (by omega) (by omega) (by omega))
end Go.Proofs.YtidmeodmkcomlaaGreatDoor
