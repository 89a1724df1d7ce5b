/- Short names for laws of lists; steps of a drawn region whose side conditions are found by themselves. Trees by numbers, as plain lists: the walk, the depth, -/
import Derived.OrdersHeld
import Derived.Lib.Hide
import Derived.Below
import Derived.Laws.Rows
import Derived.Maps.AppendAt
import Derived.Deep.RegionHeld3
import Derived.Lib.DecodeN
import Derived.Lib.Small
set_option linter.unusedSimpArgs false
set_option linter.unusedVariables false
namespace Go.Proofs.YtidmeodmkcomlaaGreatDoor
open Go Go.Proofs Go.RowKit
theorem gA {α : Type _} {xs : List α} {i : Nat} : xs.toArray[i]? = xs[i]? := List.getElem?_toArray
theorem gB {α : Type _} {a : α} {l : List α} : (a :: l)[0]? = some a := List.getElem?_cons_zero
theorem gC {α : Type _} {a : α} {l : List α} {i : Nat} : (a :: l)[i + 1]? = l[i]? := List.getElem?_cons_succ
theorem sA {α : Type _} {l : List α} {i : Nat} {a : α} : l.toArray.setIfInBounds i a = (l.set i a).toArray := List.setIfInBounds_toArray ..
theorem sB {α : Type _} {x : α} {xs : List α} {a : α} : (x :: xs).set 0 a = a :: xs := List.set_cons_zero
theorem sC {α : Type _} {x : α} {xs : List α} {n : Nat} {a : α} : (x :: xs).set (n + 1) a = x :: xs.set n a := List.set_cons_succ
theorem sp6 (a b c d e f : Bool) : a = false ∨ (a = true ∧ (b = false ∨ (b = true ∧ (c = false ∨ (c = true ∧ (d = false ∨ (d = true ∧ (e = false ∨ (e = true ∧ (f = false ∨ f = true)))))))))) := by
 cases a <;> cases b <;> cases c <;> cases d <;> cases e <;> cases f <;> simp
theorem sp4 (a b c d : Bool) : a = false ∨ (a = true ∧ (b = true ∨ (b = false ∧ (c = false ∨ (c = true ∧ (d = false ∨ d = true)))))) := by
 cases a <;> cases b <;> cases c <;> cases d <;> simp
theorem zJv : type_of% @Lib.hid := @Lib.hid
theorem zJw : type_of% @Nat.le_refl := @Nat.le_refl
theorem zJx : type_of% @Below.refl := @Below.refl
theorem zJy : type_of% @Nat.lt_of_lt_of_le := @Nat.lt_of_lt_of_le
theorem zJz : type_of% @Bool.eq_iff_iff := @Bool.eq_iff_iff
theorem zK0 : type_of% @World.cell?_setCell_other := @World.cell?_setCell_other
theorem zK1 : type_of% @List.getElem?_eq_getElem := @List.getElem?_eq_getElem
theorem zK2 : type_of% @List.length_cons := @List.length_cons
theorem zK3 : type_of% @List.getD_eq_getElem?_getD := @List.getD_eq_getElem?_getD
theorem zK4 : type_of% @Nat.le_trans := @Nat.le_trans
theorem zK5 : type_of% @List.length_append := @List.length_append
theorem zK6 : type_of% @Bool.and_eq_true := @Bool.and_eq_true
theorem zK7 : type_of% @List.mem_singleton := @List.mem_singleton
theorem zK8 : type_of% @Nat.zero_le := @Nat.zero_le
theorem zK9 : type_of% @List.take_succ_eq_append_getElem := @List.take_succ_eq_append_getElem
theorem zKa : type_of% @List.length_drop := @List.length_drop
theorem zKb : type_of% @World.cell?_of_block := @World.cell?_of_block
theorem zKc : type_of% @List.length_nil := @List.length_nil
theorem zKd : type_of% @List.length_map := @List.length_map
theorem zKe : type_of% @List.getElem_mem := @List.getElem_mem
theorem zKf : type_of% @List.mem_cons := @List.mem_cons
theorem zKg : type_of% @Option.map_eq_some_iff := @Option.map_eq_some_iff
theorem zKh : type_of% @World.size_alloc := @World.size_alloc
theorem zKi : type_of% @List.length_take := @List.length_take
theorem zKj : type_of% @List.cons_append := @List.cons_append
theorem zKk : type_of% @List.count_append := @List.count_append
theorem zKl : type_of% @List.getElem?_append_right := @List.getElem?_append_right
theorem zKm : type_of% @List.getElem?_append_left := @List.getElem?_append_left
theorem zKn : type_of% @List.not_mem_nil := @List.not_mem_nil
theorem zKo : type_of% @List.getElem_of_mem := @List.getElem_of_mem
theorem zKp : type_of% @Below.heap_setCell := @Below.heap_setCell
theorem zKq : type_of% @decide_eq_true_eq := @decide_eq_true_eq
theorem zKr : type_of% @beq_eq_false_iff_ne := @beq_eq_false_iff_ne
theorem zKs : type_of% @decide_eq_false_iff_not := @decide_eq_false_iff_not
theorem zKt : type_of% @Option.some.injEq := @Option.some.injEq
theorem zKu : type_of% @Prod.mk.injEq := @Prod.mk.injEq
section
variable {P : Program} {ops : Array Oper} {Q : Exit → Act → World → Prop} {md : Region.Mode} {S : World → Prop}
theorem tkH (i : Nat) {oi : Oper} {v : Value} {fuel : Nat} {listed : Array Bool} {a : Act} {w : World}
 (h : wpAnyH P md ops Q S fuel (listed.setIfInBounds i true) (a.put oi.dst v) w)
 (hi : ops[i]? = some oi := by simp only [gA, gB, gC]; rfl)
 (hs : Region.noSelect ops = true := by kernel_rfl) (hf : Region.free md ops listed i = true := by kernel_rfl) (hr : (Region.ready md ops listed).contains i = true := by kernel_rfl)
 (hQ : ∀ c a w, Q (.panic c) (a.put oi.dst v) w → Q (.panic c) a w := by exact fun _ _ _ h => h) (hw : Region.wanted oi (yielded ops a.tmps) = true := by rfl)
 (hy : ∀ w, S w → (execOp a.eval oi).run P w = .ok (.value v) w := by (intro w hSw; (try dsimp only at hSw); go_simp; try with_reducible rfl)) (hS : S w := by assumption) :
 wpAnyH P md ops Q S (fuel + 1) listed a w := wpAnyH_take hi hs hf hr hQ (.inl ⟨hw, hy⟩) hS h
theorem rdH (i : Nat) {o : Oper} {fuel : Nat} {listed : Array Bool} {a : Act} {w : World}
 (h : ∀ K' : Act → World → Prop, Shut (∀ a w, S w → (S w → wpAnyH P md ops Q S fuel (listed.setIfInBounds i true) a w) → K' a w) → if Region.wanted o (yielded ops a.tmps) = true then Oper.wp P o a w K' Q else K' (a.put o.dst undef) w)
 (hr : Region.ready md ops listed = [i] := by kernel_rfl) (ho : ops[i]? = some o := by simp only [gA, gB, gC]; rfl) :
 wpAnyH P md ops Q S (fuel + 1) listed a w := wpAnyH_ready hr (by simp) (AllReadyH.cons ho h AllReadyH.nil)
end
end Go.Proofs.YtidmeodmkcomlaaGreatDoor
namespace Go.Proofs.YtidmeodmkcomlaaGreatDoor
section
variable {α β γ δ : Type}
def all2 (r : α → β → Bool) : List α → List β → Bool
 | [], [] => true
 | a :: l, b :: m => r a b && all2 r l m
 | _, _ => false
theorem zep {r : α → β → Bool} : ∀ {l : List α} {m : List β}, all2 r l m = true → l.length = m.length
 | [], [], _ => rfl
 | _ :: l, _ :: m, h => by
  simp only [all2, zK6] at h;simp [zep h.2]
 | [], _ :: _, h => by simp [all2] at h
 | _ :: _, [], h => by simp [all2] at h
theorem zfv {r : α → β → Bool} : ∀ {l l' : List α} {m m' : List β}, l.length = m.length → all2 r (l ++ l') (m ++ m') = (all2 r l m && all2 r l' m')
 | [], _, [], _, _ => by simp [all2]
 | _ :: l, _, _ :: m, _, h => by
  simp only [zKj, all2];rw [zfv (by simpa using h), Bool.and_assoc]
 | [], _, _ :: _, _, h => by simp at h
 | _ :: _, _, [], _, h => by simp at h
theorem zdf {r s : α → β → Bool} : ∀ {l : List α} {m : List β}, (∀ a ∈ l, ∀ b ∈ m, r a b = s a b) → all2 r l m = all2 s l m
 | [], [], _ => rfl
 | a :: l, b :: m, h => by
  simp only [all2];rw [h a (by simp) b (by simp), zdf (fun a ha b hb => h a (by simp [ha]) b (by simp [hb]))]
 | [], _ :: _, _ => rfl
 | _ :: _, [], _ => rfl
theorem zec {r : α → α → Bool} : ∀ {l : List α}, (∀ a ∈ l, r a a = true) → all2 r l l = true
 | [], _ => rfl
 | a :: l, h => by
  simp only [all2];rw [h a (by simp), zec (fun a ha => h a (by simp [ha]))];rfl
end
def Dn (kids : Nat → List Nat) (n : Nat) : Prop := ∀ i, i < n → ∀ k ∈ kids i, k < i
def smf (r : Nat → Nat → Bool) (kids kids' : Nat → List Nat) : Nat → Nat → Nat → Bool
 | 0, _, _ => false
 | f + 1, i, j => r i j && all2 (smf r kids kids' f) (kids i) (kids' j)
theorem zqw {r : Nat → Nat → Bool} {kids kids' : Nat → List Nat} {n : Nat} (hd : Dn kids n) : ∀ f g i j, i < n → i < f → i < g → smf r kids kids' f i j = smf r kids kids' g i j
 | 0, _, _, _, _, h, _ => by omega
 | _ + 1, 0, _, _, _, _, h => by omega
 | f + 1, g + 1, i, j, hn, hf, hg => by
  simp only [smf];rw [zdf fun k hk k' _ => zqw hd f g k k' (by have := hd i hn k hk; omega) (by have := hd i hn k hk; omega) (by have := hd i hn k hk; omega)]
def same (r : Nat → Nat → Bool) (kids kids' : Nat → List Nat) (i j : Nat) : Bool := smf r kids kids' (i + 1) i j
theorem zf7 {r : Nat → Nat → Bool} {kids kids' : Nat → List Nat} {n i : Nat} (hd : Dn kids n) (hi : i < n) (j : Nat) : same r kids kids' i j = (r i j && all2 (same r kids kids') (kids i) (kids' j)) := by
 show smf r kids kids' (i + 1) i j = _
 simp only [smf];rw [zdf fun k hk k' _ => zqw hd i (k + 1) k k' (by have := hd i hi k hk; omega) (hd i hi k hk) (by omega)];rfl
theorem zA6 {r : Nat → Nat → Bool} {kids : Nat → List Nat} {n : Nat} (hd : Dn kids n) (h : ∀ i, i < n → r i i = true) : ∀ b i, i < b → i < n → same r kids kids i i = true
 | 0, _, h, _ => by omega
 | b + 1, i, hb, hi => by
  rw [zf7 hd hi, h i hi];exact zec fun k hk => zA6 hd h b k (by have := hd i hi k hk; omega) (by have := hd i hi k hk; omega)
set_option maxHeartbeats 4000000
def D (l : List UInt8) : Nat × Nat := Go.Lib.decodeN l.length (l.getD 0 0).toNat (l.getD 1 0).toNat (l.getD 2 0).toNat (l.getD 3 0).toNat
theorem zma (l : List UInt8) (i : Nat) : (ByteArray.mk l.toArray).get! i = l.getD i 0 := by
 simp only [ByteArray.get!, zK3];by_cases h : i < l.length
 · simp [h]
 · simp [h]; rfl
theorem zA8 (l : List UInt8) : Go.Utf8.decode (ByteArray.mk l.toArray) 0 = D l := by
 have hs : (ByteArray.mk l.toArray).size = l.length := by simp [ByteArray.size]
 unfold D;rw [Go.Lib.decode_at, hs];simp only [zma, Nat.sub_zero, Nat.zero_add]
theorem zbl (l : List UInt8) (h : 0 < l.length) : 1 ≤ (D l).2 ∧ (D l).2 ≤ 4 ∧ (D l).2 ≤ l.length ∧ (D l).1 ≤ 1114111 := by
 have h0 := (l.getD 0 0).toNat_lt;unfold D Go.Lib.decodeN;repeat' split
 all_goals (dsimp only; omega)
theorem ztp (l : List UInt8) (h : ¬ ((D l).1 = 65533 ∧ (D l).2 = 1)) : Go.Lib.runeLen ((D l).1 : Int) = ((D l).2 : Int) := by
 revert h
 unfold D Go.Lib.decodeN;have h0 := (l.getD 0 0).toNat_lt;repeat' split
 all_goals (dsimp only; intro h)
 all_goals first | (exfalso; omega) | (unfold Go.Lib.runeLen; (repeat' split) <;> omega)
def isBad (l : List UInt8) : Prop := (D l).1 = 65533 ∧ (D l).2 = 1
instance (l : List UInt8) : Decidable (isBad l) := inferInstanceAs (Decidable (_ ∧ _))
def sg (l : List UInt8) (k : Nat) : List (Nat × Nat) :=
 if _h : 0 < l.length then
  if isBad l then [] else (k, (D l).1) :: sg (l.drop (D l).2) (k + (D l).2)
 else []
termination_by l.length
decreasing_by
 have := zbl l _h;simp only [zKa];omega
def bd (l : List UInt8) (k : Nat) : Nat :=
 if _h : 0 < l.length then
  if isBad l then k else bd (l.drop (D l).2) (k + (D l).2)
 else k
termination_by l.length
decreasing_by
 have := zbl l _h;simp only [zKa];omega
theorem zdq (l : List UInt8) (k : Nat) (h : l.length = 0) : sg l k = [] := by
 rw [sg, dif_neg (by omega)]
theorem zhy (l : List UInt8) (k : Nat) (h : isBad l) : sg l k = [] := by
 rw [sg]; split
 · rfl
 · rfl
theorem zex (l : List UInt8) (k : Nat) (h : 0 < l.length) (hb : ¬ isBad l) : sg l k = (k, (D l).1) :: sg (l.drop (D l).2) (k + (D l).2) := by
 rw [sg, dif_pos h, if_neg hb]
theorem zcw (l : List UInt8) (k : Nat) (h : l.length = 0) : bd l k = k := by
 rw [bd, dif_neg (by omega)]
theorem zfe (l : List UInt8) (k : Nat) (h : isBad l) : bd l k = k := by
 rw [bd]; split
 · rfl
 · rfl
theorem zd3 (l : List UInt8) (k : Nat) (h : 0 < l.length) (hb : ¬ isBad l) : bd l k = bd (l.drop (D l).2) (k + (D l).2) := by
 rw [bd, dif_pos h, if_neg hb]
theorem bd_le : ∀ (n : Nat) (l : List UInt8) (k : Nat), l.length ≤ n → k ≤ bd l k ∧ bd l k ≤ k + l.length
 | 0, l, k, h => by rw [zcw l k (by omega)]; omega
 | n + 1, l, k, h => by
  by_cases h0 : 0 < l.length
  · by_cases hb : isBad l
    · rw [zfe l k hb]; omega
    · have hd := zbl l h0
      have ih := bd_le n (l.drop (D l).2) (k + (D l).2) (by simp only [zKa]; omega);rw [zd3 l k h0 hb];simp only [zKa] at ih;omega
  · rw [zcw l k (by omega)]; omega
set_option maxRecDepth 100000 in
theorem zr9 (n m b0 b1 b2 b3 c1 c2 c3 : Nat) (hm : n ≤ m) (_h0 : b0 < 256) (h1 : 1 < n → c1 = b1) (h2 : 2 < n → c2 = b2) (h3 : 3 < n → c3 = b3)
 (hg : ¬ ((Go.Lib.decodeN n b0 b1 b2 b3).1 = 65533 ∧ (Go.Lib.decodeN n b0 b1 b2 b3).2 = 1)) : Go.Lib.decodeN m b0 c1 c2 c3 = Go.Lib.decodeN n b0 b1 b2 b3 := by
 by_cases a1 : 1 < n <;> by_cases a2 : 2 < n <;> by_cases a3 : 3 < n
 all_goals first | (exfalso; omega) | skip
 all_goals (try (have e1 := h1 a1; subst e1)) 
 all_goals (try (have e2 := h2 a2; subst e2))
 all_goals (try (have e3 := h3 a3; subst e3))
 all_goals (revert hg; unfold Go.Lib.decodeN)
 all_goals (repeat' split)
 all_goals (intro hg; first | rfl | (exfalso; omega) | (exfalso; simp at hg))
theorem zkw (a b : List UInt8) (h0 : 0 < a.length) (hb : ¬ isBad a) : D (a ++ b) = D a := by
 unfold D;have g : ∀ i, i < a.length → (a ++ b).getD i 0 = a.getD i 0 := fun i hi => by simp [zK3, zKm hi]
 rw [g 0 h0];refine zr9 _ _ _ _ _ _ _ _ _ (by simp) (a.getD 0 0).toNat_lt (fun h => by rw [g 1 h]) (fun h => by rw [g 2 h]) (fun h => by rw [g 3 h]) hb
def lowB (c : UInt8) : Bool := (decide (97 ≤ c.toNat) && decide (c.toNat ≤ 122)) || decide (c.toNat = 95)
def zb9 (c : UInt8) : Bool := decide (97 ≤ c.toNat) && decide (c.toNat ≤ 122)
def digB (c : UInt8) : Bool := decide (48 ≤ c.toNat) && decide (c.toNat ≤ 57)
def highB (c : UInt8) : Bool := decide (65 ≤ c.toNat) && decide (c.toNat ≤ 90)
def hexB (c : UInt8) : Bool := digB c || (decide (97 ≤ c.toNat) && decide (c.toNat ≤ 102))
def zc3 (c : UInt8) : Bool := decide (c.toNat = 32) || decide (c.toNat = 9) || decide (c.toNat = 10) || decide (c.toNat = 13)
def zbj (c : UInt8) : Bool := lowB c || digB c
def aliB (c : UInt8) : Bool := highB c || zb9 c || digB c
def spanN (p q : UInt8 → Bool) : List UInt8 → Nat
 | [] => 0
 | c :: r => if p c then (r.takeWhile q).length + 1 else 0
def nameN (l : List UInt8) : Nat := spanN lowB zbj l
def zc4 (l : List UInt8) : Nat := spanN highB aliB l
def digN (l : List UInt8) : Nat := spanN digB digB l
theorem zcl (p q : UInt8 → Bool) (l : List UInt8) : spanN p q l ≤ l.length := by
 cases l with
 | nil => exact zJw _
 | cons c r =>
  have := (List.takeWhile_sublist q (l := r)).length_le;rw [spanN, zK2];split <;> omega
def noteB (l : List UInt8) : Bool := decide (l.take 2 = [47, 47])
def noteN (l : List UInt8) : Nat := (l.takeWhile fun c => decide (c.toNat ≠ 10)).length
theorem zij (l : List UInt8) : noteN l ≤ l.length := (List.takeWhile_sublist _).length_le
theorem zey (l : List UInt8) (h : noteB l = true) : 2 ≤ noteN l := by
 match l, h with
 | a :: b :: r, h =>
  simp [noteB] at h
  obtain ⟨rfl, rfl⟩ := h;simp [noteN]
 | [a], h => simp [noteB] at h
 | [], h => simp [noteB] at h
def skipN (l : List UInt8) : Nat :=
 match l with
 | [] => 0
 | c :: r => if zc3 c then skipN r + 1 else if _hn : noteB (c :: r) then noteN (c :: r) + skipN ((c :: r).drop (noteN (c :: r))) else 0
termination_by l.length
decreasing_by
 · simp
 · have := zey _ _hn
   simp only [zKa, zK2];omega
theorem zax : skipN [] = 0 := by rw [skipN]
theorem zen (c : UInt8) (r : List UInt8) (h : zc3 c = true) : skipN (c :: r) = skipN r + 1 := by rw [skipN]; simp [h]
theorem zfa (l : List UInt8) (h : noteB l = true) : skipN l = noteN l + skipN (l.drop (noteN l)) := by
 match l, h with
 | c :: r, h =>
  have hb : zc3 c = false := by
   match r, h with
   | b :: r, h =>
    simp [noteB] at h
    obtain ⟨rfl, rfl⟩ := h;decide
   | [], h => simp [noteB] at h
  rw [skipN]; simp only [hb, h]; simp
 | [], h => simp [noteB] at h
theorem zcx (c : UInt8) (r : List UInt8) (h : zc3 c = false) (hn : noteB (c :: r) = false) : skipN (c :: r) = 0 := by
 rw [skipN]; simp [h, hn]
theorem zh8 : ∀ (n : Nat) (l : List UInt8), l.length ≤ n → skipN l ≤ l.length
 | 0, l, h => by
  obtain rfl : l = [] := List.length_eq_zero_iff.1 (by omega);rw [zax]; exact zJw _
 | n + 1, [], h => by rw [zax]; exact zJw _
 | n + 1, c :: r, h => by
  by_cases hb : zc3 c = true
  · rw [zen c r hb]
    have := zh8 n r (by simp at h; omega);simp; omega
  · by_cases hn : noteB (c :: r) = true
    · rw [zfa _ hn]
      have h2 := zey _ hn;have h3 := zij (c :: r);have := zh8 n ((c :: r).drop (noteN (c :: r))) (by simp only [zKa]; simp at h ⊢; omega);simp only [zKa] at this;omega
    · rw [zcx c r (by simpa using hb) (by simpa using hn)]
      exact zK8 _
theorem zif : ∀ (n : Nat) (l : List UInt8), l.length ≤ n → l.drop (skipN l) = [] ∨ ∃ c r, l.drop (skipN l) = c :: r ∧ zc3 c = false ∧ noteB (c :: r) = false
 | 0, l, h => by
  obtain rfl : l = [] := List.length_eq_zero_iff.1 (by omega);exact .inl (by simp)
 | n + 1, [], h => .inl (by simp)
 | n + 1, c :: r, h => by
  by_cases hb : zc3 c = true
  · rw [zen c r hb]
    exact zif n r (by simp at h; omega)
  · by_cases hn : noteB (c :: r) = true
    · rw [zfa _ hn]
      have h2 := zey _ hn;have := zif n ((c :: r).drop (noteN (c :: r))) (by simp only [zKa]; simp at h ⊢; omega);rw [List.drop_drop] at this;exact this
    · rw [zcx c r (by simpa using hb) (by simpa using hn)]
      exact .inr ⟨c, r, rfl, by simpa using hb, by simpa using hn⟩
def escB (d : UInt8) : Option UInt8 := if d.toNat = 92 then some 92 else if d.toNat = 34 then some 34 else if d.toNat = 110 then some 10 else none
def strV : List UInt8 → Option (List UInt8 × Nat)
 | [] => none
 | c :: r =>
  if c.toNat = 34 then some ([], 1)
  else if c.toNat < 32 then none
  else if c.toNat = 92 then
   match r with
   | [] => none
   | d :: r' => match escB d with
    | none => none
    | some e => (strV r').map fun x => (e :: x.1, x.2 + 2)
  else (strV r).map fun x => (c :: x.1, x.2 + 1)
def decV (n : Nat) (l : List UInt8) : Nat := l.foldl (fun a c => a * 10 + (c.toNat - 48)) n
def intN (l : List UInt8) : Nat := if (digN l = 1 ∨ (l.getD 0 0).toNat ≠ 48) ∧ decV 0 (l.take (digN l)) ≤ 9223372036854775807 then digN l else 0
def leadB (l : List UInt8) : Bool := decide (l.take 2 = [102, 39])
def fltB (l : List UInt8) : Bool := decide (18 ≤ l.length) && ((l.drop 2).take 16).all hexB
def words : List (List UInt8) := [[102, 117, 110], [108, 101, 116], [114, 101, 99], [105, 110], [105, 102], [116, 104, 101, 110], [101, 108, 115, 101], [99, 97, 115, 101], [111, 102], [101, 110, 100], [116, 114, 117, 101], [102, 97, 108, 115, 101], [105, 110, 116], [98, 111, 111, 108], [115, 116, 114], [102, 108, 111, 97, 116], [100, 121, 110], [97, 110, 121], [110, 111, 110, 101], [116, 121, 112, 101]]
def isW (l : List UInt8) : Bool := decide (l ∈ words)
def twos : List (List UInt8) := [[61, 62], [45, 62], [61, 61], [46, 46], [43, 46], [45, 46], [42, 46], [47, 46], [60, 46]]
def ones : List UInt8 := [40, 41, 123, 125, 91, 93, 44, 59, 58, 46, 61, 124, 43, 45, 42, 47, 60, 94]
def signN (l : List UInt8) : Nat := if l.take 2 ∈ twos then 2 else if l.getD 0 0 ∈ ones then 1 else 0
def tok : List UInt8 → Option ((Nat × List UInt8) × Nat)
 | [] => none
 | c :: r =>
  if leadB (c :: r) then (if fltB (c :: r) then some ((5, (c :: r).take 18), 18) else none)
  else if c.toNat = 34 then (strV r).map fun x => ((6, x.1), x.2 + 1)
  else if c.toNat = 35 then (if nameN r = 0 then none else some ((3, r.take (nameN r)), nameN r + 1))
  else if digB c then (if intN (c :: r) = 0 then none else some ((4, (c :: r).take (intN (c :: r))), intN (c :: r)))
  else if lowB c then some ((if isW ((c :: r).take (nameN (c :: r))) then 7 else 1, (c :: r).take (nameN (c :: r))), nameN (c :: r))
  else if highB c then some ((2, (c :: r).take (zc4 (c :: r))), zc4 (c :: r))
  else if signN (c :: r) = 0 then none
  else some ((8, (c :: r).take (signN (c :: r))), signN (c :: r))
theorem zck : strV [] = none := by rw [strV.eq_def]
theorem zbd (c : UInt8) (r : List UInt8) : strV (c :: r) =
 (if c.toNat = 34 then some ([], 1)
 else if c.toNat < 32 then none
 else if c.toNat = 92 then
  match r with
  | [] => none
  | d :: r' => match escB d with
   | none => none
   | some e => (strV r').map fun x => (e :: x.1, x.2 + 2)
 else (strV r).map fun x => (c :: x.1, x.2 + 1)) := by rw [strV.eq_def]
theorem zk7 : ∀ (n : Nat) (l : List UInt8) (x : List UInt8 × Nat), l.length ≤ n → strV l = some x → 1 ≤ x.2 ∧ x.2 ≤ l.length
 | 0, l, x, h, hs => by
  obtain rfl : l = [] := List.length_eq_zero_iff.1 (by omega);rw [zck] at hs;cases hs
 | n + 1, [], x, h, hs => by rw [zck] at hs; cases hs
 | n + 1, c :: r, x, h, hs => by
  simp only [zK2] at h;rw [zbd] at hs;split at hs
  · cases hs; simp
  · split at hs
    · cases hs
    · split at hs
      · match r, hs, h with
        | [], hs, _ => cases hs
        | d :: r', hs, h =>
         dsimp only at hs
         cases he : escB d with
         | none => rw [he] at hs; cases hs
         | some e =>
          rw [he] at hs;simp only [zKg] at hs;obtain ⟨y, hy, rfl⟩ := hs;have := zk7 n r' y (by simp at h; omega) hy;simp; omega
      · simp only [zKg] at hs
        obtain ⟨y, hy, rfl⟩ := hs;have := zk7 n r y (by omega) hy;simp; omega
theorem zdg (p q : UInt8 → Bool) (c : UInt8) (r : List UInt8) (h : p c = true) : spanN p q (c :: r) = (r.takeWhile q).length + 1 := by simp [spanN, h]
theorem zdz (p q : UInt8 → Bool) (c : UInt8) (r : List UInt8) (h : p c = false) : spanN p q (c :: r) = 0 := by simp [spanN, h]
theorem zqu (c : UInt8) (r : List UInt8) : signN (c :: r) ≤ (c :: r).length := by
 unfold signN;split
 · rename_i h
   match r, h with
   | [], h => simp [twos] at h
   | _ :: _, _ => simp
 · split <;> simp
theorem ztm (l : List UInt8) : intN l ≤ l.length := by
 unfold intN;split
 · exact zcl _ _ _
 · exact zK8 _
theorem zg2 {l : List UInt8} {t : Nat × List UInt8} {n : Nat} (h : tok l = some (t, n)) : 1 ≤ n ∧ n ≤ l.length := by
 match l, h with
 | [], h => simp [tok] at h
 | c :: r, h =>
  have a1 := zcl lowB zbj (c :: r);have a2 := zcl highB aliB (c :: r);have a3 := zcl lowB zbj r;have a4 := zqu c r;have a5 := ztm (c :: r);rw [tok] at h;split at h
  · split at h
    · rename_i hf
      simp [fltB] at hf
      cases h
      simp; omega
    · cases h
  split at h
  · simp only [zKg] at h
    obtain ⟨x, hx, e⟩ := h;have := zk7 r.length r x (zJw _) hx;cases e
    simp; omega
  split at h
  · split at h
    · cases h
    · cases h
      simp only [nameN, zK2] at *; omega
  split at h
  · split at h
    · cases h
    · cases h; omega
  split at h
  · rename_i hl
    cases h
    have := zdg lowB zbj c r hl;simp only [nameN] at *; omega
  split at h
  · rename_i hl
    cases h
    have := zdg highB aliB c r hl;simp only [zc4] at *; omega
  split at h
  · cases h
  · cases h; omega
abbrev Tk := Nat × List UInt8 × Nat
def prep (pre : List Tk) : Except Nat (List Tk) → Except Nat (List Tk)
 | .ok l => .ok (pre ++ l)
 | .error e => .error e
def lexR (l : List UInt8) (k : Nat) : Except Nat (List Tk) :=
 match l.drop (skipN l) with
 | [] => .ok [(0, [], k + skipN l)]
 | _ :: _ =>
  match _ht : tok (l.drop (skipN l)) with
  | none => .error (k + skipN l)
  | some (t, n) => prep [(t.1, t.2, k + skipN l)] (lexR (l.drop (skipN l + n)) (k + skipN l + n))
termination_by l.length
decreasing_by
 have := zg2 _ht;simp only [zKa] at this ⊢;omega
theorem zaz (l : List UInt8) (k : Nat) (h : l.drop (skipN l) = []) : lexR l k = .ok [(0, [], k + skipN l)] := by
 rw [lexR, h]
theorem zcd (l : List UInt8) (k : Nat) (h : l.drop (skipN l) ≠ []) (ht : tok (l.drop (skipN l)) = none) : lexR l k = .error (k + skipN l) := by
 rw [lexR];split
 · rename_i e; exact absurd e h
 · split
   · rfl
   · rename_i e; rw [ht] at e; cases e
theorem zbw (l : List UInt8) (k : Nat) (t : Nat × List UInt8) (n : Nat) (ht : tok (l.drop (skipN l)) = some (t, n)) : lexR l k = prep [(t.1, t.2, k + skipN l)] (lexR (l.drop (skipN l + n)) (k + skipN l + n)) := by
 rw [lexR];split
 · rename_i e; rw [e] at ht; simp [tok] at ht
 · split
   · rename_i e; rw [ht] at e; cases e
   · rename_i e; rw [ht] at e; cases e; rfl
theorem zic (x : Except Nat (List Tk)) : prep [] x = x := by cases x <;> rfl
theorem zjk (a b : List Tk) (x : Except Nat (List Tk)) : prep a (prep b x) = prep (a ++ b) x := by cases x <;> simp [prep]
theorem zbf (c : UInt8) (r : List UInt8) (k : Nat) (h : zc3 c = true) : lexR (c :: r) k = lexR r (k + 1) := by
 have hs := zen c r h;have hd : ∀ j, (c :: r).drop (skipN r + 1 + j) = r.drop (skipN r + j) := fun j => by rw [show skipN r + 1 + j = (skipN r + j) + 1 by omega]; rfl
 by_cases h0 : r.drop (skipN r) = []
 · rw [zaz _ _ h0, zaz (c :: r) k (by rw [hs]; exact h0), hs]
   congr 4; omega
 · cases ht : tok (r.drop (skipN r)) with
   | none =>
    rw [zcd _ _ h0 ht, zcd (c :: r) k (by rw [hs]; exact h0) (by rw [hs]; exact ht), hs];congr 1; omega
   | some x =>
    rw [zbw _ _ x.1 x.2 ht, zbw (c :: r) k x.1 x.2 (by rw [hs]; exact ht), hs, hd, show k + (skipN r + 1) = k + 1 + skipN r by omega]
theorem zpe (l : List UInt8) (k : Nat) (h : noteB l = true) : lexR l k = lexR (l.drop (noteN l)) (k + noteN l) := by
 have hs := zfa l h;obtain ⟨m, hm⟩ : ∃ m, noteN l = m := ⟨_, rfl⟩;rw [hm] at hs ⊢;by_cases h0 : (l.drop m).drop (skipN (l.drop m)) = []
 · rw [zaz _ _ h0, zaz l k (by rw [hs, ← List.drop_drop]; exact h0), hs, Nat.add_assoc]
 · cases ht : tok ((l.drop m).drop (skipN (l.drop m))) with
   | none =>
    rw [zcd _ _ h0 ht, zcd l k (by rw [hs, ← List.drop_drop]; exact h0) (by rw [hs, ← List.drop_drop]; exact ht), hs, Nat.add_assoc]
   | some x =>
    rw [zbw _ _ x.1 x.2 ht, zbw l k x.1 x.2 (by rw [hs, ← List.drop_drop]; exact ht), hs, List.drop_drop];simp only [Nat.add_assoc]
def lexA (l : List UInt8) : Except (Nat × Nat) (List Tk) :=
 if 1048576 < l.length then .error (6, 0)
 else if bd l 0 < l.length then .error (2, bd l 0)
 else match lexR l 0 with
  | .ok ts => .ok ts
  | .error p => .error (3, p)
end Go.Proofs.YtidmeodmkcomlaaGreatDoor
