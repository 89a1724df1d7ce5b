/- Short names for laws of lists; steps of -/
import Derived.OrdersHeld
import Derived.Lib.Hide
import Derived.Below
import Derived.Laws.Rows
import Derived.Maps.AppendAt
import Derived.Deep.RegionHeld3
import Derived.Lib.DecodeN
import Derived.Lib.Small
namespace Go.Proofs.YtidmeodmkcomlaaGreatDoor
open Go Go.Proofs Go.RowKit
theorem gA {α : Type _} {xs : List α} {i : Nat} : xs.toArray[i]? = xs[i]? := List.getElem?_toArray
theorem gB {α : Type _} {a : α} {l : List α} : (a :: l)[0]? = some a := List.getElem?_cons_zero
theorem gC {α : Type _} {a : α} {l : List α} {i : Nat} : (a :: l)[i + 1]? = l[i]? := List.getElem?_cons_succ
theorem sA {α : Type _} {l : List α} {i : Nat} {a : α} : l.toArray.setIfInBounds i a = (l.set i a).toArray := List.setIfInBounds_toArray ..
theorem sB {α : Type _} {x : α} {xs : List α} {a : α} : (x :: xs).set 0 a = a :: xs := List.set_cons_zero
theorem sC {α : Type _} {x : α} {xs : List α} {n : Nat} {a : α} : (x :: xs).set (n + 1) a = x :: xs.set n a := List.set_cons_succ
theorem sp6 (a b c d e f : Bool) : a = false ∨ (a = true ∧ (b = false ∨ (b = true ∧ (c = false ∨ (c = true ∧ (d = false ∨ (d = true ∧ (e = false ∨ (e = true ∧ (f = false ∨ f = true)))))))))) := by
 cases a <;> cases b <;> cases c <;> cases d <;> cases e <;> cases f <;> simp
theorem sp4 (a b c d : Bool) : a = false ∨ (a = true ∧ (b = true ∨ (b = false ∧ (c = false ∨ (c = true ∧ (d = false ∨ d = true)))))) := by
 cases a <;> cases b <;> cases c <;> cases d <;> simp
theorem zJv : type_of% @Lib.hid := @Lib.hid
theorem zJw : type_of% @Nat.le_refl := @Nat.le_refl
theorem zJx : type_of% @Below.refl := @Below.refl
theorem zJy : type_of% @Nat.lt_of_lt_of_le := @Nat.lt_of_lt_of_le
theorem zJz : type_of% @Bool.eq_iff_iff := @Bool.eq_iff_iff
theorem zK0 : type_of% @World.cell?_setCell_other := @World.cell?_setCell_other
theorem zK1 : type_of% @List.getElem?_eq_getElem := @List.getElem?_eq_getElem
theorem zK2 : type_of% @List.length_cons := @List.length_cons
theorem zK3 : type_of% @List.getD_eq_getElem?_getD := @List.getD_eq_getElem?_getD
theorem zK4 : type_of% @Nat.le_trans := @Nat.le_trans
theorem zK5 : type_of% @List.length_append := @List.length_append
theorem zK6 : type_of% @Bool.and_eq_true := @Bool.and_eq_true
theorem zK7 : type_of% @List.mem_singleton := @List.mem_singleton
theorem zK8 : type_of% @Nat.zero_le := @Nat.zero_le
theorem zK9 : type_of% @List.take_succ_eq_append_getElem := @List.take_succ_eq_append_getElem
theorem zKa : type_of% @List.length_drop := @List.length_drop
theorem zKb : type_of% @World.cell?_of_block := @World.cell?_of_block
theorem zKc : type_of% @List.length_nil := @List.length_nil
theorem zKd : type_of% @List.length_map := @List.length_map
theorem zKe : type_of% @List.getElem_mem := @List.getElem_mem
theorem zKf : type_of% @List.mem_cons := @List.mem_cons
theorem zKg : type_of% @Option.map_eq_some_iff := @Option.map_eq_some_iff
theorem zKh : type_of% @World.size_alloc := @World.size_alloc
theorem zKi : type_of% @List.length_take := @List.length_take
theorem zKj : type_of% @List.cons_append := @List.cons_append
theorem zKk : type_of% @List.count_append := @List.count_append
theorem zKl : type_of% @List.getElem?_append_right := @List.getElem?_append_right
theorem zKm : type_of% @List.getElem?_append_left := @List.getElem?_append_left
theorem zKn : type_of% @List.not_mem_nil := @List.not_mem_nil
theorem zKo : type_of% @List.getElem_of_mem := @List.getElem_of_mem
theorem zKp : type_of% @Below.heap_setCell := @Below.heap_setCell
theorem zKq : type_of% @decide_eq_true_eq := @decide_eq_true_eq
theorem zKr : type_of% @beq_eq_false_iff_ne := @beq_eq_false_iff_ne
theorem zKs : type_of% @decide_eq_false_iff_not := @decide_eq_false_iff_not
theorem zKt : type_of% @Option.some.injEq := @Option.some.injEq
theorem zKu : type_of% @Prod.mk.injEq := @Prod.mk.injEq
section
variable {P : Program} {ops : Array Oper} {Q : Exit → Act → World → Prop} {md : Region.Mode} {S : World → Prop}
theorem tkH (i : Nat) {oi : Oper} {v : Value} {fuel : Nat} {listed : Array Bool} {a : Act} {w : World}
 (h : wpAnyH P md ops Q S fuel (listed.setIfInBounds i true) (a.put oi.dst v) w)
 (hi : ops[i]? = some oi := by simp only [gA, gB, gC]; rfl)
 (hs : Region.noSelect ops = true := by kernel_rfl) (hf : Region.free md ops listed i = true := by kernel_rfl) (hr : (Region.ready md ops listed).contains i = true := by kernel_rfl)
 (hQ : ∀ c a w, Q (.panic c) (a.put oi.dst v) w → Q (.panic c) a w := by exact fun _ _ _ h => h) (hw : Region.wanted oi (yielded ops a.tmps) = true := by rfl)
 (hy : ∀ w, S w → (execOp a.eval oi).run P w = .ok (.value v) w := by (intro w hSw; (try dsimp only at hSw); go_simp; try with_reducible rfl)) (hS : S w := by assumption) :
 wpAnyH P md ops Q S (fuel + 1) listed a w := wpAnyH_take hi hs hf hr hQ (.inl ⟨hw, hy⟩) hS h
theorem rdH (i : Nat) {o : Oper} {fuel : Nat} {listed : Array Bool} {a : Act} {w : World}
 (h : ∀ K' : Act → World → Prop, Shut (∀ a w, S w → (S w → wpAnyH P md ops Q S fuel (listed.setIfInBounds i true) a w) → K' a w) → if Region.wanted o (yielded ops a.tmps) = true then Oper.wp P o a w K' Q else K' (a.put o.dst undef) w)
 (hr : Region.ready md ops listed = [i] := by kernel_rfl) (ho : ops[i]? = some o := by simp only [gA, gB, gC]; rfl) :
 wpAnyH P md ops Q S (fuel + 1) listed a w := wpAnyH_ready hr (by simp) (AllReadyH.cons ho h AllReadyH.nil)
end
end Go.Proofs.YtidmeodmkcomlaaGreatDoor
namespace Go.Proofs.YtidmeodmkcomlaaGreatDoor
section
variable {α β γ δ : Type}
def all2 (r : α → β → Bool) : List α → List β → Bool
 | [], [] => true
 | a :: l, b :: m => r a b && all2 r l m
 | _, _ => false
theorem zep {r : α → β → Bool} : ∀ {l : List α} {m : List β}, all2 r l m = true → l.length = m.length
 | [], [], _ => rfl
 | _ :: l, _ :: m, h => by
  simp only [all2, zK6] at h;simp [zep h.2]
 | [], _ :: _, h => by simp [all2] at h
 | _ :: _, [], h => by simp [all2] at h
theorem zfv {r : α → β → Bool} : ∀ {l l' : List α} {m m' : List β}, l.length = m.length → all2 r (l ++ l') (m ++ m') = (all2 r l m && all2 r l' m')
 | [], _, [], _, _ => by simp [all2]
 | _ :: l, _, _ :: m, _, h => by
  simp only [zKj, all2];rw [zfv (by simpa using h), Bool.and_assoc]
 | [], _, _ :: _, _, h => by simp at h
 | _ :: _, _, [], _, h => by simp at h
theorem zdf {r s : α → β → Bool} : ∀ {l : List α} {m : List β}, (∀ a ∈ l, ∀ b ∈ m, r a b = s a b) → all2 r l m = all2 s l m
 | [], [], _ => rfl
 | a :: l, b :: m, h => by
  simp only [all2];rw [h a (by simp) b (by simp), zdf (fun a ha b hb => h a (by simp [ha]) b (by simp [hb]))]
 | [], _ :: _, _ => rfl
 | _ :: _, [], _ => rfl
theorem zla {r s : α → β → Bool} : ∀ {l : List α} {m : List β}, all2 (fun a b => r a b && s a b) l m = (all2 r l m && all2 s l m)
 | [], [] => rfl
 | a :: l, b :: m => by
  simp only [all2];rw [zla];cases r a b <;> cases s a b <;> cases all2 r l m <;> rfl
 | [], _ :: _ => rfl
 | _ :: _, [] => rfl
theorem zec {r : α → α → Bool} : ∀ {l : List α}, (∀ a ∈ l, r a a = true) → all2 r l l = true
 | [], _ => rfl
 | a :: l, h => by
  simp only [all2];rw [h a (by simp), zec (fun a ha => h a (by simp [ha]))];rfl
theorem zs8 {r : α → β → Bool} {f : γ → α} {g : δ → β} : ∀ {l : List γ} {m : List δ}, all2 r (l.map f) (m.map g) = all2 (fun a b => r (f a) (g b)) l m
 | [], [] => rfl
 | a :: l, b :: m => by
  simp only [all2, List.map_cons];rw [zs8]
 | [], _ :: _ => rfl
 | _ :: _, [] => rfl
theorem zjj {r : α → β → Bool} {f : γ → List α} {g : δ → List β} : ∀ {l : List γ} {m : List δ}, l.length = m.length → all2 (fun a b => decide ((f a).length = (g b).length)) l m = true →
 all2 r (l.flatMap f) (m.flatMap g) = all2 (fun a b => all2 r (f a) (g b)) l m
 | [], [], _, _ => rfl
 | a :: l, b :: m, h, hl => by
  simp only [all2, zK6, zKq] at hl;simp only [List.flatMap_cons, all2];rw [zfv hl.1, zjj (by simpa using h) hl.2]
 | [], _ :: _, h, _ => by simp at h
 | _ :: _, [], h, _ => by simp at h
end
def wk (kids : Nat → List Nat) : Nat → Nat → List Nat
 | 0, _ => []
 | f + 1, i => i :: (kids i).flatMap (wk kids f)
def Dn (kids : Nat → List Nat) (n : Nat) : Prop := ∀ i, i < n → ∀ k ∈ kids i, k < i
theorem zii {α β : Type} {f g : α → List β} : ∀ {l : List α}, (∀ a ∈ l, f a = g a) → l.flatMap f = l.flatMap g
 | [], _ => rfl
 | a :: l, h => by
  simp only [List.flatMap_cons];rw [h a (by simp), zii (fun a ha => h a (by simp [ha]))]
theorem zuc {kids : Nat → List Nat} {n : Nat} (hd : Dn kids n) : ∀ f g i, i < n → i < f → i < g → wk kids f i = wk kids g i
 | 0, _, _, _, h, _ => by omega
 | _ + 1, 0, _, _, _, h => by omega
 | f + 1, g + 1, i, hn, hf, hg => by
  simp only [wk];rw [zii fun k hk => zuc hd f g k (by have := hd i hn k hk; omega) (by have := hd i hn k hk; omega) (by have := hd i hn k hk; omega)]
def walk (kids : Nat → List Nat) (i : Nat) : List Nat := wk kids (i + 1) i
theorem zgk {kids : Nat → List Nat} {n i : Nat} (hd : Dn kids n) (hi : i < n) : walk kids i = i :: (kids i).flatMap (walk kids) := by
 show wk kids (i + 1) i = _
 simp only [wk];rw [zii fun k hk => zuc hd i (k + 1) k (by have := hd i hi k hk; omega) (hd i hi k hk) (by omega)];rfl
theorem zek {kids : Nat → List Nat} {n : Nat} (hd : Dn kids n) : ∀ b i, i < b → i < n → ∀ j ∈ walk kids i, j ≤ i
 | 0, _, h, _ => by omega
 | b + 1, i, hb, hi => by
  intro j hj;rw [zgk hd hi] at hj;rcases List.mem_cons.1 hj with rfl | hj
  · exact zJw _
  · obtain ⟨k, hk, hjk⟩ := List.mem_flatMap.1 hj
    have h1 := hd i hi k hk;have := zek hd b k (by omega) (by omega) j hjk;omega
def smf (r : Nat → Nat → Bool) (kids kids' : Nat → List Nat) : Nat → Nat → Nat → Bool
 | 0, _, _ => false
 | f + 1, i, j => r i j && all2 (smf r kids kids' f) (kids i) (kids' j)
theorem zqw {r : Nat → Nat → Bool} {kids kids' : Nat → List Nat} {n : Nat} (hd : Dn kids n) : ∀ f g i j, i < n → i < f → i < g → smf r kids kids' f i j = smf r kids kids' g i j
 | 0, _, _, _, _, h, _ => by omega
 | _ + 1, 0, _, _, _, _, h => by omega
 | f + 1, g + 1, i, j, hn, hf, hg => by
  simp only [smf];rw [zdf fun k hk k' _ => zqw hd f g k k' (by have := hd i hn k hk; omega) (by have := hd i hn k hk; omega) (by have := hd i hn k hk; omega)]
def same (r : Nat → Nat → Bool) (kids kids' : Nat → List Nat) (i j : Nat) : Bool := smf r kids kids' (i + 1) i j
theorem zf7 {r : Nat → Nat → Bool} {kids kids' : Nat → List Nat} {n i : Nat} (hd : Dn kids n) (hi : i < n) (j : Nat) : same r kids kids' i j = (r i j && all2 (same r kids kids') (kids i) (kids' j)) := by
 show smf r kids kids' (i + 1) i j = _
 simp only [smf];rw [zdf fun k hk k' _ => zqw hd i (k + 1) k k' (by have := hd i hi k hk; omega) (hd i hi k hk) (by omega)];rfl
theorem zj5 {r : Nat → Nat → Bool} {kids kids' : Nat → List Nat} {n m : Nat} (hd : Dn kids n) (hd' : Dn kids' m) (hl : ∀ i j, i < n → j < m → r i j = true → (kids i).length = (kids' j).length) :
 ∀ b i j, i < b → i < n → j < m → ∀ X Y, all2 r (walk kids i ++ X) (walk kids' j ++ Y) = (same r kids kids' i j && all2 r X Y)
 | 0, _, _, h, _, _ => by omega
 | b + 1, i, j, hb, hi, hj => by
  intro X Y;rw [zgk hd hi, zgk hd' hj, zf7 hd hi];simp only [zKj, all2]
  cases hr : r i j with
  | false => simp
  | true =>
   have hlen := hl i j hi hj hr;simp only [Bool.true_and]
   have key : ∀ (l l' : List Nat), (∀ k ∈ l, k < i) → (∀ k ∈ l', k < j) → l.length = l'.length → all2 r (l.flatMap (walk kids) ++ X) (l'.flatMap (walk kids') ++ Y) = (all2 (same r kids kids') l l' && all2 r X Y) := by
    intro l
    induction l with
    | nil =>
     intro l' _ _ h
     cases l' with
     | nil => simp [all2]
     | cons _ _ => simp at h
    | cons k l ih =>
     intro l' h1 h2 h
     cases l' with
     | nil => simp at h
     | cons k' l' =>
      simp only [List.flatMap_cons, List.append_assoc, all2];have hk := h1 k (by simp);have hk' := h2 k' (by simp);rw [zj5 hd hd' hl b k k' (by omega) (by omega) (by omega), ih l' (fun x hx => h1 x (by simp [hx])) (fun x hx => h2 x (by simp [hx])) (by simpa using h), Bool.and_assoc]
   exact key _ _ (hd i hi) (hd' j hj) hlen
theorem zlw {r : Nat → Nat → Bool} {kids kids' : Nat → List Nat} {n m : Nat} (hd : Dn kids n) (hd' : Dn kids' m) (hl : ∀ i j, i < n → j < m → r i j = true → (kids i).length = (kids' j).length) :
 ∀ (l l' : List Nat), (∀ k ∈ l, k < n) → (∀ k ∈ l', k < m) → l.length = l'.length → all2 r (l.flatMap (walk kids)) (l'.flatMap (walk kids')) = all2 (same r kids kids') l l'
 | [], [], _, _, _ => rfl
 | k :: l, k' :: l', h1, h2, h => by
  simp only [List.flatMap_cons, all2];rw [zj5 hd hd' hl (k + 1) k k' (by omega) (h1 k (by simp)) (h2 k' (by simp)), zlw hd hd' hl l l' (fun x hx => h1 x (by simp [hx])) (fun x hx => h2 x (by simp [hx])) (by simpa using h)]
 | [], _ :: _, _, _, h => by simp at h
 | _ :: _, [], _, _, h => by simp at h
theorem zw6 {r : Nat → Nat → Bool} {kids kids' : Nat → List Nat} {n m i j : Nat} (hd : Dn kids n) (hd' : Dn kids' m) (hl : ∀ i j, i < n → j < m → r i j = true → (kids i).length = (kids' j).length)
 (hi : i < n) (hj : j < m) : all2 r (walk kids i) (walk kids' j) = same r kids kids' i j := by
 have := zj5 hd hd' hl (i + 1) i j (by omega) hi hj [] [];simpa [all2] using this
set_option maxHeartbeats 4000000
def D (l : List UInt8) : Nat × Nat := Go.Lib.decodeN l.length (l.getD 0 0).toNat (l.getD 1 0).toNat (l.getD 2 0).toNat (l.getD 3 0).toNat
theorem zma (l : List UInt8) (i : Nat) : (ByteArray.mk l.toArray).get! i = l.getD i 0 := by
 simp only [ByteArray.get!, zK3];by_cases h : i < l.length
 · simp [h]
 · simp [h]; rfl
theorem zA8 (l : List UInt8) : Go.Utf8.decode (ByteArray.mk l.toArray) 0 = D l := by
 have hs : (ByteArray.mk l.toArray).size = l.length := by simp [ByteArray.size]
 unfold D;rw [Go.Lib.decode_at, hs];simp only [zma, Nat.sub_zero, Nat.zero_add]
theorem zbl (l : List UInt8) (h : 0 < l.length) : 1 ≤ (D l).2 ∧ (D l).2 ≤ 4 ∧ (D l).2 ≤ l.length ∧ (D l).1 ≤ 1114111 := by
 have h0 := (l.getD 0 0).toNat_lt;unfold D Go.Lib.decodeN;repeat' split
 all_goals (dsimp only; omega)
theorem ztp (l : List UInt8) (h : ¬ ((D l).1 = 65533 ∧ (D l).2 = 1)) : Go.Lib.runeLen ((D l).1 : Int) = ((D l).2 : Int) := by
 revert h
 unfold D Go.Lib.decodeN;have h0 := (l.getD 0 0).toNat_lt;repeat' split
 all_goals (dsimp only; intro h)
 all_goals first | (exfalso; omega) | (unfold Go.Lib.runeLen; (repeat' split) <;> omega)
def isBad (l : List UInt8) : Prop := (D l).1 = 65533 ∧ (D l).2 = 1
instance (l : List UInt8) : Decidable (isBad l) := inferInstanceAs (Decidable (_ ∧ _))
def sg (l : List UInt8) (k : Nat) : List (Nat × Nat) :=
 if _h : 0 < l.length then
  if isBad l then [] else (k, (D l).1) :: sg (l.drop (D l).2) (k + (D l).2)
 else []
termination_by l.length
decreasing_by
 have := zbl l _h;simp only [zKa];omega
def bd (l : List UInt8) (k : Nat) : Nat :=
 if _h : 0 < l.length then
  if isBad l then k else bd (l.drop (D l).2) (k + (D l).2)
 else k
termination_by l.length
decreasing_by
 have := zbl l _h;simp only [zKa];omega
theorem zdq (l : List UInt8) (k : Nat) (h : l.length = 0) : sg l k = [] := by
 rw [sg, dif_neg (by omega)]
theorem zhy (l : List UInt8) (k : Nat) (h : isBad l) : sg l k = [] := by
 rw [sg]; split
 · rfl
 · rfl
theorem zex (l : List UInt8) (k : Nat) (h : 0 < l.length) (hb : ¬ isBad l) : sg l k = (k, (D l).1) :: sg (l.drop (D l).2) (k + (D l).2) := by
 rw [sg, dif_pos h, if_neg hb]
theorem zcw (l : List UInt8) (k : Nat) (h : l.length = 0) : bd l k = k := by
 rw [bd, dif_neg (by omega)]
theorem zfe (l : List UInt8) (k : Nat) (h : isBad l) : bd l k = k := by
 rw [bd]; split
 · rfl
 · rfl
theorem zd3 (l : List UInt8) (k : Nat) (h : 0 < l.length) (hb : ¬ isBad l) : bd l k = bd (l.drop (D l).2) (k + (D l).2) := by
 rw [bd, dif_pos h, if_neg hb]
theorem bd_le : ∀ (n : Nat) (l : List UInt8) (k : Nat), l.length ≤ n → k ≤ bd l k ∧ bd l k ≤ k + l.length
 | 0, l, k, h => by rw [zcw l k (by omega)]; omega
 | n + 1, l, k, h => by
  by_cases h0 : 0 < l.length
  · by_cases hb : isBad l
    · rw [zfe l k hb]; omega
    · have hd := zbl l h0
      have ih := bd_le n (l.drop (D l).2) (k + (D l).2) (by simp only [zKa]; omega);rw [zd3 l k h0 hb];simp only [zKa] at ih;omega
  · rw [zcw l k (by omega)]; omega
set_option maxRecDepth 100000 in
theorem zr9 (n m b0 b1 b2 b3 c1 c2 c3 : Nat) (hm : n ≤ m) (_h0 : b0 < 256) (h1 : 1 < n → c1 = b1) (h2 : 2 < n → c2 = b2) (h3 : 3 < n → c3 = b3)
 (hg : ¬ ((Go.Lib.decodeN n b0 b1 b2 b3).1 = 65533 ∧ (Go.Lib.decodeN n b0 b1 b2 b3).2 = 1)) : Go.Lib.decodeN m b0 c1 c2 c3 = Go.Lib.decodeN n b0 b1 b2 b3 := by
 by_cases a1 : 1 < n <;> by_cases a2 : 2 < n <;> by_cases a3 : 3 < n
 all_goals first | (exfalso; omega) | skip
 all_goals (try (have e1 := h1 a1; subst e1)) 
 all_goals (try (have e2 := h2 a2; subst e2))
 all_goals (try (have e3 := h3 a3; subst e3))
 all_goals (revert hg; unfold Go.Lib.decodeN)
 all_goals (repeat' split)
 all_goals (intro hg; first | rfl | (exfalso; omega) | (exfalso; simp at hg))
theorem zkw (a b : List UInt8) (h0 : 0 < a.length) (hb : ¬ isBad a) : D (a ++ b) = D a := by
 unfold D;have g : ∀ i, i < a.length → (a ++ b).getD i 0 = a.getD i 0 := fun i hi => by simp [zKm hi]
 rw [g 0 h0];refine zr9 _ _ _ _ _ _ _ _ _ (by simp) (a.getD 0 0).toNat_lt (fun h => by rw [g 1 h]) (fun h => by rw [g 2 h]) (fun h => by rw [g 3 h]) hb
end Go.Proofs.YtidmeodmkcomlaaGreatDoor
