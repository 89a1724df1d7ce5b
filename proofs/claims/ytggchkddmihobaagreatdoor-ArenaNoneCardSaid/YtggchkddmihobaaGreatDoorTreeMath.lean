/- Trees by numbers, as plain lists: the walk, the depth, and whether two are the same; each reckoned in two ways. -/
namespace Go.Proofs.YtggchkddmihobaaGreatDoor

section
variable {α β γ δ : Type}

/-- Pointwise, and of one length. -/
def all2 (r : α → β → Bool) : List α → List β → Bool
  | [], [] => true
  | a :: l, b :: m => r a b && all2 r l m
  | _, _ => false

theorem all2_length {r : α → β → Bool} : ∀ {l : List α} {m : List β}, all2 r l m = true → l.length = m.length
  | [], [], _ => rfl
  | _ :: l, _ :: m, h => by
    simp only [all2, Bool.and_eq_true] at h
    simp [all2_length h.2]
  | [], _ :: _, h => by simp [all2] at h
  | _ :: _, [], h => by simp [all2] at h

theorem all2_append {r : α → β → Bool} : ∀ {l l' : List α} {m m' : List β}, l.length = m.length → all2 r (l ++ l') (m ++ m') = (all2 r l m && all2 r l' m')
  | [], _, [], _, _ => by simp [all2]
  | _ :: l, _, _ :: m, _, h => by
    simp only [List.cons_append, all2]
    rw [all2_append (by simpa using h), Bool.and_assoc]
  | [], _, _ :: _, _, h => by simp at h
  | _ :: _, _, [], _, h => by simp at h

theorem all2_congr {r s : α → β → Bool} : ∀ {l : List α} {m : List β}, (∀ a ∈ l, ∀ b ∈ m, r a b = s a b) → all2 r l m = all2 s l m
  | [], [], _ => rfl
  | a :: l, b :: m, h => by
    simp only [all2]
    rw [h a (by simp) b (by simp), all2_congr (fun a ha b hb => h a (by simp [ha]) b (by simp [hb]))]
  | [], _ :: _, _ => rfl
  | _ :: _, [], _ => rfl

theorem all2_and {r s : α → β → Bool} : ∀ {l : List α} {m : List β}, all2 (fun a b => r a b && s a b) l m = (all2 r l m && all2 s l m)
  | [], [] => rfl
  | a :: l, b :: m => by
    simp only [all2]
    rw [all2_and]
    cases r a b <;> cases s a b <;> cases all2 r l m <;> rfl
  | [], _ :: _ => rfl
  | _ :: _, [] => rfl

theorem all2_refl {r : α → α → Bool} : ∀ {l : List α}, (∀ a ∈ l, r a a = true) → all2 r l l = true
  | [], _ => rfl
  | a :: l, h => by
    simp only [all2]
    rw [h a (by simp), all2_refl (fun a ha => h a (by simp [ha]))]
    rfl

theorem all2_swap {r : α → β → Bool} : ∀ {l : List α} {m : List β}, all2 r l m = all2 (fun b a => r a b) m l
  | [], [] => rfl
  | a :: l, b :: m => by
    simp only [all2]
    rw [all2_swap]
  | [], _ :: _ => rfl
  | _ :: _, [] => rfl

theorem all2_map {r : α → β → Bool} {f : γ → α} {g : δ → β} : ∀ {l : List γ} {m : List δ}, all2 r (l.map f) (m.map g) = all2 (fun a b => r (f a) (g b)) l m
  | [], [] => rfl
  | a :: l, b :: m => by
    simp only [all2, List.map_cons]
    rw [all2_map]
  | [], _ :: _ => rfl
  | _ :: _, [] => rfl

theorem all2_flat {r : α → β → Bool} {f : γ → List α} {g : δ → List β} : ∀ {l : List γ} {m : List δ}, l.length = m.length → all2 (fun a b => decide ((f a).length = (g b).length)) l m = true →
    all2 r (l.flatMap f) (m.flatMap g) = all2 (fun a b => all2 r (f a) (g b)) l m
  | [], [], _, _ => rfl
  | a :: l, b :: m, h, hl => by
    simp only [all2, Bool.and_eq_true, decide_eq_true_eq] at hl
    simp only [List.flatMap_cons, all2]
    rw [all2_append hl.1, all2_flat (by simpa using h) hl.2]
  | [], _ :: _, h, _ => by simp at h
  | _ :: _, [], h, _ => by simp at h

end

/-- The numbers of a part and of all in it, each ahead of its kids; f bounds how deep is looked. -/
def wk (kids : Nat → List Nat) : Nat → Nat → List Nat
  | 0, _ => []
  | f + 1, i => i :: (kids i).flatMap (wk kids f)

/-- Kids have lesser numbers. -/
def Dn (kids : Nat → List Nat) (n : Nat) : Prop := ∀ i, i < n → ∀ k ∈ kids i, k < i

theorem flat_congr {α β : Type} {f g : α → List β} : ∀ {l : List α}, (∀ a ∈ l, f a = g a) → l.flatMap f = l.flatMap g
  | [], _ => rfl
  | a :: l, h => by
    simp only [List.flatMap_cons]
    rw [h a (by simp), flat_congr (fun a ha => h a (by simp [ha]))]

theorem wk_fuel {kids : Nat → List Nat} {n : Nat} (hd : Dn kids n) : ∀ f g i, i < n → i < f → i < g → wk kids f i = wk kids g i
  | 0, _, _, _, h, _ => by omega
  | _ + 1, 0, _, _, _, h => by omega
  | f + 1, g + 1, i, hn, hf, hg => by
    simp only [wk]
    rw [flat_congr fun k hk => wk_fuel hd f g k (by have := hd i hn k hk; omega) (by have := hd i hn k hk; omega) (by have := hd i hn k hk; omega)]

/-- Of a part all in it. -/
def walk (kids : Nat → List Nat) (i : Nat) : List Nat := wk kids (i + 1) i

theorem walk_eq {kids : Nat → List Nat} {n i : Nat} (hd : Dn kids n) (hi : i < n) : walk kids i = i :: (kids i).flatMap (walk kids) := by
  show wk kids (i + 1) i = _
  simp only [wk]
  rw [flat_congr fun k hk => wk_fuel hd i (k + 1) k (by have := hd i hi k hk; omega) (hd i hi k hk) (by omega)]
  rfl

theorem walk_ne {kids : Nat → List Nat} (i : Nat) : walk kids i ≠ [] := by simp [walk, wk]

theorem walk_le {kids : Nat → List Nat} {n : Nat} (hd : Dn kids n) : ∀ b i, i < b → i < n → ∀ j ∈ walk kids i, j ≤ i
  | 0, _, h, _ => by omega
  | b + 1, i, hb, hi => by
    intro j hj
    rw [walk_eq hd hi] at hj
    rcases List.mem_cons.1 hj with rfl | hj
    · exact Nat.le_refl _
    · obtain ⟨k, hk, hjk⟩ := List.mem_flatMap.1 hj
      have h1 := hd i hi k hk
      have := walk_le hd b k (by omega) (by omega) j hjk
      omega

/-- Each is a kid of one at most. -/
def Un (kids : Nat → List Nat) (n : Nat) : Prop := ∀ p q j, p < n → q < n → j ∈ kids p → j ∈ kids q → p = q

theorem walk_up {kids : Nat → List Nat} {n : Nat} (hd : Dn kids n) : ∀ b i, i < b → i < n → ∀ j ∈ walk kids i, j = i ∨ ∃ p ∈ walk kids i, j ∈ kids p
  | 0, _, h, _ => by omega
  | b + 1, i, hb, hi => by
    intro j hj
    rw [walk_eq hd hi] at hj ⊢
    rcases List.mem_cons.1 hj with rfl | hj
    · exact .inl rfl
    · obtain ⟨k, hk, hjk⟩ := List.mem_flatMap.1 hj
      have h1 := hd i hi k hk
      rcases walk_up hd b k (by omega) (by omega) j hjk with rfl | ⟨p, hp, hj'⟩
      · exact .inr ⟨i, by simp, hk⟩
      · exact .inr ⟨p, List.mem_cons_of_mem _ (List.mem_flatMap.2 ⟨k, hk, hp⟩), hj'⟩

theorem walk_meet {kids : Nat → List Nat} {n : Nat} (hd : Dn kids n) (hu : Un kids n) (a b : Nat) (ha : a < n) (hb : b < n) : ∀ m j, n - j ≤ m → j ∈ walk kids a → j ∈ walk kids b → a ∈ walk kids b ∨ b ∈ walk kids a
  | 0, j, hm, hja, _ => by have := walk_le hd (a + 1) a (by omega) ha j hja; omega
  | m + 1, j, hm, hja, hjb => by
    have h1 := walk_le hd (a + 1) a (by omega) ha j hja
    rcases walk_up hd (a + 1) a (by omega) ha j hja with rfl | ⟨p, hp, hjp⟩
    · exact .inl hjb
    · rcases walk_up hd (b + 1) b (by omega) hb j hjb with rfl | ⟨q, hq, hjq⟩
      · exact .inr hja
      · have hpa := walk_le hd (a + 1) a (by omega) ha p hp
        have hqb := walk_le hd (b + 1) b (by omega) hb q hq
        obtain rfl := hu p q j (by omega) (by omega) hjp hjq
        have := hd p (by omega) j hjp
        exact walk_meet hd hu a b ha hb m p (by omega) hp hq

theorem walk_nodup {kids : Nat → List Nat} {n : Nat} (hd : Dn kids n) (hu : Un kids n) (hk : ∀ i, i < n → (kids i).Nodup) : ∀ b i, i < b → i < n → (walk kids i).Nodup
  | 0, _, h, _ => by omega
  | b + 1, i, hb, hi => by
    rw [walk_eq hd hi, List.nodup_cons]
    refine ⟨fun h => ?_, ?_⟩
    · obtain ⟨k, hk', hik⟩ := List.mem_flatMap.1 h
      have h1 := hd i hi k hk'
      have := walk_le hd (k + 1) k (by omega) (by omega) i hik
      omega
    · unfold List.Nodup
      rw [List.pairwise_flatMap]
      refine ⟨fun k hk' => walk_nodup hd hu hk b k (by have := hd i hi k hk'; omega) (by have := hd i hi k hk'; omega), ?_⟩
      have far : ∀ k1 k2, k1 ∈ kids i → k2 ∈ kids i → k1 ≠ k2 → k1 ∈ walk kids k2 → False := by
        intro k1 k2 h1 h2 hne hm
        have l1 := hd i hi k1 h1
        have l2 := hd i hi k2 h2
        rcases walk_up hd (k2 + 1) k2 (by omega) (by omega) k1 hm with rfl | ⟨p, hp, hkp⟩
        · exact hne rfl
        · have hle := walk_le hd (k2 + 1) k2 (by omega) (by omega) p hp
          have := hu p i k1 (by omega) hi hkp h1
          omega
      refine (hk i hi).imp_of_mem ?_
      intro k1 k2 h1 h2 hne x hx y hy e
      subst e
      have l1 := hd i hi k1 h1
      have l2 := hd i hi k2 h2
      rcases walk_meet hd hu k1 k2 (by omega) (by omega) _ x (Nat.le_refl _) hx hy with h | h
      · exact far k1 k2 h1 h2 hne h
      · exact far k2 k1 h2 h1 (Ne.symm hne) h

theorem nodup_len : ∀ (n : Nat) (l : List Nat), l.Nodup → (∀ x ∈ l, x < n) → l.length ≤ n
  | 0, l, _, h => by
    cases l with
    | nil => simp
    | cons a l => exact absurd (h a (by simp)) (by omega)
  | n + 1, l, hn, h => by
    have h1 := nodup_len n (l.erase n) (hn.erase n) (fun x hx => by
      have := h x (List.mem_of_mem_erase hx)
      have hne : x ≠ n := fun e => by
        subst e
        exact (hn.mem_erase_iff.1 hx).1 rfl
      omega)
    by_cases hm : n ∈ l
    · have := List.length_erase_of_mem hm
      omega
    · rw [List.erase_of_not_mem hm] at h1
      omega

theorem walk_length {kids : Nat → List Nat} {n i : Nat} (hd : Dn kids n) (hu : Un kids n) (hk : ∀ i, i < n → (kids i).Nodup) (hi : i < n) : (walk kids i).length ≤ n :=
  nodup_len n _ (walk_nodup hd hu hk (i + 1) i (by omega) hi) fun x hx => by
    have := walk_le hd (i + 1) i (by omega) hi x hx
    omega

/-- The greatest; 0 of none. -/
def most (l : List Nat) : Nat := l.foldl max 0

theorem foldl_max : ∀ (l : List Nat) (a : Nat), l.foldl max a = max a (most l)
  | [], a => by simp [most]
  | b :: l, a => by
    simp only [List.foldl_cons, most]
    rw [foldl_max l, foldl_max l (max 0 b)]
    omega
theorem most_cons (a : Nat) (l : List Nat) : most (a :: l) = max a (most l) := by
  show (a :: l).foldl max 0 = _
  rw [List.foldl_cons, foldl_max]
  omega
theorem most_append (l m : List Nat) : most (l ++ m) = max (most l) (most m) := by
  show (l ++ m).foldl max 0 = _
  rw [List.foldl_append, foldl_max]
  rfl
theorem most_le {l : List Nat} {a : Nat} (h : a ∈ l) : a ≤ most l := by
  induction l with
  | nil => simp at h
  | cons b l ih =>
    rw [most_cons]
    rcases List.mem_cons.1 h with rfl | h
    · omega
    · have := ih h; omega
theorem most_of_le {l : List Nat} {c : Nat} (h : ∀ a ∈ l, a ≤ c) : most l ≤ c := by
  induction l with
  | nil => simp [most]
  | cons b l ih =>
    rw [most_cons]
    have := h b (by simp)
    have := ih fun a ha => h a (by simp [ha])
    omega

/-- How many stand within one another; base: what else stands in a part. -/
def dpf (base : Nat → Nat) (kids : Nat → List Nat) : Nat → Nat → Nat
  | 0, _ => 0
  | f + 1, i => 1 + max (most ((kids i).map (dpf base kids f))) (base i)

theorem dpf_fuel {base : Nat → Nat} {kids : Nat → List Nat} {n : Nat} (hd : Dn kids n) : ∀ f g i, i < n → i < f → i < g → dpf base kids f i = dpf base kids g i
  | 0, _, _, _, h, _ => by omega
  | _ + 1, 0, _, _, _, h => by omega
  | f + 1, g + 1, i, hn, hf, hg => by
    simp only [dpf]
    rw [List.map_congr_left fun k hk => dpf_fuel hd f g k (by have := hd i hn k hk; omega) (by have := hd i hn k hk; omega) (by have := hd i hn k hk; omega)]

def depth (base : Nat → Nat) (kids : Nat → List Nat) (i : Nat) : Nat := dpf base kids (i + 1) i

theorem depth_eq {base : Nat → Nat} {kids : Nat → List Nat} {n i : Nat} (hd : Dn kids n) (hi : i < n) : depth base kids i = 1 + max (most ((kids i).map (depth base kids))) (base i) := by
  show dpf base kids (i + 1) i = _
  simp only [dpf]
  rw [List.map_congr_left fun k hk => dpf_fuel hd i (k + 1) k (by have := hd i hi k hk; omega) (hd i hi k hk) (by omega)]
  rfl

theorem depth_le {base : Nat → Nat} {kids : Nat → List Nat} {n c : Nat} (hd : Dn kids n) (hb : ∀ i, i < n → base i ≤ c) : ∀ b i, i < b → i < n → depth base kids i ≤ i + 1 + c
  | 0, _, h, _ => by omega
  | b + 1, i, hb', hi => by
    rw [depth_eq hd hi]
    have h1 : most ((kids i).map (depth base kids)) ≤ i + c := most_of_le fun a ha => by
      obtain ⟨k, hk, rfl⟩ := List.mem_map.1 ha
      have hk' := hd i hi k hk
      have := depth_le hd hb b k (by omega) (by omega)
      omega
    have := hb i hi
    omega

/-- Are two the same, part by part? -/
def smf (r : Nat → Nat → Bool) (kids kids' : Nat → List Nat) : Nat → Nat → Nat → Bool
  | 0, _, _ => false
  | f + 1, i, j => r i j && all2 (smf r kids kids' f) (kids i) (kids' j)

theorem smf_fuel {r : Nat → Nat → Bool} {kids kids' : Nat → List Nat} {n : Nat} (hd : Dn kids n) : ∀ f g i j, i < n → i < f → i < g → smf r kids kids' f i j = smf r kids kids' g i j
  | 0, _, _, _, _, h, _ => by omega
  | _ + 1, 0, _, _, _, _, h => by omega
  | f + 1, g + 1, i, j, hn, hf, hg => by
    simp only [smf]
    rw [all2_congr fun k hk k' _ => smf_fuel hd f g k k' (by have := hd i hn k hk; omega) (by have := hd i hn k hk; omega) (by have := hd i hn k hk; omega)]

def same (r : Nat → Nat → Bool) (kids kids' : Nat → List Nat) (i j : Nat) : Bool := smf r kids kids' (i + 1) i j

theorem same_eq {r : Nat → Nat → Bool} {kids kids' : Nat → List Nat} {n i : Nat} (hd : Dn kids n) (hi : i < n) (j : Nat) : same r kids kids' i j = (r i j && all2 (same r kids kids') (kids i) (kids' j)) := by
  show smf r kids kids' (i + 1) i j = _
  simp only [smf]
  rw [all2_congr fun k hk k' _ => smf_fuel hd i (k + 1) k k' (by have := hd i hi k hk; omega) (hd i hi k hk) (by omega)]
  rfl

/-- The rows of parts, each ahead of its kids, are the same just if the trees are: of any two rows that follow. -/
theorem walk_same {r : Nat → Nat → Bool} {kids kids' : Nat → List Nat} {n m : Nat} (hd : Dn kids n) (hd' : Dn kids' m) (hl : ∀ i j, i < n → j < m → r i j = true → (kids i).length = (kids' j).length) :
    ∀ b i j, i < b → i < n → j < m → ∀ X Y, all2 r (walk kids i ++ X) (walk kids' j ++ Y) = (same r kids kids' i j && all2 r X Y)
  | 0, _, _, h, _, _ => by omega
  | b + 1, i, j, hb, hi, hj => by
    intro X Y
    rw [walk_eq hd hi, walk_eq hd' hj, same_eq hd hi]
    simp only [List.cons_append, all2]
    cases hr : r i j with
    | false => simp
    | true =>
      have hlen := hl i j hi hj hr
      simp only [Bool.true_and]
      have key : ∀ (l l' : List Nat), (∀ k ∈ l, k < i) → (∀ k ∈ l', k < j) → l.length = l'.length → all2 r (l.flatMap (walk kids) ++ X) (l'.flatMap (walk kids') ++ Y) = (all2 (same r kids kids') l l' && all2 r X Y) := by
        intro l
        induction l with
        | nil =>
          intro l' _ _ h
          cases l' with
          | nil => simp [all2]
          | cons _ _ => simp at h
        | cons k l ih =>
          intro l' h1 h2 h
          cases l' with
          | nil => simp at h
          | cons k' l' =>
            simp only [List.flatMap_cons, List.append_assoc, all2]
            have hk := h1 k (by simp)
            have hk' := h2 k' (by simp)
            rw [walk_same hd hd' hl b k k' (by omega) (by omega) (by omega), ih l' (fun x hx => h1 x (by simp [hx])) (fun x hx => h2 x (by simp [hx])) (by simpa using h), Bool.and_assoc]
      exact key _ _ (hd i hi) (hd' j hj) hlen

theorem walks_same {r : Nat → Nat → Bool} {kids kids' : Nat → List Nat} {n m : Nat} (hd : Dn kids n) (hd' : Dn kids' m) (hl : ∀ i j, i < n → j < m → r i j = true → (kids i).length = (kids' j).length) :
    ∀ (l l' : List Nat), (∀ k ∈ l, k < n) → (∀ k ∈ l', k < m) → l.length = l'.length → all2 r (l.flatMap (walk kids)) (l'.flatMap (walk kids')) = all2 (same r kids kids') l l'
  | [], [], _, _, _ => rfl
  | k :: l, k' :: l', h1, h2, h => by
    simp only [List.flatMap_cons, all2]
    rw [walk_same hd hd' hl (k + 1) k k' (by omega) (h1 k (by simp)) (h2 k' (by simp)), walks_same hd hd' hl l l' (fun x hx => h1 x (by simp [hx])) (fun x hx => h2 x (by simp [hx])) (by simpa using h)]
  | [], _ :: _, _, _, h => by simp at h
  | _ :: _, [], _, _, h => by simp at h

theorem walk_same1 {r : Nat → Nat → Bool} {kids kids' : Nat → List Nat} {n m i j : Nat} (hd : Dn kids n) (hd' : Dn kids' m) (hl : ∀ i j, i < n → j < m → r i j = true → (kids i).length = (kids' j).length)
    (hi : i < n) (hj : j < m) : all2 r (walk kids i) (walk kids' j) = same r kids kids' i j := by
  have := walk_same hd hd' hl (i + 1) i j (by omega) hi hj [] []
  simpa [all2] using this

theorem same_swap {r : Nat → Nat → Bool} {kids kids' : Nat → List Nat} {n m : Nat} (hd : Dn kids n) (hd' : Dn kids' m) : ∀ b i j, i < b → i < n → j < m → same r kids kids' i j = same (fun a b => r b a) kids' kids j i
  | 0, _, _, h, _, _ => by omega
  | b + 1, i, j, hb, hi, hj => by
    rw [same_eq hd hi, same_eq hd' hj, all2_swap]
    congr 1
    exact all2_congr fun k' hk' k hk => same_swap hd hd' b k k' (by have := hd i hi k hk; omega) (by have := hd i hi k hk; omega) (by have := hd' j hj k' hk'; omega)

theorem same_congr {r s : Nat → Nat → Bool} {kids kids' : Nat → List Nat} {n m : Nat} (hd : Dn kids n) (hd' : Dn kids' m) (h : ∀ i j, i < n → j < m → r i j = s i j) : ∀ b i j, i < b → i < n → j < m → same r kids kids' i j = same s kids kids' i j
  | 0, _, _, h, _, _ => by omega
  | b + 1, i, j, hb, hi, hj => by
    rw [same_eq hd hi, same_eq hd hi, h i j hi hj]
    congr 1
    exact all2_congr fun k hk k' hk' => same_congr hd hd' h b k k' (by have := hd i hi k hk; omega) (by have := hd i hi k hk; omega) (by have := hd' j hj k' hk'; omega)

theorem same_refl {r : Nat → Nat → Bool} {kids : Nat → List Nat} {n : Nat} (hd : Dn kids n) (h : ∀ i, i < n → r i i = true) : ∀ b i, i < b → i < n → same r kids kids i i = true
  | 0, _, h, _ => by omega
  | b + 1, i, hb, hi => by
    rw [same_eq hd hi, h i hi]
    exact all2_refl fun k hk => same_refl hd h b k (by have := hd i hi k hk; omega) (by have := hd i hi k hk; omega)

end Go.Proofs.YtggchkddmihobaaGreatDoor
