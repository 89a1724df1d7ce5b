/- Tags, aliases, operators; names that are there once: at every text of at most 1000 bytes. -/
import Derived.Test.YtggchkddmihobaaGreatDoorAllU
import Derived.Maps.OwnSet
import Derived.Maps.AppendAt
import Derived.OwnWalk
import Derived.Laws.EntriesVeiled
namespace Go.Proofs.YtggchkddmihobaaGreatDoor
open Go Go.Proofs Go.RowKit Go.Maps Go.WideMaps

def tagB (l : List UInt8) : Bool := isName l || isW l

theorem isTag_any (s : ByteArray) (hs : s.size ≤ 1000) (w : World) : Calls Tryz.prog 112 #[.string s] w fun e w' => e = .returned (.bool (tagB (tl s))) ∧ Below w.heap.size w w' := by
  have c1 := isName_any s (by omega)
  have c2 := isWord_any s
  unfold tagB
  cases hn : isName (tl s)
  all_goals
    rw [hn] at c1
    obtain ⟨b, hb⟩ : ∃ b, isW (tl s) = b := ⟨_, rfl⟩
    rw [hb] at c2
    rw [hb]
    clear hn hb
    go_enter Tryz.func112, Tryz.ntmps112
    go_wp2_with (first | (go_at_call 108; refine (c1 _).mono ?_; rintro e w' ⟨rfl, hb⟩) | (go_at_call 121; refine (c2 _).mono ?_; rintro e w' ⟨rfl, rfl⟩))
    go_ret
    exact ⟨rfl, hb⟩

/-- An alias's text. -/
def aliasB : List UInt8 → Bool
  | [] => false
  | c :: r => highB c && r.all aliB

def aliAt (i : Nat) (c : UInt8) : Bool := highB c || (decide (0 < i) && (smallB c || digB c))
theorem aliasB_iff (l : List UInt8) : aliasB l = true ↔ l ≠ [] ∧ ∀ j (h : j < l.length), aliAt j l[j] = true := by
  cases l with
  | nil => simp [aliasB]
  | cons c r =>
    simp only [aliasB, Bool.and_eq_true, List.all_eq_true, ne_eq, reduceCtorEq, not_false_eq_true, true_and]
    constructor
    · rintro ⟨h1, h2⟩ j hj
      cases j with
      | zero => simp [aliAt, h1]
      | succ j =>
        have := h2 (r[j]'(by simpa using hj)) (List.getElem_mem _)
        simp only [aliB, Bool.or_assoc] at this
        simpa [aliAt] using this
    · intro h
      refine ⟨by have := h 0 (by simp); simpa [aliAt] using this, fun x hx => ?_⟩
      obtain ⟨j, hj, rfl⟩ := List.getElem_of_mem hx
      have := h (j + 1) (by simpa using hj)
      simpa [aliAt, aliB, Bool.or_assoc] using this
theorem tl_get (s : ByteArray) (k : Nat) (h : k < s.size) : (tl s)[k]'(by rw [tl_length]; exact h) = s[k] := rfl

set_option maxHeartbeats 2000000 in
theorem isAlias_any (s : ByteArray) (hs : s.size ≤ 1000) (w : World) : Calls Tryz.prog 84 #[.string s] w fun e w' => e = .returned (.bool (aliasB (tl s))) ∧ w = w' := by
  have hlen := tl_length s
  have hE := empty_eq s
  by_cases hz : s.size = 0
  · have h0 : aliasB (tl s) = false := by
      have : tl s = [] := List.length_eq_zero_iff.1 (by omega)
      rw [this]; rfl
    have hE1 : (s.toList == []) = true := by rw [hE]; simpa using hz
    have hE2 : (s.toList != []) = false := by simp [bne, hE1]
    rw [h0]
    clear h0 hE hlen
    go_enter Tryz.func84, Tryz.ntmps84
    go_wp2
    go_loop [3, 9] (fun _ i => i = .int .i64 0) (fun _ i => 0)
    case atStart => rfl
    case round =>
      obtain rfl := hrel
      go_wp2
      go_ret
      exact ⟨rfl, rfl⟩
  · have hE1 : (s.toList == []) = false := by rw [hE]; simpa using hz
    have hE2 : (s.toList != []) = true := by simp [bne, hE1]
    have hI := aliasB_iff (tl s)
    obtain ⟨R, hR⟩ : ∃ R, aliasB (tl s) = R := ⟨_, rfl⟩
    rw [hR] at hI ⊢
    clear hR
    have HI := Lib.hid hI
    have HL := Lib.hid hlen
    clear hE hI hlen
    go_enter Tryz.func84, Tryz.ntmps84
    go_wp2
    go_loop [3, 4, 5, 6, 9] (fun _ _ _ _ i => ∃ k : Nat, k ≤ s.size ∧ i = .int .i64 k ∧ Hid (∀ j (h : j < s.size), j < k → aliAt j s[j] = true)) (fun _ _ _ _ i => s.size - (intOf i).toNat)
    case atStart => exact ⟨0, Nat.zero_le _, rfl, Lib.hid fun j _ h => absurd h (by omega)⟩
    case round =>
      obtain ⟨k, hk, rfl, HA⟩ := hrel
      by_cases hlt : k < s.size
      · have hc := s[k].toNat_lt
        have hok : ∀ b, aliAt k s[k] = b → Hid (aliAt k s[k] = b) := fun b h => h
        obtain ⟨c, hcs⟩ : ∃ c, s[k] = c := ⟨_, rfl⟩
        have HC := Lib.hid hcs
        rw [hcs] at hc
        rw [hcs] at hok
        by_cases hA : aliAt k c = true
        · have hstep : Hid (∀ j (h : j < s.size), j < k + 1 → aliAt j s[j] = true) := Lib.hid fun j hj hjk => by
            by_cases e : j = k
            · subst e; rw [HC.out]; exact hA
            · exact HA.out j hj (by omega)
          have hA' : (65 ≤ c.toNat ∧ c.toNat ≤ 90) ∨ (0 < k ∧ ((97 ≤ c.toNat ∧ c.toNat ≤ 122) ∨ (48 ≤ c.toNat ∧ c.toNat ≤ 57))) := by
            simpa [aliAt, highB, smallB, digB] using hA
          clear hok hA
          obtain ⟨B, hB, hd⟩ : ∃ B, decide ((c.toNat : Int) ≤ 57) = B ∧ Hid (B = true ↔ c.toNat ≤ 57) := ⟨_, rfl, Lib.hid (by rw [decide_eq_true_iff]; omega)⟩
          cases B
          all_goals
            have h57 := hd.out
            simp only [true_iff, Bool.false_eq_true, false_iff] at h57
            clear hd
            go_wp2
          all_goals first
            | omega
            | (go_round
               case rel => exact ⟨k + 1, by omega, by go_num, hstep⟩
               case measure => simp [intOf]; omega)
        · have hno : R = false := by
            rw [Bool.eq_false_iff]
            intro h
            have := (HI.out.1 h).2 k (by rw [HL.out]; exact hlt)
            rw [tl_get s k hlt, HC.out] at this
            exact hA this
          have hA' : ¬ ((65 ≤ c.toNat ∧ c.toNat ≤ 90) ∨ (0 < k ∧ ((97 ≤ c.toNat ∧ c.toNat ≤ 122) ∨ (48 ≤ c.toNat ∧ c.toNat ≤ 57)))) := by
            simpa [aliAt, highB, smallB, digB] using hA
          have HN := Lib.hid hno
          clear hok hA hno
          obtain ⟨B, hB, hd⟩ : ∃ B, decide ((c.toNat : Int) ≤ 57) = B ∧ Hid (B = true ↔ c.toNat ≤ 57) := ⟨_, rfl, Lib.hid (by rw [decide_eq_true_iff]; omega)⟩
          cases B
          all_goals
            have h57 := hd.out
            simp only [true_iff, Bool.false_eq_true, false_iff] at h57
            clear hd
            go_wp2
          all_goals first
            | omega
            | (go_ret; exact ⟨ret_bool HN.out.symm, rfl⟩)
            | (exfalso; simp only [Bool.not_eq_eq_eq_not, Bool.not_false, decide_eq_true_eq, decide_eq_false_iff_not] at *; omega)
      · have hyes : R = true := HI.out.2 ⟨fun h => by have := HL.out; rw [h] at this; simp at this; omega, fun j hj => by
          rw [HL.out] at hj
          rw [tl_get s j hj]
          exact HA.out j hj (by omega)⟩
        have HN := Lib.hid hyes
        clear hyes
        go_wp2
        go_ret
        exact ⟨ret_bool HN.out.symm, rfl⟩

/-- The operators. -/
def opsL : List (List UInt8) := [[43], [45], [42], [47], [43, 46], [45, 46], [42, 46], [47, 46], [60], [60, 46], [61, 61], [94]]
def opB (l : List UInt8) : Bool := decide (l ∈ opsL)
set_option maxHeartbeats 4000000 in
theorem isOp_any (s : ByteArray) (w : World) : Calls Tryz.prog 114 #[.string s] w fun e w' => e = .returned (.bool (opB (tl s))) ∧ w = w' := by
  by_cases hm : tl s ∈ opsL
  · have h1 : opB (tl s) = true := by simpa [opB] using hm
    rw [h1]
    clear h1
    have h0 := mk_tl s
    simp only [opsL, List.mem_cons, List.not_mem_nil, or_false] at hm
    rcases hm with hm | hm | hm | hm | hm | hm | hm | hm | hm | hm | hm | hm
    all_goals
      rw [hm] at h0
      subst h0
      clear hm
      go_enter Tryz.func114, Tryz.ntmps114
      go_wp2_with fail
      go_ret
      exact ⟨rfl, rfl⟩
  · have h1 : opB (tl s) = false := by simpa [opB] using hm
    rw [h1]
    clear h1
    simp only [opsL, List.mem_cons, List.not_mem_nil, or_false, not_or] at hm
    obtain ⟨m0, m1, m2, m3, m4, m5, m6, m7, m8, m9, m10, m11⟩ := hm
    have n0 := toL_ne m0
    have n1 := toL_ne m1
    have n2 := toL_ne m2
    have n3 := toL_ne m3
    have n4 := toL_ne m4
    have n5 := toL_ne m5
    have n6 := toL_ne m6
    have n7 := toL_ne m7
    have n8 := toL_ne m8
    have n9 := toL_ne m9
    have n10 := toL_ne m10
    have n11 := toL_ne m11
    clear m0 m1 m2 m3 m4 m5 m6 m7 m8 m9 m10 m11
    go_enter Tryz.func114, Tryz.ntmps114
    go_wp2_with fail
    go_ret
    exact ⟨rfl, rfl⟩


theorem addKey_len : ∀ (xs acc : List Lit), (∀ x ∈ xs, WideAt.IsKeyLit x) → ((xs.foldl addKey acc).length ≤ acc.length + xs.length ∧ ((xs.foldl addKey acc).length = acc.length + xs.length ↔ (xs.Nodup ∧ ∀ x ∈ xs, ¬ x ∈ acc)))
  | [], acc, _ => by simp
  | x :: xs, acc, h => by
    have hx := h x (by simp)
    have ih := addKey_len xs (addKey acc x) (fun y hy => h y (by simp [hy]))
    have hany : (acc.any fun y => y.sameKey x) = true ↔ x ∈ acc := by
      rw [List.any_eq_true]
      constructor
      · rintro ⟨y, hy, hs⟩
        have := (WideAt.sameKey_iff hx).1 hs
        subst this
        exact hy
      · intro hm
        exact ⟨x, hm, WideAt.sameKey_self hx⟩
    simp only [List.foldl_cons]
    by_cases hm : x ∈ acc
    · have e : addKey acc x = acc := by unfold addKey; rw [if_pos (hany.2 hm)]
      rw [e] at ih ⊢
      refine ⟨by simp; omega, ⟨fun h' => ?_, fun h' => absurd hm (h'.2 x (by simp))⟩⟩
      have := ih.1
      simp at h'
      omega
    · have e : addKey acc x = acc ++ [x] := by unfold addKey; rw [if_neg (fun h' => hm (hany.1 h'))]
      rw [e] at ih ⊢
      simp only [List.length_append, List.length_singleton] at ih
      refine ⟨by simp; omega, ?_⟩
      rw [show acc.length + (x :: xs).length = acc.length + 1 + xs.length by simp; omega, ih.2]
      rw [List.nodup_cons]
      constructor
      · rintro ⟨h1, h2⟩
        refine ⟨⟨fun h' => h2 x h' (by simp), h1⟩, fun y hy => ?_⟩
        rcases List.mem_cons.1 hy with rfl | hy
        · exact hm
        · exact fun h' => h2 y hy (by simp [h'])
      · rintro ⟨⟨h1, h2⟩, h3⟩
        refine ⟨h2, fun y hy hya => ?_⟩
        rcases List.mem_append.1 hya with hya | hya
        · exact h3 y (by simp [hy]) hya
        · simp at hya
          subst hya
          exact h1 hy

/-- Names as keys. -/
def keysOf (ss : List ByteArray) : List Lit := ss.map fun s => .string s.data.toList
theorem keysOf_nodup (ss : List ByteArray) : (keysOf ss).Nodup ↔ ss.Nodup := by
  unfold keysOf
  constructor
  · intro h
    exact (List.pairwise_map.1 h).imp fun hab e => hab (by rw [e])
  · intro h
    refine List.pairwise_map.2 (h.imp fun hab e => hab ?_)
    injection e with e
    exact ByteArray.ext (Array.ext' e)
theorem size_keys (ss : List ByteArray) : (size (setOf (H := Unit) (.agg []) (keysOf ss)) = ss.length ↔ ss.Nodup) ∧ size (setOf (H := Unit) (.agg []) (keysOf ss)) ≤ ss.length := by
  have hk : ∀ x ∈ keysOf ss, WideAt.IsKeyLit x := by
    intro x hx
    obtain ⟨s, _, rfl⟩ := List.mem_map.1 hx
    trivial
  rw [size_setOf _ _ hk]
  have h := addKey_len (keysOf ss) [] hk
  simp only [List.length_nil, Nat.zero_add, List.not_mem_nil, not_false_eq_true, implies_true, and_true] at h
  rw [keysOf_nodup, show (keysOf ss).length = ss.length by simp [keysOf]] at h
  exact ⟨h.2, h.1⟩
theorem set_succ (ss : List ByteArray) (k : Nat) (h : k < ss.length) : setOf (H := Unit) (.agg []) (keysOf (ss.take (k + 1))) = (setOf (.agg []) (keysOf (ss.take k))).put (.string ss[k].data.toList) (.agg []) := by
  rw [List.take_succ_eq_append_getElem h]
  unfold keysOf
  rw [List.map_append, List.map_singleton, setOf_snoc]

/-- Each is what p asks, and there once. -/
def onceB (p : List UInt8 → Bool) (ss : List ByteArray) : Bool := decide ((∀ s ∈ ss, p (tl s) = true) ∧ ss.Nodup)
theorem onceB_no {p : List UInt8 → Bool} {ss : List ByteArray} {k : Nat} (h : k < ss.length) (hp : p (tl ss[k]) = false) : onceB p ss = false := by
  unfold onceB
  rw [decide_eq_false_iff_not]
  intro hh
  have := hh.1 _ (List.getElem_mem h)
  rw [hp] at this
  cases this
theorem law9 : Keyed Tryz.prog 9 := string_keyed Tryz.underlying9


set_option maxRecDepth 100000 in
set_option maxHeartbeats 2000000 in
theorem once61_any (A : Option Addr) (c : Nat) (ss : List ByteArray) (w : World) (hS : SlAt (Lt w.heap.size) w A ss.length (ss.map .string)) (hn : ss.length ≤ 1000) (hsz : ∀ s ∈ ss, s.size ≤ 1000) :
    Calls Tryz.prog 126 #[.slice A ss.length c, .func (.func 108) #[] #[]] w fun e w' => e = .returned (.bool (onceB isName ss)) ∧ Below w.heap.size w w' := by
  have hmm := @run_makeMap Tryz.prog
  have cI : ∀ (s : ByteArray) (W : World), s.size ≤ 1000 → Calls Tryz.prog 108 #[.string s] W fun e w' => e = .returned (.bool (isName (tl s))) ∧ Below W.heap.size W w' := fun s W hs => isName_any _ (by omega) _
  obtain ⟨R, hR⟩ : ∃ R, onceB isName ss = R := ⟨_, rfl⟩
  rw [hR]
  have HR := Lib.hid hR
  clear hR
  go_enter Tryz.func126, Tryz.ntmps126
  go_wp2
  go_loopw [7, 11] (fun _ i wr => ∃ k : Nat, k ≤ ss.length ∧ i = .int .i64 k ∧ wr.ownsMap Tryz.prog 9 unitElem w.heap.size k (setOf (H := Unit) (.agg []) (keysOf (ss.take k))) ∧ Below w.heap.size w wr ∧ w.heap.size < wr.heap.size ∧ Hid (∀ s ∈ ss.take k, isName (tl s) = true))
    (fun _ i _ => ss.length - (intOf i).toNat)
  case atStart => exact ⟨0, Nat.zero_le _, rfl, World.ownsMap_made _ _ _ _, (Below.refl _ _).alloc (Nat.le_refl _) _, by simp, Lib.hid (by simp)⟩
  case round =>
    obtain ⟨k, hk, rfl, hown, hnx, hws, HP⟩ := hrel
    by_cases hlt : k < ss.length
    · obtain ⟨b, off, rfl, hb, hcell⟩ := hS.at_ hlt
      have hq := (hnx.cell (p := ⟨b, off + k, none⟩) hb).trans (hcell k (.string ss[k]) (by simp [hlt]))
      have hs := hsz _ (List.getElem_mem hlt)
      have hset := set_succ ss k hlt
      have hno := fun h => onceB_no (p := isName) hlt h
      have htk : ss.take (k + 1) = ss.take k ++ [ss[k]] := List.take_succ_eq_append_getElem hlt
      obtain ⟨s, hss⟩ : ∃ s, ss[k] = s := ⟨_, rfl⟩
      rw [hss] at hq hs hset hno htk
      have hkey : keyOf Tryz.prog 9 (.string s) = some (.string s.data.toList) := keyOf_string_mk Tryz.underlying9 (by unfold maxLen; omega)
      have cS := cI s wr hs
      have HS := Lib.hid hset
      have HN := Lib.hid hno
      have HT := Lib.hid htk
      clear hss hcell hset hno htk
      cases hp : isName (tl s)
      · rw [hp] at cS
        have HF := Lib.hid (HR.out.symm.trans (HN.out hp))
        clear hp
        go_wp2_with (first | (go_at_call 108; refine cS.mono ?_; rintro e w1 ⟨rfl, hb1⟩))
        go_ret
        exact ⟨ret_bool HF.out.symm, hnx.trans (hb1.mono (by omega))⟩
      · rw [hp] at cS
        have HQ := Lib.hid hp
        clear hp
        go_wp2_with (first
          | (go_at_call 108; refine cS.mono ?_; rintro e w1 ⟨rfl, hb1⟩; have hsz1 := hb1.size; have hown1 := hown.kept (only_of_below hb1 none) (by simp))
          | (at_mapUpdate; (refine wpList_mapUpdate_own _ rfl _ _ _ 208 rfl 9 97 law9 Tryz.underlying208 (unitElem (H := Unit)) w.heap.size k _ rfl hown1 (by unfold maxLen; omega) _ _ _ rfl rfl hkey _ [] unitElem_mk ?_; intro w2 hown2 hgrow2)))
        have hsz2 := hgrow2.size
        go_roundw
        case rel => exact ⟨k + 1, by omega, by go_num, HS.out.symm ▸ hown2, (hnx.trans (hb1.mono (by omega))).grown hgrow2 (by have := hnx.size; omega) (fun j hj => by cases hj; exact Nat.le_refl _), by omega, Lib.hid fun x hx => by
            rw [HT.out] at hx
            rcases List.mem_append.1 hx with hx | hx
            · exact HP.out x hx
            · simp at hx; subst hx; exact HQ.out⟩
        case measure => simp [intOf]; omega
    · obtain rfl : k = ss.length := by omega
      rw [List.take_length] at hown HP
      have hsk := size_keys ss
      have HK := Lib.hid hsk
      clear hsk
      go_wp2_with (at_len; refine wpList_len_own _ rfl _ 208 rfl 9 97 Tryz.underlying208 _ w.heap.size _ _ rfl hown ?_)
      go_ret
      refine ⟨ret_bool ?_, hnx⟩
      rw [← HR.out]
      unfold onceB
      rw [Bool.eq_iff_iff]
      simp only [beq_iff_eq, decide_eq_true_eq]
      rw [Int.ofNat_inj, HK.out.1]
      exact ⟨fun h => ⟨HP.out, h⟩, fun h => h.2⟩


set_option maxRecDepth 100000 in
set_option maxHeartbeats 2000000 in
theorem once65_any (A : Option Addr) (c : Nat) (ss : List ByteArray) (w : World) (hS : SlAt (Lt w.heap.size) w A ss.length (ss.map .string)) (hn : ss.length ≤ 1000) (hsz : ∀ s ∈ ss, s.size ≤ 1000) :
    Calls Tryz.prog 126 #[.slice A ss.length c, .func (.func 112) #[] #[]] w fun e w' => e = .returned (.bool (onceB tagB ss)) ∧ Below w.heap.size w w' := by
  have hmm := @run_makeMap Tryz.prog
  have cI : ∀ (s : ByteArray) (W : World), s.size ≤ 1000 → Calls Tryz.prog 112 #[.string s] W fun e w' => e = .returned (.bool (tagB (tl s))) ∧ Below W.heap.size W w' := fun s W hs => isTag_any _ (by omega) _
  obtain ⟨R, hR⟩ : ∃ R, onceB tagB ss = R := ⟨_, rfl⟩
  rw [hR]
  have HR := Lib.hid hR
  clear hR
  go_enter Tryz.func126, Tryz.ntmps126
  go_wp2
  go_loopw [7, 11] (fun _ i wr => ∃ k : Nat, k ≤ ss.length ∧ i = .int .i64 k ∧ wr.ownsMap Tryz.prog 9 unitElem w.heap.size k (setOf (H := Unit) (.agg []) (keysOf (ss.take k))) ∧ Below w.heap.size w wr ∧ w.heap.size < wr.heap.size ∧ Hid (∀ s ∈ ss.take k, tagB (tl s) = true))
    (fun _ i _ => ss.length - (intOf i).toNat)
  case atStart => exact ⟨0, Nat.zero_le _, rfl, World.ownsMap_made _ _ _ _, (Below.refl _ _).alloc (Nat.le_refl _) _, by simp, Lib.hid (by simp)⟩
  case round =>
    obtain ⟨k, hk, rfl, hown, hnx, hws, HP⟩ := hrel
    by_cases hlt : k < ss.length
    · obtain ⟨b, off, rfl, hb, hcell⟩ := hS.at_ hlt
      have hq := (hnx.cell (p := ⟨b, off + k, none⟩) hb).trans (hcell k (.string ss[k]) (by simp [hlt]))
      have hs := hsz _ (List.getElem_mem hlt)
      have hset := set_succ ss k hlt
      have hno := fun h => onceB_no (p := tagB) hlt h
      have htk : ss.take (k + 1) = ss.take k ++ [ss[k]] := List.take_succ_eq_append_getElem hlt
      obtain ⟨s, hss⟩ : ∃ s, ss[k] = s := ⟨_, rfl⟩
      rw [hss] at hq hs hset hno htk
      have hkey : keyOf Tryz.prog 9 (.string s) = some (.string s.data.toList) := keyOf_string_mk Tryz.underlying9 (by unfold maxLen; omega)
      have cS := cI s wr hs
      have HS := Lib.hid hset
      have HN := Lib.hid hno
      have HT := Lib.hid htk
      clear hss hcell hset hno htk
      cases hp : tagB (tl s)
      · rw [hp] at cS
        have HF := Lib.hid (HR.out.symm.trans (HN.out hp))
        clear hp
        go_wp2_with (first | (go_at_call 112; refine cS.mono ?_; rintro e w1 ⟨rfl, hb1⟩))
        go_ret
        exact ⟨ret_bool HF.out.symm, hnx.trans (hb1.mono (by omega))⟩
      · rw [hp] at cS
        have HQ := Lib.hid hp
        clear hp
        go_wp2_with (first
          | (go_at_call 112; refine cS.mono ?_; rintro e w1 ⟨rfl, hb1⟩; have hsz1 := hb1.size; have hown1 := hown.kept (only_of_below hb1 none) (by simp))
          | (at_mapUpdate; (refine wpList_mapUpdate_own _ rfl _ _ _ 208 rfl 9 97 law9 Tryz.underlying208 (unitElem (H := Unit)) w.heap.size k _ rfl hown1 (by unfold maxLen; omega) _ _ _ rfl rfl hkey _ [] unitElem_mk ?_; intro w2 hown2 hgrow2)))
        have hsz2 := hgrow2.size
        go_roundw
        case rel => exact ⟨k + 1, by omega, by go_num, HS.out.symm ▸ hown2, (hnx.trans (hb1.mono (by omega))).grown hgrow2 (by have := hnx.size; omega) (fun j hj => by cases hj; exact Nat.le_refl _), by omega, Lib.hid fun x hx => by
            rw [HT.out] at hx
            rcases List.mem_append.1 hx with hx | hx
            · exact HP.out x hx
            · simp at hx; subst hx; exact HQ.out⟩
        case measure => simp [intOf]; omega
    · obtain rfl : k = ss.length := by omega
      rw [List.take_length] at hown HP
      have hsk := size_keys ss
      have HK := Lib.hid hsk
      clear hsk
      go_wp2_with (at_len; refine wpList_len_own _ rfl _ 208 rfl 9 97 Tryz.underlying208 _ w.heap.size _ _ rfl hown ?_)
      go_ret
      refine ⟨ret_bool ?_, hnx⟩
      rw [← HR.out]
      unfold onceB
      rw [Bool.eq_iff_iff]
      simp only [beq_iff_eq, decide_eq_true_eq]
      rw [Int.ofNat_inj, HK.out.1]
      exact ⟨fun h => ⟨HP.out, h⟩, fun h => h.2⟩

end Go.Proofs.YtggchkddmihobaaGreatDoor
