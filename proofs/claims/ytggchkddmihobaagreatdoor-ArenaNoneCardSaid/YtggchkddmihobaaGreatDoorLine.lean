/- What a string's token can stand for; floats; rows of names, tags, arms: at every text of at most 1000 bytes. -/
import Derived.Test.YtggchkddmihobaaGreatDoorPreds
import Derived.Test.YtggchkddmihobaaGreatDoorOwn
import Derived.Test.YtggchkddmihobaaGreatDoorIterB
import Derived.Lib.ConvBytes
import Derived.Lib.SmallJoins
namespace Go.Proofs.YtggchkddmihobaaGreatDoor
open Go Go.Proofs Go.RowKit Go.Maps Go.WideMaps

theorem text_bytes (W : World) (s : ByteArray) : TextAt (W.heap.size + 1) (Lib.bytesWorld W 5 s) (.slice (some ⟨W.heap.size, 0, none⟩) s.size (grownCap W s.size 0 5)) (tl s) := by
  refine .inr ⟨W.heap.size, 0, _, by rw [tl_length], Nat.lt_succ_self _, by rw [tl_length]; exact grownCap_ge _ _ _ _, fun j hj => ?_⟩
  rw [tl_length] at hj
  rw [Nat.zero_add]
  exact Lib.bytesWorld_cell W 5 s j hj


/-- A sign below 32 that is no line feed. -/
def lowR (x : Nat) : Bool := decide (x < 32) && !decide (x = 10)
theorem low1_any (x : Nat) (w : World) : Calls Tryz.prog 124 #[.int .i32 (x : Int)] w fun e w' => e = .returned (.bool (lowR x)) ∧ w = w' := by
  by_cases h1 : x < 32
  · by_cases h2 : x = 10
    · subst h2
      go_enter Tryz.func124, Tryz.ntmps124
      go_wp2
      go_ret
      exact ⟨rfl, rfl⟩
    · have h3 : ((x : Int) == 10) = false := by simp; omega
      have h4 : ((x : Int) != 10) = true := by simp [bne, h3]
      have h5 : lowR x = true := by simp [lowR, h1, h2]
      rw [h5]
      clear h5
      go_enter Tryz.func124, Tryz.ntmps124
      go_wp2
      go_ret
      exact ⟨rfl, rfl⟩
  · have h5 : lowR x = false := by simp [lowR, h1]
    rw [h5]
    clear h5
    go_enter Tryz.func124, Tryz.ntmps124
    go_wp2
    go_ret
    exact ⟨rfl, rfl⟩

theorem lines_any (s : ByteArray) (w : World) : Calls Tryz.prog 123 #[.string s, .func (.func 124) #[] #[]] w fun e w' => e = .returned (.bool (decide (0 ≤ Lib.idxFunc lowR true s))) ∧ Below w.heap.size w w' :=
  Tryz.strings_ContainsFunc_grows 124 #[] (enters_of Tryz.func124 (by kernel_rfl) rfl) lowR s w (fun W x _ _ => (low1_any x W).mono fun e w' ⟨he, hw⟩ => ⟨he, hw ▸ Below.refl _ _⟩)

/-- A text that a string's token can stand for. -/
def lineB (s : ByteArray) : Bool := decide (badOf (tl s) < 0) && !decide (0 ≤ Lib.idxFunc lowR true s)

set_option maxHeartbeats 1000000 in
theorem isLine_any (s : ByteArray) (hs : s.size ≤ 1000) (w : World) (h2 : 4 ≤ w.heap.size) (hT : Lib.Utf8Tabs 2 3 w) :
    Calls Tryz.prog 109 #[.string s] w fun e w' => e = .returned (.bool (lineB s)) ∧ Below w.heap.size w w' := by
  have kc := fun (w : World) (s : ByteArray) => Lib.run_convert_string_bytes (P := Tryz.prog) w 9 131 5 s Tryz.underlying9 Tryz.underlying131 Tryz.underlying5
  have hb2 : Below w.heap.size w (Lib.bytesWorld w 5 s) := Go.Joins.below_bytesWorld _ _ _ _ (Nat.le_refl _)
  have hs2 : (Lib.bytesWorld w 5 s).heap.size = w.heap.size + 1 := Lib.bytesWorld_size _ _ _
  have cB := bad_any (some ⟨w.heap.size, 0, none⟩) s.size (grownCap w s.size 0 5) (tl s) (by rw [tl_length]; omega) (Lib.bytesWorld w 5 s) (by rw [hs2]; omega) (by rw [hs2]; exact text_bytes w s) (tabs_below (n₀ := w.heap.size) h2 hb2 hT)
  have cL := lines_any s
  have HS := Lib.hid hs2
  clear hs2
  unfold lineB
  obtain ⟨b, hb⟩ : ∃ b, badOf (tl s) = b := ⟨_, rfl⟩
  obtain ⟨r, hr⟩ : ∃ r, decide (0 ≤ Lib.idxFunc lowR true s) = r := ⟨_, rfl⟩
  rw [hb] at cB ⊢
  rw [hr] at cL ⊢
  clear hb hr
  by_cases h0 : b < 0
  all_goals
    have H0 := Lib.hid h0
    go_enter Tryz.func109, Tryz.ntmps109
    go_wp2_with (first | (go_at_call 122; refine cB.mono ?_; rintro e w1 ⟨rfl, hb1⟩) | (go_at_call 123; refine (cL _).mono ?_; rintro e w3 ⟨rfl, hb3⟩))
    go_ret
    have := HS.out
    first
      | exact ⟨ret_bool (by simp [H0.out]), (hb2.trans (hb1.mono (by omega))).trans (hb3.mono (by have := hb1.size; omega))⟩
      | exact ⟨ret_bool (by have := H0.out; simp; intro h; omega), hb2.trans (hb1.mono (by omega))⟩

def floatB (x : Nat) : Bool := decide (norm x = x)
theorem isFloat_any (x : Nat) (w : World) : Calls Tryz.prog 110 #[.int .u64 (x : Int)] w fun e w' => e = .returned (.bool (floatB x)) ∧ w = w' := by
  have c := ofBits_any x
  unfold floatB
  obtain ⟨n, hn⟩ : ∃ n, norm x = n := ⟨_, rfl⟩
  rw [hn] at c ⊢
  clear hn
  go_enter Tryz.func110, Tryz.ntmps110
  go_wp2_with (go_at_call 125; refine (c _).mono ?_; rintro e w' ⟨rfl, rfl⟩)
  go_ret
  exact ⟨ret_bool (by rw [Bool.eq_iff_iff]; simp; omega), rfl⟩

theorem areNames_any (A : Option Addr) (c : Nat) (ss : List ByteArray) (w : World) (hS : SlAt (Lt w.heap.size) w A ss.length (ss.map .string)) (hn : ss.length ≤ 1000) (hsz : ∀ s ∈ ss, s.size ≤ 1000) :
    Calls Tryz.prog 113 #[.slice A ss.length c] w fun e w' => e = .returned (.bool (onceB isName ss)) ∧ Below w.heap.size w w' := by
  have k := once61_any A c ss w hS hn hsz
  clear hS hsz
  go_enter Tryz.func113, Tryz.ntmps113
  go_wp2_with (go_at_call 126; refine k.mono ?_; rintro e w' ⟨rfl, hb⟩)
  go_ret
  exact ⟨rfl, hb⟩
theorem areTags_any (A : Option Addr) (c : Nat) (ss : List ByteArray) (w : World) (hS : SlAt (Lt w.heap.size) w A ss.length (ss.map .string)) (hn : ss.length ≤ 1000) (hsz : ∀ s ∈ ss, s.size ≤ 1000) :
    Calls Tryz.prog 118 #[.slice A ss.length c] w fun e w' => e = .returned (.bool (onceB tagB ss)) ∧ Below w.heap.size w w' := by
  have k := once65_any A c ss w hS hn hsz
  clear hS hsz
  go_enter Tryz.func118, Tryz.ntmps118
  go_wp2_with (go_at_call 126; refine k.mono ?_; rintro e w' ⟨rfl, hb⟩)
  go_ret
  exact ⟨rfl, hb⟩

/-- The tags of arms: every other one. -/
def evens : List ByteArray → List ByteArray
  | a :: _ :: r => a :: evens r
  | _ => []
def odds : List ByteArray → List ByteArray
  | _ :: b :: r => b :: odds r
  | _ => []
theorem evens_get : ∀ (ss : List ByteArray) (k : Nat) (h : 2 * k + 1 < ss.length), (evens ss)[k]? = some (ss[2 * k]'(by omega)) ∧ (odds ss)[k]? = some (ss[2 * k + 1]'h)
  | [], _, h => by simp at h
  | [_], _, h => by simp at h
  | a :: b :: r, 0, _ => by simp [evens, odds]
  | a :: b :: r, k + 1, h => by
    have := evens_get r k (by simp at h; omega)
    simp only [evens, odds, List.getElem?_cons_succ]
    rw [this.1, this.2]
    exact ⟨rfl, rfl⟩
theorem evens_len : ∀ (ss : List ByteArray), (evens ss).length = ss.length / 2 ∧ (odds ss).length = ss.length / 2
  | [] => by simp [evens, odds]
  | [_] => by simp [evens, odds]
  | a :: b :: r => by
    have := evens_len r
    simp only [evens, odds, List.length_cons]
    omega
/-- Tags and names, by turns, each tag once. -/
def armsB (ss : List ByteArray) : Bool := decide (ss.length % 2 = 0) && (decide (∀ s ∈ odds ss, isName (tl s) = true) && onceB tagB (evens ss))

set_option maxRecDepth 100000 in
set_option maxHeartbeats 2000000 in
theorem areArms_any (A : Option Addr) (c : Nat) (ss : List ByteArray) (w : World) (hS : SlAt (Lt w.heap.size) w A ss.length (ss.map .string)) (hn : ss.length ≤ 1000) (hsz : ∀ s ∈ ss, s.size ≤ 1000) :
    Calls Tryz.prog 111 #[.slice A ss.length c] w fun e w' => e = .returned (.bool (armsB ss)) ∧ Below w.heap.size w w' := by
  have hr0 := Below.refl w.heap.size w
  by_cases h2 : ss.length % 2 = 0
  · have cI : ∀ (s : ByteArray) (W : World), s.size ≤ 1000 → Calls Tryz.prog 108 #[.string s] W fun e w' => e = .returned (.bool (isName (tl s))) ∧ Below W.heap.size W w' := fun s W hs => isName_any s (by omega) W
    obtain ⟨m, hm⟩ : ∃ m, ss.length = 2 * m := ⟨ss.length / 2, by omega⟩
    have hev := evens_len ss
    have hevg := evens_get ss
    have hR : armsB ss = (decide (∀ s ∈ odds ss, isName (tl s) = true) && onceB tagB (evens ss)) := by unfold armsB; simp [h2]
    have hsze : ∀ s ∈ evens ss, s.size ≤ 1000 := fun s hs => by
      obtain ⟨k, hk, rfl⟩ := List.getElem_of_mem hs
      have hk2 : 2 * k + 1 < ss.length := by omega
      have := (List.getElem?_eq_some_iff.1 (hevg k hk2).1).2
      rw [this]
      exact hsz _ (List.getElem_mem _)
    obtain ⟨R, hR'⟩ : ∃ R, armsB ss = R := ⟨_, rfl⟩
    rw [hR'] at hR ⊢
    rw [hm] at hev hn h2 hS ⊢
    have hev2 : (evens ss).length = m ∧ (odds ss).length = m := by omega
    have HR := Lib.hid hR
    have HE := Lib.hid hev2
    have HG := Lib.hid hevg
    have HM := Lib.hid hm
    obtain ⟨i0, hi, hz0, hz1, hz2⟩ := info_parts info9
    have hq : ((2 * m : Nat) : Int).tdiv 2 = m := by rw [Int.tdiv_eq_ediv_of_nonneg (by omega)]; omega
    clear hR hev hevg hm hR' hev2
    go_enter Tryz.func111, Tryz.ntmps111
    go_wp2
    go_loopw [3, 12] (fun v i wr => ∃ k : Nat, k ≤ m ∧ i = .int .i64 k ∧ wr.ownsRow w.heap.size 9 1 v k (((evens ss).take k).map .string) ∧ Below w.heap.size w wr ∧ Hid (∀ s ∈ (odds ss).take k, isName (tl s) = true))
      (fun _ i _ => m - (intOf i).toNat)
    case atStart => exact ⟨0, Nat.zero_le _, rfl, by simpa using World.ownsRow_nil _ _ _ _, hr0, Lib.hid (by simp)⟩
    case round =>
      obtain ⟨k, hk, rfl, hown, hnx, HP⟩ := hrel
      have hws := hnx.size
      by_cases hlt : k < m
      · obtain ⟨b, off, rfl, hb, hcell⟩ := hS.at_ (k := 2 * k + 1) (by omega)
        have hk2 : 2 * k + 1 < ss.length := by have := HM.out; omega
        have q0 := (hnx.cell (p := ⟨b, off + 2 * k, none⟩) hb).trans (hcell (2 * k) (.string (ss[2 * k]'(by omega))) (by rw [List.getElem?_map, List.getElem?_eq_getElem (by omega)]; rfl))
        have q1 := (hnx.cell (p := ⟨b, off + (2 * k + 1), none⟩) hb).trans (hcell (2 * k + 1) (.string ss[2 * k + 1]) (by rw [List.getElem?_map, List.getElem?_eq_getElem hk2]; rfl))
        obtain ⟨g0, g1⟩ := HG.out k hk2
        have s1 := hsz _ (List.getElem_mem hk2)
        obtain ⟨x, hx⟩ : ∃ x, ss[2 * k]'(by omega) = x := ⟨_, rfl⟩
        obtain ⟨y, hy⟩ : ∃ y, ss[2 * k + 1] = y := ⟨_, rfl⟩
        rw [hx] at q0 g0
        rw [hy] at q1 g1 s1
        have cS := cI y wr s1
        have G0 := Lib.hid g0
        have G1 := Lib.hid g1
        clear hx hy g0 g1 hcell
        cases hp : isName (tl y)
        · rw [hp] at cS
          have HF := Lib.hid hp
          clear hp
          go_wp2_with (first | (go_at_call 108; refine cS.mono ?_; rintro e w1 ⟨rfl, hb1⟩))
          go_ret
          refine ⟨ret_bool ?_, hnx.trans (hb1.mono (by omega))⟩
          rw [HR.out]
          have : decide (∀ s ∈ odds ss, isName (tl s) = true) = false := by
            rw [decide_eq_false_iff_not]
            intro h
            have := h y (List.mem_of_getElem? G1.out)
            rw [HF.out] at this
            cases this
          rw [this]; rfl
        · rw [hp] at cS
          have HF := Lib.hid hp
          clear hp
          go_wp2_with (first
            | (go_at_call 108; refine cS.mono ?_; rintro e w1 ⟨rfl, hb1⟩; have hws1 := hb1.size; have hown1 := own_below hown hb1; have q0' := (hb1.cell (p := ⟨b, off + 2 * k, none⟩) (Nat.lt_of_lt_of_le hb hws)).trans q0)
            | (at_builtin; refine wpList_app _ rfl _ _ 35 rfl w.heap.size 9 i0 (.string ByteArray.empty) 1 16 Tryz.underlying35 hi hz0 hz1 hz2 rfl (by decide) _ _ _ rfl (hown1.alloc _) (some ⟨w1.heap.size, 0, none⟩) 1 1 [.string x] rfl rfl (rd_one _ _ _) (by intro u hu; simp at hu; subst hu; rfl) (by unfold maxLen; omega) (by omega) (by simp; omega) ?_; intro v' w2 hown2 hgrow2 hloc2))
          have hB2 := own_grown (B := w.heap.size) ((hnx.trans (hb1.mono (by omega))).alloc (by omega) _) (hown1.alloc _) hgrow2 (Nat.le_refl _) (by simp; omega)
          go_roundw
          case rel => exact ⟨k + 1, by omega, by go_num, by rw [List.take_add_one, List.map_append, G0.out]; exact hown2, hB2, Lib.hid fun y' hy' => by
              rw [List.take_add_one, G1.out] at hy'
              rcases List.mem_append.1 hy' with h | h
              · exact HP.out y' h
              · simp at h; subst h; exact HF.out⟩
          case measure => simp [intOf]; omega
      · obtain rfl : k = m := by omega
        have he1 : (evens ss).take k = evens ss := List.take_of_length_le (by have := HE.out.1; omega)
        have he2 : (odds ss).take k = odds ss := List.take_of_length_le (by have := HE.out.2; omega)
        rw [he1] at hown
        rw [he2] at HP
        obtain ⟨A', c', rfl, hcc, hsl⟩ := SlAt.of_own hown
        have hel := HE.out.1
        have hT : ∀ (n : Nat), (evens ss).length = n → Calls Tryz.prog 118 #[.slice A' n c'] wr fun e w' => e = .returned (.bool (onceB tagB (evens ss))) ∧ Below wr.heap.size wr w' := by
          intro n hn'
          subst hn'
          exact areTags_any A' c' (evens ss) wr (by rw [hel]; exact hsl.imp fun b h => h.2) (by omega) hsze
        have hT' := hT k hel
        have HX : Hid (R = onceB tagB (evens ss)) := by
          rw [HR.out, decide_eq_true (p := ∀ s ∈ odds ss, isName (tl s) = true) HP.out, Bool.true_and]
          exact rfl
        obtain ⟨S, hS'⟩ : ∃ S, onceB tagB (evens ss) = S := ⟨_, rfl⟩
        rw [hS'] at hT' HX
        clear he1 he2 hel hT hS'
        go_wp2_with (go_at_call 118; refine hT'.mono ?_; rintro e w1 ⟨rfl, hb1⟩)
        go_ret
        exact ⟨ret_bool HX.out.symm, hnx.trans (hb1.mono (by omega))⟩
  · have hodd : ((ss.length : Int) % 2 == 0) = false := by simp; omega
    have hodd2 : ((ss.length : Int) % 2 != 0) = true := by simp; omega
    have hR : armsB ss = false := by unfold armsB; simp [h2]
    rw [hR]
    clear hR h2
    go_enter Tryz.func111, Tryz.ntmps111
    go_wp2
    go_ret
    exact ⟨rfl, hr0⟩

end Go.Proofs.YtggchkddmihobaaGreatDoor
