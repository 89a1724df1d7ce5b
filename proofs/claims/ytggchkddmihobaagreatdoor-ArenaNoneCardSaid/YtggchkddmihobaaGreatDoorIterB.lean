/- The iterator's contract at every text, the nil one too; where the first place is that bears no sign. -/
import Derived.Test.YtggchkddmihobaaGreatDoorIter
namespace Go.Proofs.YtggchkddmihobaaGreatDoor
open Go Go.Proofs Go.RowKit Go.Shelf

attribute [local go_sem] Oper.semAt_some

/-- The slice value sv holds the bytes l, in a block below n₀; or there are none. -/
def TextAt (n₀ : Nat) (W : World) (sv : Value) (l : List UInt8) : Prop :=
  (∃ a cap, (a = none → cap = 0) ∧ sv = .slice a 0 cap ∧ l = []) ∨ ∃ b off cap, sv = .slice (some ⟨b, off, none⟩) l.length cap ∧ b < n₀ ∧ l.length ≤ cap ∧ Holds W b off l
theorem TextAt.below {n₀ : Nat} {A B : World} (h : Below n₀ A B) {sv : Value} {l : List UInt8} : TextAt n₀ A sv l → TextAt n₀ B sv l
  | .inl e => .inl e
  | .inr ⟨b, off, cap, e, hb, hc, hh⟩ => .inr ⟨b, off, cap, e, hb, hc, hh.below hb h⟩

set_option maxRecDepth 100000 in
set_option maxHeartbeats 1000000 in
theorem signs1_nil_in (n ll Bs : Nat) (a : Option Addr) (cap : Nat) (J : List (Sg ([] : List UInt8).length) → World → Prop) (W : World) (hBs : W.cell? ⟨Bs, 0, none⟩ = some (.slice a 0 cap)) (h0 : J [] W) :
    CallsIn Fence.wide n Tryz.prog 136 #[.func (.yield ll) #[] #[], .pointer (some ⟨Bs, 0, none⟩)] W fun e W' => (∃ v, e = .returned v) ∧ J [] W' := by
  refine callsIn_of_wp Tryz.func136 rfl trivial ?_ rfl
  simp only [Tryz.ntmps136, List.size_toArray, List.length_cons, List.length_nil, Nat.reduceAdd, Nat.reduceSub, Array.replicate_succ, Array.replicate_zero, List.push_toArray, List.append_toArray, List.nil_append, List.cons_append]
  gi_wp2
  gi_loopw [3] (fun i wr => i = .int .i64 0 ∧ wr = W) (fun _ _ => 0)
  case atStart => exact ⟨rfl, rfl⟩
  case round =>
    obtain ⟨rfl, rfl⟩ := hrel
    gi_wp2
    go_end0
    exact ⟨⟨_, rfl⟩, h0⟩

/-- The same, the block named. -/
def TextIn (b : Nat) (W : World) (sv : Value) (l : List UInt8) : Prop :=
  (∃ a cap, (a = none → cap = 0) ∧ sv = .slice a 0 cap ∧ l = []) ∨ ∃ off cap, sv = .slice (some ⟨b, off, none⟩) l.length cap ∧ l.length ≤ cap ∧ Holds W b off l
theorem TextAt.named {n₀ : Nat} {W : World} {sv : Value} {l : List UInt8} (h0 : 0 < n₀) : TextAt n₀ W sv l → ∃ b, b < n₀ ∧ TextIn b W sv l
  | .inl e => ⟨0, h0, .inl e⟩
  | .inr ⟨b, off, cap, e, hb, hc, hh⟩ => ⟨b, hb, .inr ⟨off, cap, e, hc, hh⟩⟩
theorem TextIn.kept {b : Nat} {A B : World} {sv : Value} {l : List UInt8} (h : B.heap[b]? = A.heap[b]?) : TextIn b A sv l → TextIn b B sv l
  | .inl e => .inl e
  | .inr ⟨off, cap, e, hc, hh⟩ => .inr ⟨off, cap, e, hc, fun j hj => (World.cell?_of_block (a := ⟨b, off + j, none⟩) h).trans (hh j hj)⟩

def encSg {N : Nat} (x : Sg N) : Array Value := #[.int .i64 (x.1.1 : Int), .int .i32 (x.1.2 : Int)]

theorem signs_stops (n : Nat) (hn : 1 ≤ n) (Bs b : Nat) (sv : Value) (l : List UInt8) (hlen : l.length ≤ 140737488351232) (w : World) (hBs : Bs < w.heap.size) (h2 : 4 ≤ w.heap.size) (hb : b < w.heap.size)
    (hc : w.cell? ⟨Bs, 0, none⟩ = some sv) (hI : TextIn b w sv l) (hT : Lib.Utf8Tabs 2 3 w) :
    SeqStopsK Fence.wide n Tryz.prog 136 #[.pointer (some ⟨Bs, 0, none⟩)] (encSg (N := l.length)) (Kp b Bs) (fun ys => ys.map Subtype.val = sg l 0) (fun pre => ∃ rest, sg l 0 = pre.map Subtype.val ++ rest) l.length w := fun ll J Jx W hW hJ _ hY h0 => by
  have hc' := (hW.cell (p := ⟨Bs, 0, none⟩) hBs).trans hc
  have hsz := hW.size
  rcases hI.kept (hW.block b hb) with ⟨a, cap, _, rfl, rfl⟩ | ⟨off, cap, rfl, hcap, hh⟩
  · exact (signs1_nil_in n ll Bs a cap J W hc' h0).mono fun e W' ⟨he, hj⟩ => ⟨he, .inl ⟨[], (sg_nil _ _ rfl).symm, hj⟩⟩
  · exact signs1_in n hn ll Bs b off cap l hlen hcap J Jx W (by omega) (by omega) (by omega) hJ hY hc' hh (tabs_below (n₀ := w.heap.size) (by omega) hW hT) h0

set_option maxHeartbeats 1000000 in
theorem mkSigns_in (n : Nat) (a : Option Addr) (len cap : Nat) (w : World) :
    CallsIn Fence.wide n Tryz.prog 131 #[.slice a len cap] w fun e w' => e = .returned (.func (.func 136) #[] #[.pointer (some ⟨w.heap.size, 0, none⟩)]) ∧ w' = w.alloc (.cells #[.slice a len cap] 131) := by
  refine callsIn_of_wp Tryz.func131 rfl trivial ?_ rfl
  simp only [Tryz.ntmps131, List.size_toArray, List.length_cons, List.length_nil, Nat.reduceAdd, Nat.reduceSub, Array.replicate_succ, Array.replicate_zero, List.push_toArray, List.append_toArray, List.nil_append, List.cons_append]
  gi_wp2
  go_ret
  exact ⟨rfl, rfl⟩

/-- The place behind the last of the signs. -/
def endZ (xs : List (Nat × Nat)) : Int := match xs.getLast? with | none => 0 | some x => x.1 + Lib.runeLen x.2
theorem endZ_snoc (xs : List (Nat × Nat)) (x : Nat × Nat) : endZ (xs ++ [x]) = x.1 + Lib.runeLen x.2 := by simp [endZ]

theorem end_sg : ∀ (n : Nat) (l : List UInt8) (k : Nat), l.length ≤ n → (sg l k = [] → bd l k = k) ∧ (∀ x, (sg l k).getLast? = some x → (x.1 : Int) + Lib.runeLen x.2 = bd l k)
  | 0, l, k, h => by
    rw [sg_nil l k (by omega), bd_nil l k (by omega)]
    simp
  | n + 1, l, k, h => by
    by_cases h0 : 0 < l.length
    · by_cases hb : isBad l
      · rw [sg_bad l k hb, bd_bad l k hb]
        simp
      · have hd := D_bounds l h0
        have ih := end_sg n (l.drop (D l).2) (k + (D l).2) (by simp only [List.length_drop]; omega)
        rw [sg_cons l k h0 hb, bd_cons l k h0 hb]
        refine ⟨by simp, fun x hx => ?_⟩
        cases hs : sg (l.drop (D l).2) (k + (D l).2) with
        | nil =>
          rw [hs] at hx
          simp at hx
          subst hx
          rw [ih.1 hs, D_width l hb]
          simp
        | cons y ys =>
          rw [hs] at hx ih
          exact ih.2 x (by simpa using hx)
    · rw [sg_nil l k (by omega), bd_nil l k (by omega)]
      simp

theorem endZ_sg (l : List UInt8) : endZ (sg l 0) = (bd l 0 : Nat) := by
  have h := end_sg l.length l 0 (Nat.le_refl _)
  unfold endZ
  split
  · next e => rw [h.1 (List.getLast?_eq_none_iff.1 e)]; rfl
  · next x e => exact h.2 x e

theorem runeLen_bounds (r : Int) : -1 ≤ Lib.runeLen r ∧ Lib.runeLen r ≤ 4 := by
  unfold Lib.runeLen; repeat' split
  all_goals omega

theorem ret_int {k : IntKind} {a b : Int} (h : a = b) : Ending.returned (.int k a) = .returned (.int k b) := by rw [h]

/-- Where no sign stands; -1: nowhere. -/
def badOf (l : List UInt8) : Int := if bd l 0 = l.length then -1 else (bd l 0 : Nat)

set_option maxRecDepth 100000 in
set_option maxHeartbeats 2000000 in
theorem bad_any (a : Option Addr) (len cap : Nat) (l : List UInt8) (hlen : l.length ≤ 140737488351232) (w : World) (h2 : 4 ≤ w.heap.size) (hI : TextAt w.heap.size w (.slice a len cap) l) (hT : Lib.Utf8Tabs 2 3 w) :
    Calls Tryz.prog 122 #[.slice a len cap] w fun e W' => e = .returned (.int .i64 (badOf l)) ∧ Below w.heap.size w W' := by
  refine (callsIn_wide (n := 9)).1 ?_
  refine callsIn_of_wp_marks Tryz.func122 rfl trivial ?_ rfl
  simp only [Tryz.ntmps122, List.size_toArray, List.length_cons, List.length_nil, Nat.reduceAdd, Nat.reduceSub, Array.replicate_succ, Array.replicate_zero, List.push_toArray, List.append_toArray, List.nil_append, List.cons_append]
  gi_wp2_with (refine ⟨trivial, ?_⟩; gi_at_call 131; refine (mkSigns_in _ _ _ _ _).mono ?_; rintro e w' ⟨rfl, rfl⟩)
  have bE := Boxed.new w 3 (.int .i64 0)
  have bS := Boxed.new (w.alloc (.cells #[.int .i64 0] 3)) 131 (.slice a len cap)
  rw [World.size_alloc] at bS
  have hB0 : Below w.heap.size w ((w.alloc (.cells #[.int .i64 0] 3)).alloc (.cells #[.slice a len cap] 131)) := ((Below.refl _ w).alloc (Nat.le_refl _) _).alloc (by simp) _
  obtain ⟨tb, htb, hTI⟩ := hI.named (by omega)
  refine wpIn_rangeFunc_ownG rfl (by omega) (gf := 136) (lb := #[.pointer (some ⟨w.heap.size + 1, 0, none⟩)]) rfl trivial (enters_of Tryz.func136 (by kernel_rfl) rfl)
    (signs_stops 8 (by omega) (w.heap.size + 1) tb _ l hlen _ (by simp) (by simp; omega) (by simp; omega) bS.cell (hTI.kept (hB0.block tb htb)) (tabs_below h2 hB0 hT)) Kp.trans (Kp_put (by simp; omega) (by simp; omega) (by simp)) (Below.refl _ _) (fun _ => rfl)
    (fun pre W => (W.cell? ⟨w.heap.size, 0, none⟩ = some (.int .i64 (endZ (pre.map Subtype.val))) ∧ W.frozen? ⟨w.heap.size, 0, none⟩ = false) ∧ Below w.heap.size w W)
    (fun _ _ _ => False)
    (OwnFrom.and (Own.from (fun s A B row hs hg hr => ⟨cell_kept hs.1 hg hr, (frozen_kept hs.1 hg hr).trans hs.2⟩) _) (ownFrom_below (Nat.le_refl _) (by simp; omega)))
    (fun _ _ _ _ _ hs _ _ => hs)
    ⟨⟨(bE.alloc _).cell, (bE.alloc _).frozen⟩, hB0⟩
    (fun x => { tmps := #[.slice a len cap, undef, .int .i64 0, .pointer (some ⟨w.heap.size, 0, none⟩), .int .i64 (x.1.1 : Int), .int .i32 (x.1.2 : Int), .slice a len cap,
      .func (.func 136) #[] #[.pointer (some ⟨w.heap.size + 1, 0, none⟩)], .int .i64 (x.1.1 : Int), .int .i32 (x.1.2 : Int), undef, undef, undef, undef, undef, undef, undef, undef, undef], defers := [] }) ?assign ?body ?done ?stop
  case assign =>
    intro ll x W K hK
    unfold encSg
    gi_wp2
    exact hK
  case body =>
    rintro ll pre ⟨⟨p, r⟩, hp, hr⟩ W ⟨⟨hc, hf⟩, hB⟩ _
    dsimp only at hp hr ⊢
    have hrl := runeLen_bounds (r : Int)
    gi_wp2_with (refine ⟨trivial, ?_⟩; gi_at_call 132; refine (CallsIn.inRound ll (callsIn_wide.2 (runeLen_any _ _))).mono ?_; rintro e w' ⟨rfl, rfl⟩)
    refine ⟨(KeepsOthers.setCell _ _ _).from _, Kp_set h2 (by omega) (by omega) _ _, ⟨?_, by rw [World.frozen?_setCell]; exact hf⟩, hB.setCell (p := ⟨w.heap.size, 0, none⟩) (Nat.le_refl _) _⟩
    rw [List.map_append, List.map_singleton, endZ_snoc]
    exact World.cell?_setCell_same' _ _ _ (by rw [hc]; rfl)
  case done =>
    rintro D ys W hD hys ⟨⟨hc, _⟩, hB⟩ hK
    rw [hys, endZ_sg] at hc
    have hBW : Below w.heap.size w (W.putObj D (.deferred none)) := hB.trans (belowK_b (w := w) (Nat.le_refl _) W D _ _ (by simp at hD; omega) hK rfl rfl)
    have hll : len = l.length := by
      rcases hI with ⟨_, _, _, e, rfl⟩ | ⟨_, _, _, e, _⟩
      · cases e; rfl
      · cases e; rfl
    subst hll
    by_cases hbd : bd l 0 = l.length
    · have hbo : badOf l = -1 := by unfold badOf; rw [if_pos hbd]
      rw [hbd] at hc
      have HO := Lib.hid hbo
      clear hbd hbo
      gi_wp2
      refine ⟨by simp, .inl ⟨_, _, rfl, run_takeDeferred hK, ?_⟩⟩
      refine ⟨_, results_tmp rfl _ _ _, ?_, hBW⟩
      exact ret_int HO.out.symm
    · have hbo : badOf l = (bd l 0 : Nat) := by unfold badOf; rw [if_neg hbd]
      obtain ⟨q, hq⟩ : ∃ q, bd l 0 = q := ⟨_, rfl⟩
      rw [hq] at hc hbd hbo
      have HO := Lib.hid hbo
      clear hbo hq
      have hne : ((q : Int) == (l.length : Int)) = false := by simp; omega
      clear hbd
      gi_wp2
      refine ⟨by simp, .inl ⟨_, _, rfl, run_takeDeferred hK, ?_⟩⟩
      refine ⟨_, results_tmp rfl _ _ _, ?_, hBW⟩
      exact ret_int HO.out.symm
  case stop =>
    rintro D c pre W _ _ h _
    exact h.elim

end Go.Proofs.YtggchkddmihobaaGreatDoor
