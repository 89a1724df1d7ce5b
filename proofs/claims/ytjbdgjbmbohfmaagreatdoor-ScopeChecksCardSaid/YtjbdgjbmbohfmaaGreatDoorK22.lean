/- The rule text, over functions within functions; what is wrong is caught. Functions of the library as this program has them (unicode/utf8: DecodeRune, RuneLen; -/
import Derived.Test.YtjbdgjbmbohfmaaGreatDoorK21
import Derived.Shelf.Strings.FuncGrows
import Derived.LoopTactic
namespace Go.Proofs.YtjbdgjbmbohfmaaGreatDoor
open Go Go.Proofs Go.RowKit
theorem textD_any {ts : List Tk} (hT : TsOk ts) (f : Nat) {B : PE} {w : World} {s : St} (hBts : B.ts = ts) (h : PS B w s) (hk : s.k < ts.length) (hs0 : standsB (tkA ts s.k) [[116, 121, 112, 101]] = false) :
 (∀ i s', deepM ts f s = .ok i s' → Calls Tryz.prog 57 #[B.ptr] w fun e w' => e = .returned (.tuple #[]) ∧ Aft B w s' w') ∧
 ∀ c p s1, deepM ts f s = .bad c p s1 → Calls Tryz.prog 57 #[B.ptr] w fun e w' => e = panicV c p ∧ Aft B w s1 w' := by
 have hs : standsB (tkA B.ts s.k) [[116, 121, 112, 101]] = false := by rw [hBts]; exact hs0
 have cK := takes_no h (by rw [hBts]; exact hk) [116, 121, 112, 101] hs
 have cR := fun (W : World) (p : PS B W s) => deep_any hT f B W s hBts p hk
 have H := Lib.hid h
 clear hs hs0 h
 constructor
 ·intro i s' hM
  have cQ := fun (W : World) (p : PS B W s) => (cR W p).1 i s' hM
  clear cR hM
  go_enter Tryz.func57, Tryz.ntmps57
  go_wp2_with fail
  go_loopw [] (fun wr => wr = w) (fun _ => 0)
  case atStart => rfl
  case round =>
   subst hrel
   go_wp2_with fail
   refine cK.mono ?_
   rintro e w1 ⟨rfl, hb1⟩
   go_wp2_with fail
   with_reducible refine (cQ w1 (H.out.below hb1)).mono ?_
   rintro e w2 ⟨rfl, a2⟩
   have A2 := Lib.hid ((H.out.aft hb1).trans a2)
   clear a2 hb1 cK cQ
   go_wp2_with fail
   go_end0
   exact ⟨rfl, A2.out⟩
 ·intro c p s1 hM
  have cQ := fun (W : World) (p0 : PS B W s) => (cR W p0).2 c p s1 hM
  clear cR hM
  go_enter Tryz.func57, Tryz.ntmps57
  go_wp2_with fail
  go_loopw [] (fun wr => wr = w) (fun _ => 0)
  case atStart => rfl
  case round =>
   subst hrel
   go_wp2_with fail
   refine cK.mono ?_
   rintro e w1 ⟨rfl, hb1⟩
   go_wp2_with fail
   with_reducible refine (cQ w1 (H.out.below hb1)).mono ?_
   rintro e w2 ⟨rfl, a2⟩
   have A2 := Lib.hid ((H.out.aft hb1).trans a2)
   clear a2 hb1 cK cQ
   go_wp2_with fail
   exact ⟨rfl, rfl, A2.out⟩
end Go.Proofs.YtjbdgjbmbohfmaaGreatDoor
namespace Go.Proofs
open Go.Shelf
def Tryz.laysGw17_ren : Go.Shelf.Ren := ⟨fun | 17 => 283 | 15 => 303 | 20 => 314 | n => n, fun | 9 => 9 | 23 => 264 | 4 => 4 | 3 => 3 | 0 => 0 | 21 => 21 | n => n, fun | n => n⟩
theorem Tryz.laysGw17 : Go.Proofs.LaysGw.n17 Tryz.prog Tryz.laysGw17_ren := {
 mixed := by kernel_rfl
 f15 := Tryz.func303.trans (congrArg some (by kernel_rfl))
 f17 := Tryz.func283.trans (congrArg some (by kernel_rfl))
 f20 := Tryz.func314.trans (congrArg some (by kernel_rfl))
 t0 := Tryz.underlying0
 a0 := Tryz.isAgg0
 z0 := Tryz.sizeOf0
 v0 := Tryz.zeroValue0
 i0 := by kernel_rfl
 t3 := Tryz.underlying3
 a3 := Tryz.isAgg3
 z3 := Tryz.sizeOf3
 v3 := Tryz.zeroValue3
 i3 := by kernel_rfl
 t4 := Tryz.underlying4
 a4 := Tryz.isAgg4
 z4 := Tryz.sizeOf4
 v4 := Tryz.zeroValue4
 i4 := by kernel_rfl
 t9 := Tryz.underlying9
 a9 := Tryz.isAgg9
 z9 := Tryz.sizeOf9
 v9 := Tryz.zeroValue9
 i9 := by kernel_rfl
 t21 := Tryz.underlying21
 a21 := Tryz.isAgg21
 z21 := Tryz.sizeOf21
 v21 := Tryz.zeroValue21
 i21 := by kernel_rfl
 t23 := Tryz.underlying264
 a23 := Tryz.isAgg264
 z23 := Tryz.sizeOf264
 v23 := Tryz.zeroValue264
 i23 := by kernel_rfl }
open Go.RowKit Go.Lib in
theorem Tryz.strings_ContainsFunc_grows (g : Nat) (lb : Array Value) (eg : ∀ args w, (callFunc g args).run Tryz.prog w = .ok (.enter g args) w) (p : Nat → Bool) (s : ByteArray) (w : World) (hp : PredGrows Tryz.prog g lb p w) :
 Calls Tryz.prog 283 #[.string s, .func (.func g) #[] lb] w fun e w' => e = .returned (.bool (decide (0 ≤ Lib.idxFunc p true s))) ∧ Below w.heap.size w w' := Any.strings_ContainsFunc_grows Tryz.laysGw17 g lb eg p s w hp
end Go.Proofs
namespace Go.Proofs.YtjbdgjbmbohfmaaGreatDoor
open Go Go.Proofs Go.RowKit
/-- What becomes of the counts us when the parts ks are taken, each below e. -/
def takeF : List Int → List Int → Int → Bool × List Int
 | us, [], _ => (true, us)
 | us, k :: ks, e => if k < 0 ∨ e ≤ k then (false, us) else
  if 0 < us.getD k.toNat 0 then (false, us.set k.toNat (us.getD k.toNat 0 + 1)) else takeF (us.set k.toNat (us.getD k.toNat 0 + 1)) ks e

def TakePost (g : Nat) (us ks : List Int) (e : Int) (w : World) (en : Ending) (w' : World) : Prop :=
 en = .returned (.bool (takeF us ks e).1) ∧ Blk w' g 3 (ivs (takeF us ks e).2) ∧ w.grownBy w' (some g)
theorem TakePost.of {g : Nat} {us ks : List Int} {e : Int} {w w' : World} {b : Bool} {us' : List Int} (h : takeF us ks e = (b, us')) (hB : Blk w' g 3 (ivs us')) (hg : w.grownBy w' (some g)) :
 TakePost g us ks e w (.returned (.bool b)) w' := by
 unfold TakePost
 rw [h]
 exact ⟨rfl, hB, hg⟩

/-- Each count is 0 or 1. -/
def Bits01 (us : List Int) : Prop := ∀ u ∈ us, 0 ≤ u ∧ u ≤ 1
theorem Bits01.set {us : List Int} (h : Bits01 us) (j : Nat) {u : Int} (hu : 0 ≤ u ∧ u ≤ 1) : Bits01 (us.set j u) := fun x hx => by
 rcases List.mem_or_eq_of_mem_set hx with h1 | rfl
 ·exact h _ h1
 ·exact hu

set_option maxHeartbeats 2000000 in
theorem take_any (g m cap c : Nat) (us ks : List Int) (A : Option Addr) (e : Int) (w : World) (hB : Blk w g 3 (ivs us)) (hm : us.length = m)
 (hS : SlAt (fun b => b < w.heap.size ∧ b ≠ g) w A ks.length (ks.map iv)) (hn : ks.length ≤ 9223372036854775807) (he : e ≤ m) (hu : Bits01 us) :
 Calls Tryz.prog 167 #[.slice (some ⟨g, 0, none⟩) m cap, .slice A ks.length c, .int .i64 e] w (TakePost g us ks e w) := by
 have hr := only_refl w (some g)
 go_enter Tryz.func167, Tryz.ntmps167
 go_wp2
 go_loopw [11] (fun i wr => ∃ (k : Nat) (cur : List Int), k ≤ ks.length ∧ i = .int .i64 k ∧ cur.length = m ∧ Bits01 cur ∧ takeF us ks e = takeF cur (ks.drop k) e ∧ Blk wr g 3 (ivs cur) ∧ w.grownBy wr (some g)) (fun i _ => ks.length - (intOf i).toNat)
 case atStart => exact ⟨0, us, Nat.zero_le _, rfl, hm, hu, rfl, hB, hr⟩
 case round =>
  obtain ⟨k, cur, hk, rfl, hcl, hcu, hT, hBr, hgr⟩ := hrel
  have HT := Lib.hid hT
  clear hT
  by_cases hlt : k < ks.length
  ·obtain ⟨b, off, rfl, ⟨hb, hbg⟩, hcell⟩ := hS.at_ hlt
   have hq := hcell k (.int .i64 ks[k]) (by simp [hlt])
   have hd : ks.drop k = ks[k] :: ks.drop (k + 1) := List.drop_eq_getElem_cons hlt
   obtain ⟨x, hx⟩ : ∃ x, ks[k] = x := ⟨_, rfl⟩
   rw [hx] at hq hd
   clear hx
   have hq' : wr.cell? ⟨b, off + k, none⟩ = some (.int .i64 x) := (only_cell hgr (p := ⟨b, off + k, none⟩) hb hbg).trans hq
   have HD := Lib.hid hd
   clear hd hq hcell
   by_cases h0 : x < 0
   ·go_wp2
    go_ret
    exact TakePost.of (by rw [HT.out, HD.out, takeF, if_pos (.inl h0)]) hBr hgr
   ·by_cases h1 : e ≤ x
    ·go_wp2
     go_ret
     exact TakePost.of (by rw [HT.out, HD.out, takeF, if_pos (.inr h1)]) hBr hgr
    ·obtain ⟨j, rfl⟩ : ∃ j : Nat, x = (j : Int) := ⟨x.toNat, by omega⟩
     have hjm : j < m := by omega
     have hjc : j < cur.length := by omega
     have hf := hBr.frozen j
     have hc := (hBr.cell j).trans (ivs_get cur j hjc)
     obtain ⟨hu0, hu1⟩ := hcu _ (List.getElem_mem hjc)
     have hget : cur.getD j 0 = cur[j] := by simp [List.getD_eq_getElem?_getD, hjc]
     have hgd : cur.getD (j : Int).toNat 0 = cur[j] := hget
     have HS := Lib.hid (hBr.set_ j (.int .i64 (cur[j] + 1)))
     have hgs := only_setCell hgr (p := ⟨g, j, none⟩) (.inl rfl) (.int .i64 (cur[j] + 1))
     have HG := Lib.hid hgd
     clear hgd hget
     obtain ⟨u, hu⟩ : ∃ u, cur[j] = u := ⟨_, rfl⟩
     rw [hu] at hc hu0 hu1 HS HG hgs
     clear hu
     by_cases hz : 0 < u
     ·go_wp2
      go_ret
      refine TakePost.of (us' := cur.set j (u + 1)) ?_ (by rw [← ivs_set]; exact HS.out) hgs
      rw [HT.out, HD.out, takeF, if_neg (by omega), HG.out, if_pos hz]; rfl
     ·obtain rfl : u = 0 := by omega
      go_wp2
      go_roundw
      case rel => exact ⟨k + 1, cur.set j 1, by omega, by go_num, by simpa using hcl, hcu.set j (by omega), by rw [HT.out, HD.out, takeF, if_neg (by omega), HG.out, if_neg (by omega)]; rfl, by rw [← ivs_set]; exact HS.out, hgs⟩
      case measure => simp [intOf]; omega
  ·obtain rfl : k = ks.length := by omega
   go_wp2
   go_ret
   exact TakePost.of (by rw [HT.out, List.drop_length, takeF]) hBr hgr
theorem idx0_any (g m cap : Nat) (us : List Int) (w : World) (hB : Blk w g 3 (ivs us)) (hm : m ≤ us.length) (hn : us.length ≤ 9223372036854775807) :
 Calls Tryz.prog 219 #[.slice (some ⟨g, 0, none⟩) m cap, .int .i64 0] w fun e w' => (∃ n : Int, e = .returned (.int .i64 n) ∧ -1 ≤ n ∧ (0 ≤ n ↔ 0 ∈ us.take m)) ∧ w = w' := by
 go_enter Tryz.func219, Tryz.ntmps219
 go_wp2
 go_loop [5, 8] (fun _ i => ∃ (k : Nat), k ≤ m ∧ i = .int .i64 k ∧ ¬ 0 ∈ us.take k) (fun _ i => m - (intOf i).toNat)
 case atStart => exact ⟨0, Nat.zero_le _, rfl, by simp⟩
 case round =>
  obtain ⟨k, hk, rfl, hno⟩ := hrel
  have HN := Lib.hid hno
  clear hno
  by_cases hlt : k < m
  ·have hkl : k < us.length := by omega
   have hc := (hB.cell k).trans (ivs_get us k hkl)
   have ht : us.take (k + 1) = us.take k ++ [us[k]] := by rw [List.take_succ_eq_append_getElem hkl]
   have hin : us[k] = 0 → 0 ∈ us.take m := fun h => by
    rw [← h]
    exact List.mem_take_iff_getElem.2 ⟨k, by omega, rfl⟩
   have HT := Lib.hid ht
   have HI := Lib.hid hin
   clear ht hin
   obtain ⟨u, hu⟩ : ∃ u, us[k] = u := ⟨_, rfl⟩
   rw [hu] at hc HT HI
   clear hu
   by_cases h0 : u = 0
   ·subst h0
    go_wp2
    go_ret
    exact ⟨⟨_, rfl, by omega, ⟨fun _ => HI.out (by simp), fun _ => by omega⟩⟩, rfl⟩
   ·have h0' : ((0 : Int) == u) = false := by simpa using fun h => h0 h.symm
    go_wp2
    go_round
    case rel => exact ⟨k + 1, by omega, by go_num, by rw [HT.out]; simp; exact ⟨HN.out, fun h => h0 h.symm⟩⟩
    case measure => simp [intOf]; omega
  ·obtain rfl : k = m := by omega
   go_wp2
   go_ret
   exact ⟨⟨_, rfl, by omega, ⟨fun h => absurd h (by omega), fun h => absurd h HN.out⟩⟩, rfl⟩

theorem has0_any (g m cap : Nat) (us : List Int) (w : World) (hB : Blk w g 3 (ivs us)) (hm : m ≤ us.length) (hn : us.length ≤ 9223372036854775807) :
 Calls Tryz.prog 171 #[.slice (some ⟨g, 0, none⟩) m cap, .int .i64 0] w fun e w' => e = .returned (.bool (decide (0 ∈ us.take m))) ∧ w = w' := by
 have c := fun w hB => idx0_any g m cap us w hB hm hn
 go_enter Tryz.func171, Tryz.ntmps171
 go_wp2_with (go_at_call 219; refine (c _ hB).mono ?_; rintro e w' ⟨⟨n, rfl, h1, h2⟩, rfl⟩; have H := Lib.hid h2; clear h2)
 go_ret
 exact ⟨ret_bool (by rw [decide_eq_decide]; exact H.out), rfl⟩

theorem all_any (g m cap : Nat) (us : List Int) (w : World) (hB : Blk w g 3 (ivs us)) (hm : m ≤ us.length) (hn : us.length ≤ 9223372036854775807) :
 Calls Tryz.prog 115 #[.slice (some ⟨g, 0, none⟩) m cap] w fun e w' => e = .returned (.bool (!decide (0 ∈ us.take m))) ∧ w = w' := by
 have c := has0_any g m cap us w hB hm hn
 go_enter Tryz.func115, Tryz.ntmps115
 go_wp2_with (go_at_call 171; refine c.mono ?_; rintro e w' ⟨rfl, rfl⟩)
 go_ret
 exact ⟨rfl, rfl⟩
end Go.Proofs.YtjbdgjbmbohfmaaGreatDoor
