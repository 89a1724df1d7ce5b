/- Counting parts: take, all; the greatest depth of some parts; at every row of numbers. -/
import Derived.Test.YtggchkddmihobaaGreatDoorData
import Derived.LoopTactic
namespace Go.Proofs.YtggchkddmihobaaGreatDoor
open Go Go.Proofs Go.RowKit

/-- What becomes of the counts us when the parts ks are taken, each below e. -/
def takeF : List Int → List Int → Int → Bool × List Int
  | us, [], _ => (true, us)
  | us, k :: ks, e => if k < 0 ∨ e ≤ k then (false, us) else
    if 0 < us.getD k.toNat 0 then (false, us.set k.toNat (us.getD k.toNat 0 + 1)) else takeF (us.set k.toNat (us.getD k.toNat 0 + 1)) ks e

def TakePost (g : Nat) (us ks : List Int) (e : Int) (w : World) (en : Ending) (w' : World) : Prop :=
  en = .returned (.bool (takeF us ks e).1) ∧ Blk w' g 3 (ivs (takeF us ks e).2) ∧ w.grownBy w' (some g)
theorem TakePost.of {g : Nat} {us ks : List Int} {e : Int} {w w' : World} {b : Bool} {us' : List Int} (h : takeF us ks e = (b, us')) (hB : Blk w' g 3 (ivs us')) (hg : w.grownBy w' (some g)) :
    TakePost g us ks e w (.returned (.bool b)) w' := by
  unfold TakePost
  rw [h]
  exact ⟨rfl, hB, hg⟩

/-- Each count is 0 or 1. -/
def Bits01 (us : List Int) : Prop := ∀ u ∈ us, 0 ≤ u ∧ u ≤ 1
theorem Bits01.set {us : List Int} (h : Bits01 us) (j : Nat) {u : Int} (hu : 0 ≤ u ∧ u ≤ 1) : Bits01 (us.set j u) := fun x hx => by
  rcases List.mem_or_eq_of_mem_set hx with h1 | rfl
  · exact h _ h1
  · exact hu

set_option maxHeartbeats 2000000 in
theorem take_any (g m cap c : Nat) (us ks : List Int) (A : Option Addr) (e : Int) (w : World) (hB : Blk w g 3 (ivs us)) (hm : us.length = m)
    (hS : SlAt (fun b => b < w.heap.size ∧ b ≠ g) w A ks.length (ks.map iv)) (hn : ks.length ≤ 9223372036854775807) (he : e ≤ m) (hu : Bits01 us) :
    Calls Tryz.prog 81 #[.slice (some ⟨g, 0, none⟩) m cap, .slice A ks.length c, .int .i64 e] w (TakePost g us ks e w) := by
  have hr := only_refl w (some g)
  go_enter Tryz.func81, Tryz.ntmps81
  go_wp2
  go_loopw [11] (fun i wr => ∃ (k : Nat) (cur : List Int), k ≤ ks.length ∧ i = .int .i64 k ∧ cur.length = m ∧ Bits01 cur ∧ takeF us ks e = takeF cur (ks.drop k) e ∧ Blk wr g 3 (ivs cur) ∧ w.grownBy wr (some g)) (fun i _ => ks.length - (intOf i).toNat)
  case atStart => exact ⟨0, us, Nat.zero_le _, rfl, hm, hu, rfl, hB, hr⟩
  case round =>
    obtain ⟨k, cur, hk, rfl, hcl, hcu, hT, hBr, hgr⟩ := hrel
    have HT := Lib.hid hT
    clear hT
    by_cases hlt : k < ks.length
    · obtain ⟨b, off, rfl, ⟨hb, hbg⟩, hcell⟩ := hS.at_ hlt
      have hq := hcell k (.int .i64 ks[k]) (by simp [hlt])
      have hd : ks.drop k = ks[k] :: ks.drop (k + 1) := List.drop_eq_getElem_cons hlt
      obtain ⟨x, hx⟩ : ∃ x, ks[k] = x := ⟨_, rfl⟩
      rw [hx] at hq hd
      clear hx
      have hq' : wr.cell? ⟨b, off + k, none⟩ = some (.int .i64 x) := (only_cell hgr (p := ⟨b, off + k, none⟩) hb hbg).trans hq
      have HD := Lib.hid hd
      clear hd hq hcell
      by_cases h0 : x < 0
      · go_wp2
        go_ret
        exact TakePost.of (by rw [HT.out, HD.out, takeF, if_pos (.inl h0)]) hBr hgr
      · by_cases h1 : e ≤ x
        · go_wp2
          go_ret
          exact TakePost.of (by rw [HT.out, HD.out, takeF, if_pos (.inr h1)]) hBr hgr
        · obtain ⟨j, rfl⟩ : ∃ j : Nat, x = (j : Int) := ⟨x.toNat, by omega⟩
          have hjm : j < m := by omega
          have hjc : j < cur.length := by omega
          have hf := hBr.frozen j
          have hc := (hBr.cell j).trans (ivs_get cur j hjc)
          obtain ⟨hu0, hu1⟩ := hcu _ (List.getElem_mem hjc)
          have hget : cur.getD j 0 = cur[j] := by simp [List.getD_eq_getElem?_getD, hjc]
          have hgd : cur.getD (j : Int).toNat 0 = cur[j] := hget
          have HS := Lib.hid (hBr.set_ j (.int .i64 (cur[j] + 1)))
          have hgs := only_setCell hgr (p := ⟨g, j, none⟩) (.inl rfl) (.int .i64 (cur[j] + 1))
          have HG := Lib.hid hgd
          clear hgd hget
          obtain ⟨u, hu⟩ : ∃ u, cur[j] = u := ⟨_, rfl⟩
          rw [hu] at hc hu0 hu1 HS HG hgs
          clear hu
          by_cases hz : 0 < u
          · go_wp2
            go_ret
            refine TakePost.of (us' := cur.set j (u + 1)) ?_ (by rw [← ivs_set]; exact HS.out) hgs
            rw [HT.out, HD.out, takeF, if_neg (by omega), HG.out, if_pos hz]; rfl
          · obtain rfl : u = 0 := by omega
            go_wp2
            go_roundw
            case rel => exact ⟨k + 1, cur.set j 1, by omega, by go_num, by simpa using hcl, hcu.set j (by omega), by rw [HT.out, HD.out, takeF, if_neg (by omega), HG.out, if_neg (by omega)]; rfl, by rw [← ivs_set]; exact HS.out, hgs⟩
            case measure => simp [intOf]; omega
    · obtain rfl : k = ks.length := by omega
      go_wp2
      go_ret
      exact TakePost.of (by rw [HT.out, List.drop_length, takeF]) hBr hgr
end Go.Proofs.YtggchkddmihobaaGreatDoor
