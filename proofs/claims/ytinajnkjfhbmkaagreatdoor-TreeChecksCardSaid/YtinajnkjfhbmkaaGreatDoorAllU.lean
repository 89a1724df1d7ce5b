/- Was each part taken; the greatest depth of some parts: at every row of numbers. -/
import Derived.Test.YtinajnkjfhbmkaaGreatDoorTake
namespace Go.Proofs.YtinajnkjfhbmkaaGreatDoor
open Go Go.Proofs Go.RowKit

theorem idx0_any (g m cap : Nat) (us : List Int) (w : World) (hB : Blk w g 3 (ivs us)) (hm : m ≤ us.length) (hn : us.length ≤ 9223372036854775807) :
    Calls Tryz.prog 75 #[.slice (some ⟨g, 0, none⟩) m cap, .int .i64 0] w fun e w' => (∃ n : Int, e = .returned (.int .i64 n) ∧ -1 ≤ n ∧ (0 ≤ n ↔ 0 ∈ us.take m)) ∧ w = w' := by
  go_enter Tryz.func75, Tryz.ntmps75
  go_wp2
  go_loop [5, 8] (fun _ i => ∃ (k : Nat), k ≤ m ∧ i = .int .i64 k ∧ ¬ 0 ∈ us.take k) (fun _ i => m - (intOf i).toNat)
  case atStart => exact ⟨0, Nat.zero_le _, rfl, by simp⟩
  case round =>
    obtain ⟨k, hk, rfl, hno⟩ := hrel
    have HN := Lib.hid hno
    clear hno
    by_cases hlt : k < m
    · have hkl : k < us.length := by omega
      have hc := (hB.cell k).trans (ivs_get us k hkl)
      have ht : us.take (k + 1) = us.take k ++ [us[k]] := by rw [List.take_succ_eq_append_getElem hkl]
      have hin : us[k] = 0 → 0 ∈ us.take m := fun h => by
        rw [← h]
        exact List.mem_take_iff_getElem.2 ⟨k, by omega, rfl⟩
      have HT := Lib.hid ht
      have HI := Lib.hid hin
      clear ht hin
      obtain ⟨u, hu⟩ : ∃ u, us[k] = u := ⟨_, rfl⟩
      rw [hu] at hc HT HI
      clear hu
      by_cases h0 : u = 0
      · subst h0
        go_wp2
        go_ret
        exact ⟨⟨_, rfl, by omega, ⟨fun _ => HI.out (by simp), fun _ => by omega⟩⟩, rfl⟩
      · have h0' : ((0 : Int) == u) = false := by simpa using fun h => h0 h.symm
        go_wp2
        go_round
        case rel => exact ⟨k + 1, by omega, by go_num, by rw [HT.out]; simp; exact ⟨HN.out, fun h => h0 h.symm⟩⟩
        case measure => simp [intOf]; omega
    · obtain rfl : k = m := by omega
      go_wp2
      go_ret
      exact ⟨⟨_, rfl, by omega, ⟨fun h => absurd h (by omega), fun h => absurd h HN.out⟩⟩, rfl⟩

theorem has0_any (g m cap : Nat) (us : List Int) (w : World) (hB : Blk w g 3 (ivs us)) (hm : m ≤ us.length) (hn : us.length ≤ 9223372036854775807) :
    Calls Tryz.prog 61 #[.slice (some ⟨g, 0, none⟩) m cap, .int .i64 0] w fun e w' => e = .returned (.bool (decide (0 ∈ us.take m))) ∧ w = w' := by
  have c := fun w hB => idx0_any g m cap us w hB hm hn
  go_enter Tryz.func61, Tryz.ntmps61
  go_wp2_with (go_at_call 75; refine (c _ hB).mono ?_; rintro e w' ⟨⟨n, rfl, h1, h2⟩, rfl⟩; have H := Lib.hid h2; clear h2)
  go_ret
  exact ⟨ret_bool (by rw [decide_eq_decide]; exact H.out), rfl⟩

theorem all_any (g m cap : Nat) (us : List Int) (w : World) (hB : Blk w g 3 (ivs us)) (hm : m ≤ us.length) (hn : us.length ≤ 9223372036854775807) :
    Calls Tryz.prog 30 #[.slice (some ⟨g, 0, none⟩) m cap] w fun e w' => e = .returned (.bool (!decide (0 ∈ us.take m))) ∧ w = w' := by
  have c := has0_any g m cap us w hB hm hn
  go_enter Tryz.func30, Tryz.ntmps30
  go_wp2_with (go_at_call 61; refine c.mono ?_; rintro e w' ⟨rfl, rfl⟩)
  go_ret
  exact ⟨rfl, rfl⟩

/-- Numbers as cells. -/
abbrev nvs (ds : List Nat) : Array Value := (ds.map fun n : Nat => iv (n : Int)).toArray
theorem nvs_get (ds : List Nat) (i : Nat) (h : i < ds.length) : (nvs ds)[i]? = some (.int .i64 (ds[i] : Nat)) := by simp [nvs, h]
theorem nvs_set (ds : List Nat) (i : Nat) (u : Nat) : (nvs ds).setIfInBounds i (.int .i64 (u : Int)) = nvs (ds.set i u) := by
  apply Array.ext'
  simp [nvs, List.map_set]

theorem most_take (f : Int → Nat) (ks : List Int) (k : Nat) (h : k < ks.length) : most ((ks.take (k + 1)).map f) = max (most ((ks.take k).map f)) (f ks[k]) := by
  rw [List.take_succ_eq_append_getElem h, List.map_append, most_append]
  simp [most]

theorem deepest_any (g m cap c : Nat) (ds : List Nat) (ks : List Int) (A : Option Addr) (w : World) (hB : Blk w g 3 (nvs ds)) (hm : ds.length = m) (_hmx : m ≤ 9223372036854775807)
    (hS : SlAt (fun b => b < w.heap.size) w A ks.length (ks.map iv)) (hn : ks.length ≤ 9223372036854775807) (hks : ∀ k ∈ ks, 0 ≤ k ∧ k < m) :
    Calls Tryz.prog 31 #[.slice (some ⟨g, 0, none⟩) m cap, .slice A ks.length c] w fun e w' => e = .returned (.int .i64 (most (ks.map fun k => ds.getD k.toNat 0) : Nat)) ∧ w = w' := by
  go_enter Tryz.func31, Tryz.ntmps31
  go_wp2
  go_loop [5, 10] (fun t i => ∃ (k : Nat), k ≤ ks.length ∧ i = .int .i64 k ∧ t = .int .i64 (most ((ks.take k).map fun k => ds.getD k.toNat 0) : Nat)) (fun _ i => ks.length - (intOf i).toNat)
  case atStart => exact ⟨0, Nat.zero_le _, rfl, rfl⟩
  case round =>
    obtain ⟨k, hk, rfl, rfl⟩ := hrel
    by_cases hlt : k < ks.length
    · obtain ⟨b, off, rfl, hb, hcell⟩ := hS.at_ hlt
      have hq := hcell k (.int .i64 ks[k]) (by simp [hlt])
      obtain ⟨x0, x1⟩ := hks _ (List.getElem_mem hlt)
      have hT := most_take (fun k => ds.getD k.toNat 0) ks k hlt
      obtain ⟨x, hx⟩ : ∃ x, ks[k] = x := ⟨_, rfl⟩
      rw [hx] at hq x0 x1 hT
      clear hx hcell
      obtain ⟨j, rfl⟩ : ∃ j : Nat, x = (j : Int) := ⟨x.toNat, by omega⟩
      have hjm : j < m := by omega
      have hjc : j < ds.length := by omega
      have hc := (hB.cell j).trans (nvs_get ds j hjc)
      have hget : ds.getD (j : Int).toNat 0 = ds[j] := by simp [List.getD_eq_getElem?_getD, hjc]
      rw [hget] at hT
      clear hget
      obtain ⟨u, hu⟩ : ∃ u, ds[j] = u := ⟨_, rfl⟩
      obtain ⟨M, hM⟩ : ∃ M, most ((ks.take k).map fun k => ds.getD k.toNat 0) = M := ⟨_, rfl⟩
      rw [hu] at hc hT
      rw [hM] at hT ⊢
      have HT := Lib.hid hT
      clear hu hM hT
      go_wp2
      go_round
      case rel => exact ⟨k + 1, by omega, by go_num, by rw [HT.out]; go_num⟩
      case measure => simp [intOf]; omega
    · obtain rfl : k = ks.length := by omega
      rw [List.take_length]
      go_wp2
      go_ret
      exact ⟨rfl, rfl⟩
end Go.Proofs.YtinajnkjfhbmkaaGreatDoor
