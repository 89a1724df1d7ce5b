/- Was each part taken; the greatest depth of some parts: at every row of numbers. -/
import Derived.Test.YtggchkddmihobaaGreatDoorTake
namespace Go.Proofs.YtggchkddmihobaaGreatDoor
open Go Go.Proofs Go.RowKit

theorem idx0_any (g m cap : Nat) (us : List Int) (w : World) (hB : Blk w g 3 (ivs us)) (hm : m ≤ us.length) (hn : us.length ≤ 9223372036854775807) :
    Calls Tryz.prog 102 #[.slice (some ⟨g, 0, none⟩) m cap, .int .i64 0] w fun e w' => (∃ n : Int, e = .returned (.int .i64 n) ∧ -1 ≤ n ∧ (0 ≤ n ↔ 0 ∈ us.take m)) ∧ w = w' := by
  go_enter Tryz.func102, Tryz.ntmps102
  go_wp2
  go_loop [5, 8] (fun _ i => ∃ (k : Nat), k ≤ m ∧ i = .int .i64 k ∧ ¬ 0 ∈ us.take k) (fun _ i => m - (intOf i).toNat)
  case atStart => exact ⟨0, Nat.zero_le _, rfl, by simp⟩
  case round =>
    obtain ⟨k, hk, rfl, hno⟩ := hrel
    have HN := Lib.hid hno
    clear hno
    by_cases hlt : k < m
    · have hkl : k < us.length := by omega
      have hc := (hB.cell k).trans (ivs_get us k hkl)
      have ht : us.take (k + 1) = us.take k ++ [us[k]] := by rw [List.take_succ_eq_append_getElem hkl]
      have hin : us[k] = 0 → 0 ∈ us.take m := fun h => by
        rw [← h]
        exact List.mem_take_iff_getElem.2 ⟨k, by omega, rfl⟩
      have HT := Lib.hid ht
      have HI := Lib.hid hin
      clear ht hin
      obtain ⟨u, hu⟩ : ∃ u, us[k] = u := ⟨_, rfl⟩
      rw [hu] at hc HT HI
      clear hu
      by_cases h0 : u = 0
      · subst h0
        go_wp2
        go_ret
        exact ⟨⟨_, rfl, by omega, ⟨fun _ => HI.out (by simp), fun _ => by omega⟩⟩, rfl⟩
      · have h0' : ((0 : Int) == u) = false := by simpa using fun h => h0 h.symm
        go_wp2
        go_round
        case rel => exact ⟨k + 1, by omega, by go_num, by rw [HT.out]; simp; exact ⟨HN.out, fun h => h0 h.symm⟩⟩
        case measure => simp [intOf]; omega
    · obtain rfl : k = m := by omega
      go_wp2
      go_ret
      exact ⟨⟨_, rfl, by omega, ⟨fun h => absurd h (by omega), fun h => absurd h HN.out⟩⟩, rfl⟩

theorem has0_any (g m cap : Nat) (us : List Int) (w : World) (hB : Blk w g 3 (ivs us)) (hm : m ≤ us.length) (hn : us.length ≤ 9223372036854775807) :
    Calls Tryz.prog 85 #[.slice (some ⟨g, 0, none⟩) m cap, .int .i64 0] w fun e w' => e = .returned (.bool (decide (0 ∈ us.take m))) ∧ w = w' := by
  have c := fun w hB => idx0_any g m cap us w hB hm hn
  go_enter Tryz.func85, Tryz.ntmps85
  go_wp2_with (go_at_call 102; refine (c _ hB).mono ?_; rintro e w' ⟨⟨n, rfl, h1, h2⟩, rfl⟩; have H := Lib.hid h2; clear h2)
  go_ret
  exact ⟨ret_bool (by rw [decide_eq_decide]; exact H.out), rfl⟩

theorem all_any (g m cap : Nat) (us : List Int) (w : World) (hB : Blk w g 3 (ivs us)) (hm : m ≤ us.length) (hn : us.length ≤ 9223372036854775807) :
    Calls Tryz.prog 74 #[.slice (some ⟨g, 0, none⟩) m cap] w fun e w' => e = .returned (.bool (!decide (0 ∈ us.take m))) ∧ w = w' := by
  have c := has0_any g m cap us w hB hm hn
  go_enter Tryz.func74, Tryz.ntmps74
  go_wp2_with (go_at_call 85; refine c.mono ?_; rintro e w' ⟨rfl, rfl⟩)
  go_ret
  exact ⟨rfl, rfl⟩

/-- Numbers as cells. -/
abbrev nvs (ds : List Nat) : Array Value := (ds.map fun n : Nat => iv (n : Int)).toArray
theorem nvs_get (ds : List Nat) (i : Nat) (h : i < ds.length) : (nvs ds)[i]? = some (.int .i64 (ds[i] : Nat)) := by simp [nvs, h]
theorem nvs_set (ds : List Nat) (i : Nat) (u : Nat) : (nvs ds).setIfInBounds i (.int .i64 (u : Int)) = nvs (ds.set i u) := by
  apply Array.ext'
  simp [nvs, List.map_set]

theorem most_take (f : Int → Nat) (ks : List Int) (k : Nat) (h : k < ks.length) : most ((ks.take (k + 1)).map f) = max (most ((ks.take k).map f)) (f ks[k]) := by
  rw [List.take_succ_eq_append_getElem h, List.map_append, most_append]
  simp [most]

end Go.Proofs.YtggchkddmihobaaGreatDoor
