/- The document's answer for words, at every string. -/
import Derived.Test.YtggchkddmihobaaGreatDoorNames
import Derived.Laws.Strings2
namespace Go.Proofs.YtggchkddmihobaaGreatDoor
open Go Go.Proofs Go.RowKit

/-- The words, each between blanks. -/
def WL : List UInt8 := [32, 102, 117, 110, 32, 108, 101, 116, 32, 114, 101, 99, 32, 105, 110, 32, 105, 102, 32, 116, 104, 101, 110, 32, 101, 108, 115, 101, 32, 99, 97, 115, 101, 32, 111, 102, 32, 101, 110, 100, 32, 116, 114, 117].append [101, 32, 102, 97, 108, 115, 101, 32, 105, 110, 116, 32, 98, 111, 111, 108, 32, 115, 116, 114, 32, 102, 108, 111, 97, 116, 32, 100, 121, 110, 32, 97, 110, 121, 32, 110, 111, 110, 101, 32, 116, 121, 112, 101, 32]
theorem WL_len : WL.length = 89 := by decide
theorem words_in : ∀ x ∈ words, ∃ i ∈ List.range 88, i + x.length + 2 ≤ 89 ∧ (WL.drop i).take (x.length + 2) = 32 :: (x ++ [32]) := by decide +kernel
theorem words_small : ∀ x ∈ words, x.all smallB = true := by decide
theorem words_out : ∀ i ∈ List.range 89, WL.getD i 0 = 32 → (WL.drop (i + 1)).takeWhile (fun c => decide (c ≠ 32)) ∈ words ∨ (WL.drop (i + 1)).takeWhile (fun c => decide (c ≠ 32)) = [] := by decide +kernel
theorem word_of (l : List UInt8) (h0 : l ≠ []) (hs : l.all smallB = true) (i : Nat) (hi : i + l.length + 2 ≤ 89) (h : (WL.drop i).take (l.length + 2) = 32 :: (l ++ [32])) : l ∈ words := by
  have hg : WL.getD i 0 = 32 := by
    have := congrArg (fun x => x.getD 0 0) h
    simpa [List.getD_eq_getElem?_getD] using this
  have hd : WL.drop i = 32 :: (l ++ [32]) ++ (WL.drop i).drop (l.length + 2) := by rw [← h, List.take_append_drop]
  have hd1 : WL.drop (i + 1) = l ++ 32 :: (WL.drop i).drop (l.length + 2) := by
    have : WL.drop (i + 1) = (WL.drop i).drop 1 := by rw [List.drop_drop]
    rw [this]
    conv => lhs; rw [hd]
    simp
  have ht : (WL.drop (i + 1)).takeWhile (fun c => decide (c ≠ 32)) = l := by
    rw [hd1]
    refine takeWhile_stop _ _ _ _ (fun y hy => ?_) (by decide)
    have := List.all_eq_true.1 hs y hy
    simp [smallB] at this
    simp
    rintro rfl
    simp at this
  rcases words_out i (List.mem_range.2 (by omega)) hg with h | h
  · rwa [ht] at h
  · rw [ht] at h; exact absurd h h0

theorem tl_append (a b : ByteArray) : tl (a ++ b) = tl a ++ tl b := by
  unfold tl
  rw [ByteArray.data_append, Array.toList_append]

set_option maxRecDepth 100000 in
set_option maxHeartbeats 4000000 in
theorem rword_any (s : ByteArray) (hs : s.size ≤ 1048576) (w : World) : Calls Tryz.prog 42 #[.string s] w fun e w' => e = .returned (.bool (isW (tl s))) ∧ w = w' := by
  have hlen := tl_length s
  by_cases h0 : s.size = 0
  · have he : tl s = [] := List.length_eq_zero_iff.1 (by omega)
    have hS : (s.toList == []) = true := by rw [empty_eq]; simpa using h0
    have hN : isW (tl s) = false := by rw [he]; decide
    rw [hN]
    clear hN he
    go_enter Tryz.func42, Tryz.ntmps42
    go_wp2_with fail
    go_ret
    exact ⟨rfl, rfl⟩
  · have hne : tl s ≠ [] := fun h => h0 (by rw [h] at hlen; simpa using hlen.symm)
    have hS : (s.toList == []) = false := by rw [empty_eq]; simpa using h0
    obtain ⟨WS, hWS⟩ : ∃ WS : ByteArray, ⟨([32, 102, 117, 110, 32, 108, 101, 116, 32, 114, 101, 99, 32, 105, 110, 32, 105, 102, 32, 116, 104, 101, 110, 32, 101, 108, 115, 101, 32, 99, 97, 115, 101, 32, 111, 102, 32, 101, 110, 100, 32, 116, 114, 117].append [101, 32, 102, 97, 108, 115, 101, 32, 105, 110, 116, 32, 98, 111, 111, 108, 32, 115, 116, 114, 32, 102, 108, 111, 97, 116, 32, 100, 121, 110, 32, 97, 110, 121, 32, 110, 111, 110, 101, 32, 116, 121, 112, 101, 32]).toArray⟩ = WS := ⟨_, rfl⟩
    have hwt : tl WS = WL := by rw [← hWS]; simp [tl, WL]
    have hwz : WS.size = 89 := by rw [← tl_length, hwt]; exact WL_len
    have HNE := Lib.hid hne
    obtain ⟨R, hR⟩ : ∃ R, isW (tl s) = R := ⟨_, rfl⟩
    rw [hR]
    have HR := Lib.hid hR
    clear hR hne
    go_enter Tryz.func42, Tryz.ntmps42
    rw [hWS]
    have HWT := Lib.hid hwt
    clear hWS hwt
    go_wp2_with fail
    go_loop [3] (fun i => ∃ k : Nat, k ≤ s.size ∧ i = .int .i64 k ∧ Hid (∀ j (hj : j < s.size), j < k → smallB (s[j]'hj) = true)) (fun i => s.size - (intOf i).toNat)
    case atStart => exact ⟨0, Nat.zero_le _, rfl, Lib.hid (fun j hj h => by omega)⟩
    case round =>
      obtain ⟨k, hk, rfl, HJ⟩ := hrel
      by_cases hlt : k < s.size
      · have hc := (s[k]'hlt).toNat_lt
        have hbad : ∀ (_ : smallB (s[k]'hlt) = false), R = false := fun h => by
          rw [← HR.out]
          unfold isW
          rw [decide_eq_false_iff_not]
          intro hm
          have := List.all_eq_true.1 (words_small _ hm) (s[k]'hlt) (List.mem_of_mem_drop (by rw [tl_drop s k hlt]; exact List.mem_cons_self ..))
          rw [h] at this
          cases this
        by_cases c1 : 97 ≤ (s[k]'hlt).toNat
        · by_cases c2 : (s[k]'hlt).toNat ≤ 122
          · have HJ2 : Hid (∀ j (hj : j < s.size), j < k + 1 → smallB (s[j]'hj) = true) := Lib.hid (fun j hj h => by
              by_cases h' : j < k
              · exact HJ.out j hj h'
              · obtain rfl : j = k := by omega
                simp [smallB]; omega)
            clear hbad
            go_wp2_with fail
            go_round
            case rel => exact ⟨k + 1, by omega, by go_num, HJ2⟩
            case measure => simp [intOf]; omega
          · have HB := Lib.hid (hbad (by simp [smallB]; omega))
            clear hbad
            go_wp2_with fail
            go_ret
            exact ⟨ret_bool HB.out.symm, rfl⟩
        · have HB := Lib.hid (hbad (by simp [smallB]; omega))
          clear hbad
          go_wp2_with fail
          go_ret
          exact ⟨ret_bool HB.out.symm, rfl⟩
      · have hall : (tl s).all smallB = true := by
          rw [List.all_eq_true]
          intro x hx
          obtain ⟨j, hj, rfl⟩ := List.getElem_of_mem hx
          rw [hlen] at hj
          exact HJ.out j hj (by omega)
        have HALL := Lib.hid hall
        clear hall HJ
        go_wp2_with fail
        go_loop [4] (fun i => ∃ k : Nat, k ≤ 89 ∧ i = .int .i64 k ∧ Hid (∀ j, j < k → j + (tl s).length + 2 ≤ 89 → (WL.drop j).take ((tl s).length + 2) ≠ 32 :: (tl s ++ [32]))) (fun i => 89 - (intOf i).toNat)
        case atStart => exact ⟨0, Nat.zero_le _, rfl, Lib.hid (fun j h => by omega)⟩
        case round =>
          obtain ⟨k, hk, rfl, HJ⟩ := hrel
          by_cases hlt : k + s.size + 2 ≤ 89
          · obtain ⟨sub, hsub⟩ : ∃ sub, WS.extract k (k + s.size + 2) = sub := ⟨_, rfl⟩
            have hst : tl sub = (WL.drop k).take ((tl s).length + 2) := by
              rw [← hsub, tl_extract, HWT.out, List.drop_take, hlen]; congr 1; omega
            have hsl : ∀ w, (Instr.slice 9 (.string WS) (some (.int .i64 (k : Int))) (some (.int .i64 ((k : Int) + (s.size : Int) + 2))) none).run Tryz.prog w = .ok (.string sub) w := fun w => by
              rw [run_slice_string w 9 WS .i64 .i64 k ((k : Int) + (s.size : Int) + 2) Tryz.underlying9 (by omega) (by omega) (by omega), ← hsub]
              congr 3
            have hcat : tl ((⟨#[32]⟩ : ByteArray) ++ s ++ ⟨#[32]⟩) = 32 :: (tl s ++ [32]) := by rw [tl_append, tl_append]; rfl
            have hcmp : (sub.toList == ((⟨#[32]⟩ : ByteArray) ++ s ++ ⟨#[32]⟩).toList) = decide ((WL.drop k).take ((tl s).length + 2) = 32 :: (tl s ++ [32])) := by
              have h1 : ((⟨#[32]⟩ : ByteArray) ++ s ++ ⟨#[32]⟩).toList = 32 :: (tl s ++ [32]) := by rw [ByteArray.toList_eq]; exact hcat
              rw [h1, toL, hst]
            clear hst hsub hcat
            by_cases hw : (WL.drop k).take ((tl s).length + 2) = 32 :: (tl s ++ [32])
            · have hm : R = true := by
                rw [← HR.out]
                have := word_of (tl s) HNE.out HALL.out k (by omega) hw
                simpa [isW] using this
              have HM := Lib.hid hm
              rw [decide_eq_true hw] at hcmp
              clear hw hm
              go_wp2_with fail
              go_ret
              exact ⟨ret_bool HM.out.symm, rfl⟩
            · rw [decide_eq_false hw] at hcmp
              have HJ2 : Hid (∀ j, j < k + 1 → j + (tl s).length + 2 ≤ 89 → (WL.drop j).take ((tl s).length + 2) ≠ 32 :: (tl s ++ [32])) := Lib.hid (fun j h1 h2 => by
                by_cases h : j < k
                · exact HJ.out j h h2
                · obtain rfl : j = k := by omega
                  exact hw)
              clear hw
              go_wp2_with fail
              go_round
              case rel => exact ⟨k + 1, by omega, by go_num, HJ2⟩
              case measure => simp [intOf]; omega
          · have hm : R = false := by
              rw [← HR.out]
              unfold isW
              rw [decide_eq_false_iff_not]
              intro hmem
              obtain ⟨i, _, hi, hw⟩ := words_in _ hmem
              exact HJ.out i (by omega) hi hw
            have HM := Lib.hid hm
            clear hm
            go_wp2_with fail
            go_ret
            exact ⟨ret_bool HM.out.symm, rfl⟩
end Go.Proofs.YtggchkddmihobaaGreatDoor
