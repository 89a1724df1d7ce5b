/- The document's answer for signs and words, at every text of at most 2^20 bytes. -/
import Derived.Test.YtocepddgegnfaaaDoorRefC
import Derived.Test.YtocepddgegnfaaaDoorRefB
namespace Go.Proofs.YtocepddgegnfaaaDoor
open Go Go.Proofs Go.RowKit

theorem conv_part {W : World} {b off : Nat} {l : List UInt8} (hh : Holds W b off l) (a n cap : Nat) (h : a + n ≤ l.length) :
    (convert 22 9 (.slice (some ⟨b, off + a, none⟩) n cap)).run Tryd.prog W = .ok (.string ⟨((l.drop a).take n).toArray⟩) W :=
  conv_at (W := W) (X := W) (l := l.drop a) (by rw [List.length_drop]; omega) (hh.drop a) rfl

def onesN : List Nat := [40, 41, 123, 125, 91, 93, 44, 59, 58, 46, 61, 124, 43, 45, 42, 47, 60, 94]
theorem onesN_eq : ones.map UInt8.toNat = onesN := rfl

set_option maxRecDepth 100000 in
set_option maxHeartbeats 4000000 in
theorem rsign_any (b off cap : Nat) (l : List UInt8) (hlen : l.length ≤ 1048576) (hcap : l.length ≤ cap) (a : Nat) (ha : a < l.length) (w : World) (hh : Holds w b off l) :
    Calls Tryd.prog 45 #[.slice (some ⟨b, off, none⟩) l.length cap, .int .i64 a] w fun e w' => e = .returned (.int .i64 (signN (l.drop a) : Nat)) ∧ w = w' := by
  have hca := hh.at a ha
  have hg : (l.drop a).getD 0 0 = l[a] := by rw [drop_at l a ha]; rfl
  have hN : signN (l.drop a) = if (l.drop a).take 2 ∈ twos then 2 else if l[a] ∈ ones then 1 else 0 := by unfold signN; rw [hg]
  rw [hN]
  clear hN hg
  have hones : l[a] ∈ ones ↔ l[a].toNat ∈ ones.map UInt8.toNat := by
    constructor
    · intro h; exact List.mem_map_of_mem h
    · intro h
      obtain ⟨x, hx, he⟩ := List.mem_map.1 h
      rwa [← UInt8.toNat_inj.1 he]
  simp only [hones, onesN_eq]
  clear hones
  obtain ⟨c, hc⟩ : ∃ c, l[a].toNat = c := ⟨_, rfl⟩
  rw [hc] at hca ⊢
  by_cases h2 : a + 2 ≤ l.length
  · have kc := conv_part hh a 2 (cap - a) h2
    obtain ⟨s, hs⟩ : ∃ s : ByteArray, ⟨((l.drop a).take 2).toArray⟩ = s := ⟨_, rfl⟩
    have htl : tl s = (l.drop a).take 2 := by rw [← hs]; simp [tl]
    rw [hs] at kc
    rw [← htl]
    clear hs htl hc hh
    by_cases hm : tl s ∈ twos
    · rw [if_pos hm]
      simp only [twos, List.mem_cons, List.not_mem_nil, or_false] at hm
      rcases hm with hm | hm | hm | hm | hm | hm | hm | hm | hm
      all_goals
        have h0 : s = ⟨(tl s).toArray⟩ := by simp [tl]
        rw [hm] at h0
        subst h0
        clear hm
        go_enter Tryd.func45, Tryd.ntmps45
        go_wp2_with fail
        go_ret
        exact ⟨rfl, rfl⟩
    · rw [if_neg hm]
      simp only [twos, List.mem_cons, List.not_mem_nil, or_false, not_or] at hm
      obtain ⟨m1, m2, m3, m4, m5, m6, m7, m8, m9⟩ := hm
      have n1 := toL_ne m1
      have n2 := toL_ne m2
      have n3 := toL_ne m3
      have n4 := toL_ne m4
      have n5 := toL_ne m5
      have n6 := toL_ne m6
      have n7 := toL_ne m7
      have n8 := toL_ne m8
      have n9 := toL_ne m9
      clear m1 m2 m3 m4 m5 m6 m7 m8 m9
      by_cases ho : c ∈ onesN
      · rw [if_pos ho]
        simp only [onesN, List.mem_cons, List.not_mem_nil, or_false] at ho
        rcases ho with rfl | rfl | rfl | rfl | rfl | rfl | rfl | rfl | rfl | rfl | rfl | rfl | rfl | rfl | rfl | rfl | rfl | rfl
        all_goals
          go_enter Tryd.func45, Tryd.ntmps45
          go_wp2_with fail
          go_ret
          exact ⟨rfl, rfl⟩
      · rw [if_neg ho]
        simp only [onesN, List.mem_cons, List.not_mem_nil, or_false, not_or] at ho
        obtain ⟨o0, o1, o2, o3, o4, o5, o6, o7, o8, o9, o10, o11, o12, o13, o14, o15, o16, o17⟩ := ho
        have e0 : ((c : Int) == 40) = false := by simp; omega
        have e1 : ((c : Int) == 41) = false := by simp; omega
        have e2 : ((c : Int) == 123) = false := by simp; omega
        have e3 : ((c : Int) == 125) = false := by simp; omega
        have e4 : ((c : Int) == 91) = false := by simp; omega
        have e5 : ((c : Int) == 93) = false := by simp; omega
        have e6 : ((c : Int) == 44) = false := by simp; omega
        have e7 : ((c : Int) == 59) = false := by simp; omega
        have e8 : ((c : Int) == 58) = false := by simp; omega
        have e9 : ((c : Int) == 46) = false := by simp; omega
        have e10 : ((c : Int) == 61) = false := by simp; omega
        have e11 : ((c : Int) == 124) = false := by simp; omega
        have e12 : ((c : Int) == 43) = false := by simp; omega
        have e13 : ((c : Int) == 45) = false := by simp; omega
        have e14 : ((c : Int) == 42) = false := by simp; omega
        have e15 : ((c : Int) == 47) = false := by simp; omega
        have e16 : ((c : Int) == 60) = false := by simp; omega
        have e17 : ((c : Int) == 94) = false := by simp; omega
        clear o0 o1 o2 o3 o4 o5 o6 o7 o8 o9 o10 o11 o12 o13 o14 o15 o16 o17
        go_enter Tryd.func45, Tryd.ntmps45
        go_wp2_with fail
        go_ret
        exact ⟨rfl, rfl⟩
  · have hm : ¬ (l.drop a).take 2 ∈ twos := by
      intro hm
      simp only [twos, List.mem_cons, List.not_mem_nil, or_false] at hm
      have hl : ((l.drop a).take 2).length ≤ 1 := by rw [List.length_take, List.length_drop]; omega
      rcases hm with hm | hm | hm | hm | hm | hm | hm | hm | hm <;> (rw [hm] at hl; simp at hl)
    rw [if_neg hm]
    clear hm hh hc
    by_cases ho : c ∈ onesN
    · rw [if_pos ho]
      simp only [onesN, List.mem_cons, List.not_mem_nil, or_false] at ho
      rcases ho with rfl | rfl | rfl | rfl | rfl | rfl | rfl | rfl | rfl | rfl | rfl | rfl | rfl | rfl | rfl | rfl | rfl | rfl
      all_goals
        go_enter Tryd.func45, Tryd.ntmps45
        go_wp2_with fail
        go_ret
        exact ⟨rfl, rfl⟩
    · rw [if_neg ho]
      simp only [onesN, List.mem_cons, List.not_mem_nil, or_false, not_or] at ho
      obtain ⟨o0, o1, o2, o3, o4, o5, o6, o7, o8, o9, o10, o11, o12, o13, o14, o15, o16, o17⟩ := ho
      have e0 : ((c : Int) == 40) = false := by simp; omega
      have e1 : ((c : Int) == 41) = false := by simp; omega
      have e2 : ((c : Int) == 123) = false := by simp; omega
      have e3 : ((c : Int) == 125) = false := by simp; omega
      have e4 : ((c : Int) == 91) = false := by simp; omega
      have e5 : ((c : Int) == 93) = false := by simp; omega
      have e6 : ((c : Int) == 44) = false := by simp; omega
      have e7 : ((c : Int) == 59) = false := by simp; omega
      have e8 : ((c : Int) == 58) = false := by simp; omega
      have e9 : ((c : Int) == 46) = false := by simp; omega
      have e10 : ((c : Int) == 61) = false := by simp; omega
      have e11 : ((c : Int) == 124) = false := by simp; omega
      have e12 : ((c : Int) == 43) = false := by simp; omega
      have e13 : ((c : Int) == 45) = false := by simp; omega
      have e14 : ((c : Int) == 42) = false := by simp; omega
      have e15 : ((c : Int) == 47) = false := by simp; omega
      have e16 : ((c : Int) == 60) = false := by simp; omega
      have e17 : ((c : Int) == 94) = false := by simp; omega
      clear o0 o1 o2 o3 o4 o5 o6 o7 o8 o9 o10 o11 o12 o13 o14 o15 o16 o17
      go_enter Tryd.func45, Tryd.ntmps45
      go_wp2_with fail
      go_ret
      exact ⟨rfl, rfl⟩
end Go.Proofs.YtocepddgegnfaaaDoor
