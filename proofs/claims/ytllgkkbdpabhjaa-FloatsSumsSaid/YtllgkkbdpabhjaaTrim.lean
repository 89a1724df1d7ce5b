/- The document's digits: one of them, and those without noughts above; at every row. -/
import Derived.Test.YtllgkkbdpabhjaaDig
import Derived.Test.YtllgkkbdpabhjaaRow
namespace Go.Proofs.Ytllgkkbdpabhjaa
open Go Go.Proofs Go.RowKit

theorem bit_any {n₀ : Nat} {v : Value} {l : List Nat} (i : Nat) (hl : l.length ≤ 1048576) (w : World) (h : RowAt n₀ w v l) :
    Calls Try.prog 40 #[v, .int .i64 (i : Int)] w fun e w' => e = .returned (.int .u8 ((l.getD i 0 : Nat) : Int)) ∧ w = w' := by
  by_cases hlt : i < l.length
  · rcases h with ⟨_, _, _, _, rfl⟩ | ⟨b, off, cap, rfl, _, hc, hh⟩
    · cases hlt
    · have hcell := hh i hlt
      generalize l.getD i 0 = d at hcell ⊢
      generalize l.length = n at *
      clear hh
      go_enter Try.func40, Try.ntmps40
      go_wp2
      go_ret
      exact ⟨rfl, rfl⟩
  · have e : l.getD i 0 = 0 := by
      rw [List.getD_eq_getElem?_getD, List.getElem?_eq_none (by omega)]; rfl
    rw [e]
    obtain ⟨a, cap, rfl, hc⟩ := h.shape
    generalize l.length = n at *
    clear h e
    go_enter Try.func40, Try.ntmps40
    go_wp2
    go_ret
    exact ⟨rfl, rfl⟩

theorem trim_any {n₀ : Nat} {v : Value} {l : List Nat} (hb : bitsL l) (hl : l.length ≤ 1048576) (w : World) (h : RowAt n₀ w v l) :
    Calls Try.prog 37 #[v] w fun e w' => (∃ v', e = .returned v' ∧ RowAt n₀ w v' (dg (val l))) ∧ w = w' := by
  rcases h with ⟨a, cap, ha, rfl, rfl⟩ | ⟨b, off, cap, rfl, hbn, hc, hh⟩
  · go_enter Try.func37, Try.ntmps37
    go_wp2
    go_loop [0] (fun u => u = .slice a 0 cap) (fun _ => 0)
    case atStart => rfl
    case round =>
      subst hrel
      go_wp2
      go_ret
      exact ⟨⟨_, rfl, .inl ⟨a, cap, ha, rfl, by rw [val, dg_zero]⟩⟩, rfl⟩
  · go_enter Try.func37, Try.ntmps37
    go_wp2
    go_loop [0] (fun u => ∃ k : Nat, k ≤ l.length ∧ u = .slice (some ⟨b, off, none⟩) k cap ∧ Hid (val (l.take k) = val l)) (fun u => match u with | .slice _ n _ => n | _ => 0)
    case atStart => exact ⟨l.length, Nat.le_refl _, rfl, Lib.hid (by rw [List.take_length])⟩
    case round =>
      obtain ⟨k, hk, rfl, hv⟩ := hrel
      cases k with
      | zero =>
        have ht := trim_dg l hb 0 (by omega) hv.out (.inl rfl)
        have HT := Lib.hid ht
        clear ht
        go_wp2
        go_ret
        refine ⟨⟨_, rfl, .inl ⟨some ⟨b, off, none⟩, cap, (fun e => by cases e), rfl, ?_⟩⟩, rfl⟩
        rw [← HT.out]; rfl
      | succ m =>
        have hcell := hh m (by omega)
        by_cases hz : l.getD m 0 = 0
        · rw [hz] at hcell
          have hv2 := Lib.hid ((val_take_zero l m hz).symm.trans hv.out)
          clear hz
          go_wp2
          go_round
          case rel => exact ⟨m, by omega, rfl, hv2⟩
          case measure => simp
        · have ht := trim_dg l hb (m + 1) (by omega) hv.out (.inr hz)
          have HT := Lib.hid ht
          have hlen := hh
          clear ht
          generalize l.getD m 0 = d at hcell hz
          have hne : ((d : Int) == 0) = false := by simp; omega
          clear hz
          go_wp2
          go_ret
          have hll : (l.take (m + 1)).length = m + 1 := by rw [List.length_take]; omega
          refine ⟨⟨_, rfl, ?_⟩, rfl⟩
          rw [← HT.out]
          refine .inr ⟨b, off, cap, by rw [hll]; rfl, hbn, by omega, fun j hj => ?_⟩
          rw [getD_take _ _ _ (by omega)]
          exact hlen j (by omega)
end Go.Proofs.Ytllgkkbdpabhjaa
