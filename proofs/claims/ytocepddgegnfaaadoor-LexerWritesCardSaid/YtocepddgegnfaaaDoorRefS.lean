/- The document's answer for strings, at every text of at most 2^20 bytes. -/
import Derived.Test.YtocepddgegnfaaaDoorRefW
import Derived.Test.YtocepddgegnfaaaDoorRefG
import Derived.Test.YtocepddgegnfaaaDoorUnq
namespace Go.Proofs.YtocepddgegnfaaaDoor
open Go Go.Proofs Go.RowKit

/-- What a string tells: its text and its bytes; nothing and 0 of one that isn't right. -/
def strR (o : Option (List UInt8 × Nat)) : List UInt8 × Nat := match o with | none => ([], 0) | some x => (x.1, x.2 + 1)
/-- The same behind some bytes. -/
def strG (pre : List UInt8) (m : Nat) (o : Option (List UInt8 × Nat)) : Option (List UInt8 × Nat) := o.map fun x => (pre ++ x.1, m + x.2)
theorem strG_end (pre : List UInt8) (m : Nat) (c : UInt8) (r : List UInt8) (h : c.toNat = 34) : strG pre m (strV (c :: r)) = some (pre, m + 1) := by
  rw [strV_cons, if_pos h]; simp [strG]
theorem strG_low (pre : List UInt8) (m : Nat) (c : UInt8) (r : List UInt8) (h : c.toNat < 32) : strG pre m (strV (c :: r)) = none := by
  rw [strV_cons, if_neg (by omega), if_pos h]; rfl
theorem strG_nil (pre : List UInt8) (m : Nat) : strG pre m (strV []) = none := by rw [strV_nil]; rfl
theorem strG_last (pre : List UInt8) (m : Nat) (c : UInt8) (h : c.toNat = 92) : strG pre m (strV [c]) = none := by
  rw [strV_cons, if_neg (by omega), if_neg (by omega), if_pos h]; rfl
theorem strG_plain (pre : List UInt8) (m : Nat) (c : UInt8) (r : List UInt8) (h : ¬ c.toNat = 34) (h2 : 32 ≤ c.toNat) (h3 : ¬ c.toNat = 92) : strG pre m (strV (c :: r)) = strG (pre ++ [c]) (m + 1) (strV r) := by
  rw [strV_cons, if_neg h, if_neg (by omega), if_neg h3]
  cases strV r with
  | none => rfl
  | some x => simp [strG]; omega
theorem strG_esc (pre : List UInt8) (m : Nat) (c d e : UInt8) (r : List UInt8) (h : c.toNat = 92) (he : escB d = some e) : strG pre m (strV (c :: d :: r)) = strG (pre ++ [e]) (m + 2) (strV r) := by
  rw [strV_cons, if_neg (by omega), if_neg (by omega), if_pos h]
  dsimp only
  rw [he]
  dsimp only
  cases strV r with
  | none => rfl
  | some x => simp [strG]; omega
theorem strG_bad (pre : List UInt8) (m : Nat) (c d : UInt8) (r : List UInt8) (h : c.toNat = 92) (he : escB d = none) : strG pre m (strV (c :: d :: r)) = none := by
  rw [strV_cons, if_neg (by omega), if_neg (by omega), if_pos h]
  dsimp only
  rw [he]
  rfl

theorem ret_si {S S' : ByteArray} {n n' : Int} (h : S = S') (h2 : n = n') : Ending.returned (.tuple #[.string S, .int .i64 n]) = .returned (.tuple #[.string S', .int .i64 n']) := by rw [h, h2]
theorem strR_some {O : Option (List UInt8 × Nat)} {S : ByteArray} {m : Nat} {n : Int} (h : O = some (tl S, m)) (hn : n = (m : Int) + 1) :
    Ending.returned (.tuple #[.string S, .int .i64 n]) = .returned (.tuple #[.string ⟨(strR O).1.toArray⟩, .int .i64 ((strR O).2 : Nat)]) := by
  rw [h]
  exact ret_si (mk_tl S) (by rw [hn]; rfl)
theorem strR_none {O : Option (List UInt8 × Nat)} (h : O = none) :
    Ending.returned (.tuple #[.string ⟨#[]⟩, .int .i64 0]) = .returned (.tuple #[.string ⟨(strR O).1.toArray⟩, .int .i64 ((strR O).2 : Nat)]) := by
  rw [h]; rfl

theorem conv_one (W : World) (c : UInt8) : (convert 22 9 (.slice (some ⟨W.heap.size, 0, none⟩) 1 1)).run Tryd.prog (W.alloc (.cells #[.int .u8 (c.toNat : Int)] 5)) = .ok (.string ⟨#[c]⟩) (W.alloc (.cells #[.int .u8 (c.toNat : Int)] 5)) := by
  have h := text_new (W.heap.size + 1) W [c] _ rfl (Nat.lt_succ_self _)
  refine run_convert_bytes_back (P := Tryd.prog) _ 22 9 5 ⟨W.heap.size, 0, none⟩ 1 [c] Tryd.underlying22 Tryd.underlying5 Tryd.underlying9 (fun j hj => ?_)
  rcases h with ⟨_, _, _, e, _⟩ | ⟨b, off, cap, e, _, _, hh⟩
  · cases e
  · cases e
    rw [add_none]
    refine (hh j hj).trans ?_
    simp [List.getD_eq_getElem?_getD, List.getElem?_eq_getElem hj]

set_option maxRecDepth 100000 in
set_option maxHeartbeats 4000000 in
theorem rstr_any (b off cap : Nat) (l : List UInt8) (hlen : l.length ≤ 1048576) (hcap : l.length ≤ cap) (a : Nat) (ha : a < l.length) (w : World) (hb : b < w.heap.size) (hh : Holds w b off l) :
    Calls Tryd.prog 44 #[.slice (some ⟨b, off, none⟩) l.length cap, .int .i64 a] w fun e w' => e = .returned (.tuple #[.string ⟨(strR (strV (l.drop (a + 1)))).1.toArray⟩, .int .i64 ((strR (strV (l.drop (a + 1)))).2 : Nat)]) ∧ Below w.heap.size w w' := by
  have HH := Lib.hid hh
  obtain ⟨O, hO⟩ : ∃ O, strV (l.drop (a + 1)) = O := ⟨_, rfl⟩
  rw [hO]
  have HST : Hid (O = strG [] 0 (strV (l.drop (a + 1)))) := Lib.hid (by rw [hO]; unfold strG; cases O <;> simp)
  clear hh hO
  go_enter Tryd.func44, Tryd.ntmps44
  go_wp2_with fail
  go_loopw [6, 7] (fun o i wr => ∃ (k : Nat) (S : ByteArray), a + 1 ≤ k ∧ k ≤ l.length ∧ i = .int .i64 k ∧ o = .string S ∧ S.size ≤ k ∧ Hid (O = strG (tl S) (k - (a + 1)) (strV (l.drop k))) ∧ Below w.heap.size w wr) (fun _ i _ => l.length - (intOf i).toNat)
  case atStart => exact ⟨a + 1, ⟨#[]⟩, Nat.le_refl _, by omega, by go_num, rfl, Nat.zero_le _, by rw [Nat.sub_self]; exact HST, Below.refl _ _⟩
  case round =>
    obtain ⟨k, S, hk1, hk2, rfl, rfl, hSz, HS, hB⟩ := hrel
    by_cases hlt : k < l.length
    · have hhr : Holds wr b off l := HH.out.below hb hB
      have hck := hhr.at k hlt
      have hd := drop_at l k hlt
      have hs := HS.out
      rw [hd] at hs
      have hc256 := (l[k]'hlt).toNat_lt
      by_cases c1 : (l[k]'hlt).toNat = 34
      · rw [strG_end _ _ _ _ c1] at hs
        have HX := Lib.hid hs
        clear hs hd hhr
        go_wp2_with fail
        go_ret2
        exact ⟨strR_some HX.out (by omega), hB⟩
      · by_cases c2 : (l[k]'hlt).toNat < 32
        · rw [strG_low _ _ _ _ c2] at hs
          have HX := Lib.hid hs
          clear hs hd hhr
          go_wp2_with fail
          go_ret2
          exact ⟨strR_none HX.out, hB⟩
        · by_cases c3 : (l[k]'hlt).toNat = 92
          · by_cases hl2 : k + 1 < l.length
            · have hd2 := drop_at l (k + 1) hl2
              have hck2 := hhr.at (k + 1) hl2
              have hd256 := (l[k + 1]'hl2).toNat_lt
              rw [hd2] at hs
              have hkl : ¬ l.length ≤ k + 1 := by omega
              cases he : escB (l[k + 1]'hl2) with
              | none =>
                rw [strG_bad _ _ _ _ _ c3 he] at hs
                have HX := Lib.hid hs
                have hne : ¬ (l[k + 1]'hl2).toNat = 34 ∧ ¬ (l[k + 1]'hl2).toNat = 92 ∧ ¬ (l[k + 1]'hl2).toNat = 110 := by
                  unfold escB at he
                  split at he
                  · cases he
                  · split at he
                    · cases he
                    · split at he
                      · cases he
                      · rename_i h1 h2 h3; exact ⟨h2, h1, h3⟩
                obtain ⟨e1, e2, e3⟩ := hne
                have e1' : (((l[k + 1]'hl2).toNat : Int) == 34) = false := by simp; omega
                have e2' : (((l[k + 1]'hl2).toNat : Int) == 92) = false := by simp; omega
                have e3' : (((l[k + 1]'hl2).toNat : Int) == 110) = false := by simp; omega
                clear hs hd hd2 hhr he e1 e2 e3
                go_wp2_with fail
                go_ret2
                exact ⟨strR_none HX.out, hB⟩
              | some e =>
                rw [strG_esc _ _ _ _ _ _ c3 he] at hs
                have hec := escB_cases he
                have kv1 : ∀ W : World, (convert 22 9 (.slice (some ⟨W.heap.size, 0, none⟩) 1 1)).run Tryd.prog (W.alloc (.cells #[.int .u8 92] 5)) = .ok (.string ⟨#[92]⟩) (W.alloc (.cells #[.int .u8 92] 5)) := fun W => conv_one W 92
                have kv2 : ∀ W : World, (convert 22 9 (.slice (some ⟨W.heap.size, 0, none⟩) 1 1)).run Tryd.prog (W.alloc (.cells #[.int .u8 34] 5)) = .ok (.string ⟨#[34]⟩) (W.alloc (.cells #[.int .u8 34] 5)) := fun W => conv_one W 34
                have kv3 : ∀ W : World, (convert 22 9 (.slice (some ⟨W.heap.size, 0, none⟩) 1 1)).run Tryd.prog (W.alloc (.cells #[.int .u8 10] 5)) = .ok (.string ⟨#[10]⟩) (W.alloc (.cells #[.int .u8 10] 5)) := fun W => conv_one W 10
                have HX : Hid (O = strG (tl (S ++ ⟨#[e]⟩)) (k + 2 - (a + 1)) (strV (l.drop (k + 2)))) := Lib.hid (by
                  rw [tl_append, hs, show k - (a + 1) + 2 = k + 2 - (a + 1) by omega]
                  rfl)
                clear hs hd hd2 hhr he
                have hBs := hB.size
                rcases hec with ⟨h1, rfl⟩ | ⟨h1, rfl⟩ | ⟨h1, rfl⟩
                all_goals
                  rw [h1] at hck2
                  clear h1 hd256
                  go_wp2_with fail
                  go_roundw
                  case rel => exact ⟨k + 2, _, by omega, by omega, by go_num, rfl, by rw [ByteArray.size_append]; show S.size + 1 ≤ _; omega, HX, hB.alloc hBs _⟩
                  case measure => simp [intOf]; omega
            · have hnil : l.drop (k + 1) = [] := List.drop_eq_nil_of_le (by omega)
              rw [hnil, strG_last _ _ _ c3] at hs
              have HX := Lib.hid hs
              have hkl : l.length ≤ k + 1 := by omega
              clear hs hd hnil hhr
              go_wp2_with fail
              go_ret2
              exact ⟨strR_none HX.out, hB⟩
          · rw [strG_plain _ _ _ _ c1 (by omega) c3] at hs
            have hcv := conv_part hhr k 1 (cap - k) (by omega)
            have hone : ((l.drop k).take 1) = [l[k]'hlt] := by rw [hd]; rfl
            rw [hone] at hcv
            have HX : Hid (O = strG (tl (S ++ ⟨#[l[k]'hlt]⟩)) (k + 1 - (a + 1)) (strV (l.drop (k + 1)))) := Lib.hid (by
              rw [tl_append, hs, show k - (a + 1) + 1 = k + 1 - (a + 1) by omega]
              rfl)
            clear hs hd hhr hone
            go_wp2_with fail
            go_roundw
            case rel => exact ⟨k + 1, _, by omega, by omega, by go_num, rfl, by rw [ByteArray.size_append]; show S.size + 1 ≤ _; omega, HX, hB⟩
            case measure => simp [intOf]; omega
    · have hnil : l.drop k = [] := List.drop_eq_nil_of_le (by omega)
      have hs := HS.out
      rw [hnil, strG_nil] at hs
      have HX := Lib.hid hs
      clear hs hnil
      go_wp2_with fail
      go_ret2
      exact ⟨strR_none HX.out, hB⟩
end Go.Proofs.YtocepddgegnfaaaDoor
