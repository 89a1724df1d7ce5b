/- The document's answer for signs and words, at every text of at most 2^20 bytes. The document's answer for strings, at every text of at most 2^20 bytes. The -/
import Derived.Test.YtidmeodmkcomlaaGreatDoorK48
set_option linter.unusedSimpArgs false
set_option linter.unusedVariables false
namespace Go.Proofs.YtidmeodmkcomlaaGreatDoor
open Go Go.Proofs Go.RowKit
set_option maxHeartbeats 4000000
theorem zM6 {W : World} {b off : Nat} {l : List UInt8} (hh : Holds W b off l) (a n cap : Nat) (h : a + n ≤ l.length) :
 (convert 33 9 (.slice (some ⟨b, off + a, none⟩) n cap)).run Tryz.prog W = .ok (.string ⟨((l.drop a).take n).toArray⟩) W :=
 zux (W := W) (X := W) (l := l.drop a) (by rw [zKa]; omega) (hh.drop a) rfl
def onesN : List Nat := [40, 41, 123, 125, 91, 93, 44, 59, 58, 46, 61, 124, 43, 45, 42, 47, 60, 94]
theorem zP9 : ones.map UInt8.toNat = onesN := rfl
set_option maxRecDepth 100000 in
theorem zOs (b off cap : Nat) (l : List UInt8) (hlen : l.length ≤ 1048576) (hcap : l.length ≤ cap) (a : Nat) (ha : a < l.length) (w : World) (hh : Holds w b off l) :
 Calls Tryz.prog 92 #[.slice (some ⟨b, off, none⟩) l.length cap, .int .i64 a] w fun e w' => e = .returned (.int .i64 (signN (l.drop a) : Nat)) ∧ w = w' := by
 have hca := hh.at a ha;have hg : (l.drop a).getD 0 0 = l[a] := by rw [zM3 l a ha]; rfl
 have hN : signN (l.drop a) = if (l.drop a).take 2 ∈ twos then 2 else if l[a] ∈ ones then 1 else 0 := by unfold signN; rw [hg]
 rw [hN];clear hN hg
 have hones : l[a] ∈ ones ↔ l[a].toNat ∈ ones.map UInt8.toNat := by
  constructor
  · intro h; exact List.mem_map_of_mem h
  · intro h
    obtain ⟨x, hx, he⟩ := List.mem_map.1 h;rwa [← UInt8.toNat_inj.1 he]
 simp only [hones, zP9];clear hones;obtain ⟨c, hc⟩ : ∃ c, l[a].toNat = c := ⟨_, rfl⟩;rw [hc] at hca ⊢;by_cases h2 : a + 2 ≤ l.length
 · have kc := zM6 hh a 2 (cap - a) h2
   obtain ⟨s, hs⟩ : ∃ s : ByteArray, ⟨((l.drop a).take 2).toArray⟩ = s := ⟨_, rfl⟩;have htl : tl s = (l.drop a).take 2 := by rw [← hs]; simp [tl]
   rw [hs] at kc;rw [← htl];clear hs htl hc hh;by_cases hm : tl s ∈ twos
   · rw [if_pos hm]
     simp only [twos, zKf, zKn, or_false] at hm;rcases hm with hm | hm | hm | hm | hm | hm | hm | hm | hm
     all_goals
      have h0 : s = ⟨(tl s).toArray⟩ := by simp [tl]
      rw [hm] at h0;subst h0;clear hm;go_enter Tryz.func92, Tryz.ntmps92
      go_wp2_with fail
      go_ret;exact ⟨rfl, rfl⟩
   · rw [if_neg hm]
     simp only [twos, zKf, zKn, or_false, not_or] at hm;obtain ⟨m1, m2, m3, m4, m5, m6, m7, m8, m9⟩ := hm;have n1 := zal m1;have n2 := zal m2;have n3 := zal m3;have n4 := zal m4;have n5 := zal m5;have n6 := zal m6;have n7 := zal m7;have n8 := zal m8;have n9 := zal m9;clear m1 m2 m3 m4 m5 m6 m7 m8 m9;by_cases ho : c ∈ onesN
     · rw [if_pos ho]
       simp only [onesN, zKf, zKn, or_false] at ho;rcases ho with rfl | rfl | rfl | rfl | rfl | rfl | rfl | rfl | rfl | rfl | rfl | rfl | rfl | rfl | rfl | rfl | rfl | rfl
       all_goals
        go_enter Tryz.func92, Tryz.ntmps92
        go_wp2_with fail
        go_ret;exact ⟨rfl, rfl⟩
     · rw [if_neg ho]
       simp only [onesN, zKf, zKn, or_false, not_or] at ho;obtain ⟨o0, o1, o2, o3, o4, o5, o6, o7, o8, o9, o10, o11, o12, o13, o14, o15, o16, o17⟩ := ho;have e0 : ((c : Int) == 40) = false := by simp; omega
       have e1 : ((c : Int) == 41) = false := by simp; omega
       have e2 : ((c : Int) == 123) = false := by simp; omega
       have e3 : ((c : Int) == 125) = false := by simp; omega
       have e4 : ((c : Int) == 91) = false := by simp; omega
       have e5 : ((c : Int) == 93) = false := by simp; omega
       have e6 : ((c : Int) == 44) = false := by simp; omega
       have e7 : ((c : Int) == 59) = false := by simp; omega
       have e8 : ((c : Int) == 58) = false := by simp; omega
       have e9 : ((c : Int) == 46) = false := by simp; omega
       have e10 : ((c : Int) == 61) = false := by simp; omega
       have e11 : ((c : Int) == 124) = false := by simp; omega
       have e12 : ((c : Int) == 43) = false := by simp; omega
       have e13 : ((c : Int) == 45) = false := by simp; omega
       have e14 : ((c : Int) == 42) = false := by simp; omega
       have e15 : ((c : Int) == 47) = false := by simp; omega
       have e16 : ((c : Int) == 60) = false := by simp; omega
       have e17 : ((c : Int) == 94) = false := by simp; omega
       clear o0 o1 o2 o3 o4 o5 o6 o7 o8 o9 o10 o11 o12 o13 o14 o15 o16 o17;go_enter Tryz.func92, Tryz.ntmps92
       go_wp2_with fail
       go_ret;exact ⟨rfl, rfl⟩
 · have hm : ¬ (l.drop a).take 2 ∈ twos := by
    intro hm;simp only [twos, zKf, zKn, or_false] at hm;have hl : ((l.drop a).take 2).length ≤ 1 := by rw [zKi, zKa]; omega
    rcases hm with hm | hm | hm | hm | hm | hm | hm | hm | hm <;> (rw [hm] at hl; simp at hl)
   rw [if_neg hm];clear hm hh hc;by_cases ho : c ∈ onesN
   · rw [if_pos ho]
     simp only [onesN, zKf, zKn, or_false] at ho;rcases ho with rfl | rfl | rfl | rfl | rfl | rfl | rfl | rfl | rfl | rfl | rfl | rfl | rfl | rfl | rfl | rfl | rfl | rfl
     all_goals
      go_enter Tryz.func92, Tryz.ntmps92
      go_wp2_with fail
      go_ret;exact ⟨rfl, rfl⟩
   · rw [if_neg ho]
     simp only [onesN, zKf, zKn, or_false, not_or] at ho;obtain ⟨o0, o1, o2, o3, o4, o5, o6, o7, o8, o9, o10, o11, o12, o13, o14, o15, o16, o17⟩ := ho;have e0 : ((c : Int) == 40) = false := by simp; omega
     have e1 : ((c : Int) == 41) = false := by simp; omega
     have e2 : ((c : Int) == 123) = false := by simp; omega
     have e3 : ((c : Int) == 125) = false := by simp; omega
     have e4 : ((c : Int) == 91) = false := by simp; omega
     have e5 : ((c : Int) == 93) = false := by simp; omega
     have e6 : ((c : Int) == 44) = false := by simp; omega
     have e7 : ((c : Int) == 59) = false := by simp; omega
     have e8 : ((c : Int) == 58) = false := by simp; omega
     have e9 : ((c : Int) == 46) = false := by simp; omega
     have e10 : ((c : Int) == 61) = false := by simp; omega
     have e11 : ((c : Int) == 124) = false := by simp; omega
     have e12 : ((c : Int) == 43) = false := by simp; omega
     have e13 : ((c : Int) == 45) = false := by simp; omega
     have e14 : ((c : Int) == 42) = false := by simp; omega
     have e15 : ((c : Int) == 47) = false := by simp; omega
     have e16 : ((c : Int) == 60) = false := by simp; omega
     have e17 : ((c : Int) == 94) = false := by simp; omega
     clear o0 o1 o2 o3 o4 o5 o6 o7 o8 o9 o10 o11 o12 o13 o14 o15 o16 o17;go_enter Tryz.func92, Tryz.ntmps92
     go_wp2_with fail
     go_ret;exact ⟨rfl, rfl⟩
set_option maxHeartbeats 4000000
def strR (o : Option (List UInt8 × Nat)) : List UInt8 × Nat := match o with | none => ([], 0) | some x => (x.1, x.2 + 1)
def strG (pre : List UInt8) (m : Nat) (o : Option (List UInt8 × Nat)) : Option (List UInt8 × Nat) := o.map fun x => (pre ++ x.1, m + x.2)
theorem zPn (pre : List UInt8) (m : Nat) (c : UInt8) (r : List UInt8) (h : c.toNat = 34) : strG pre m (strV (c :: r)) = some (pre, m + 1) := by
 rw [zbd, if_pos h]; simp [strG]
theorem zPp (pre : List UInt8) (m : Nat) (c : UInt8) (r : List UInt8) (h : c.toNat < 32) : strG pre m (strV (c :: r)) = none := by
 rw [zbd, if_neg (by omega), if_pos h]; rfl
theorem zPq (pre : List UInt8) (m : Nat) : strG pre m (strV []) = none := by rw [zck]; rfl
theorem zOv (pre : List UInt8) (m : Nat) (c : UInt8) (h : c.toNat = 92) : strG pre m (strV [c]) = none := by
 rw [zbd, if_neg (by omega), if_neg (by omega), if_pos h]; rfl
theorem zOd (pre : List UInt8) (m : Nat) (c : UInt8) (r : List UInt8) (h : ¬ c.toNat = 34) (h2 : 32 ≤ c.toNat) (h3 : ¬ c.toNat = 92) : strG pre m (strV (c :: r)) = strG (pre ++ [c]) (m + 1) (strV r) := by
 rw [zbd, if_neg h, if_neg (by omega), if_neg h3]
 cases strV r with
 | none => rfl
 | some x => simp [strG]; omega
theorem zPo (pre : List UInt8) (m : Nat) (c d e : UInt8) (r : List UInt8) (h : c.toNat = 92) (he : escB d = some e) : strG pre m (strV (c :: d :: r)) = strG (pre ++ [e]) (m + 2) (strV r) := by
 rw [zbd, if_neg (by omega), if_neg (by omega), if_pos h];dsimp only;rw [he];dsimp only
 cases strV r with
 | none => rfl
 | some x => simp [strG]; omega
theorem zPm (pre : List UInt8) (m : Nat) (c d : UInt8) (r : List UInt8) (h : c.toNat = 92) (he : escB d = none) : strG pre m (strV (c :: d :: r)) = none := by
 rw [zbd, if_neg (by omega), if_neg (by omega), if_pos h];dsimp only;rw [he];rfl
theorem zQ2 {S S' : ByteArray} {n n' : Int} (h : S = S') (h2 : n = n') : Ending.returned (.tuple #[.string S, .int .i64 n]) = .returned (.tuple #[.string S', .int .i64 n']) := by rw [h, h2]
theorem zOw {O : Option (List UInt8 × Nat)} {S : ByteArray} {m : Nat} {n : Int} (h : O = some (tl S, m)) (hn : n = (m : Int) + 1) :
 Ending.returned (.tuple #[.string S, .int .i64 n]) = .returned (.tuple #[.string ⟨(strR O).1.toArray⟩, .int .i64 ((strR O).2 : Nat)]) := by
 rw [h];exact zQ2 (mk_tl S) (by rw [hn]; rfl)
theorem zN1 {O : Option (List UInt8 × Nat)} (h : O = none) :
 Ending.returned (.tuple #[.string ⟨#[]⟩, .int .i64 0]) = .returned (.tuple #[.string ⟨(strR O).1.toArray⟩, .int .i64 ((strR O).2 : Nat)]) := by
 rw [h]; rfl
theorem zNd (W : World) (c : UInt8) : (convert 33 9 (.slice (some ⟨W.heap.size, 0, none⟩) 1 1)).run Tryz.prog (W.alloc (.cells #[.int .u8 (c.toNat : Int)] 5)) = .ok (.string ⟨#[c]⟩) (W.alloc (.cells #[.int .u8 (c.toNat : Int)] 5)) := by
 have h := zPr (W.heap.size + 1) W [c] _ rfl (Nat.lt_succ_self _);refine run_convert_bytes_back (P := Tryz.prog) _ 33 9 5 ⟨W.heap.size, 0, none⟩ 1 [c] Tryz.underlying33 Tryz.underlying5 Tryz.underlying9 (fun j hj => ?_);rcases h with ⟨_, _, _, e, _⟩ | ⟨b, off, cap, e, _, _, hh⟩
 · cases e
 · cases e
   rw [zdo];refine (hh j hj).trans ?_;simp [zK3, zK1 hj]
set_option maxRecDepth 100000 in
theorem zPk (b off cap : Nat) (l : List UInt8) (hlen : l.length ≤ 1048576) (hcap : l.length ≤ cap) (a : Nat) (ha : a < l.length) (w : World) (hb : b < w.heap.size) (hh : Holds w b off l) :
 Calls Tryz.prog 91 #[.slice (some ⟨b, off, none⟩) l.length cap, .int .i64 a] w fun e w' => e = .returned (.tuple #[.string ⟨(strR (strV (l.drop (a + 1)))).1.toArray⟩, .int .i64 ((strR (strV (l.drop (a + 1)))).2 : Nat)]) ∧ Below w.heap.size w w' := by
 have HH := zJv hh;obtain ⟨O, hO⟩ : ∃ O, strV (l.drop (a + 1)) = O := ⟨_, rfl⟩;rw [hO];have HST : Hid (O = strG [] 0 (strV (l.drop (a + 1)))) := zJv (by rw [hO]; unfold strG; cases O <;> simp)
 clear hh hO;go_enter Tryz.func91, Tryz.ntmps91
 go_wp2_with fail
 go_loopw [6, 7] (fun o i wr => ∃ (k : Nat) (S : ByteArray), a + 1 ≤ k ∧ k ≤ l.length ∧ i = .int .i64 k ∧ o = .string S ∧ S.size ≤ k ∧ Hid (O = strG (tl S) (k - (a + 1)) (strV (l.drop k))) ∧ Below w.heap.size w wr) (fun _ i _ => l.length - (intOf i).toNat)
 case atStart => exact ⟨a + 1, ⟨#[]⟩, zJw _, by omega, by go_num, rfl, zK8 _, by rw [Nat.sub_self]; exact HST, zJx _ _⟩
 case round =>
  obtain ⟨k, S, hk1, hk2, rfl, rfl, hSz, HS, hB⟩ := hrel;by_cases hlt : k < l.length
  · have hhr : Holds wr b off l := HH.out.below hb hB
    have hck := hhr.at k hlt;have hd := zM3 l k hlt;have hs := HS.out;rw [hd] at hs;have hc256 := (l[k]'hlt).toNat_lt;by_cases c1 : (l[k]'hlt).toNat = 34
    · rw [zPn _ _ _ _ c1] at hs
      have HX := zJv hs;clear hs hd hhr;go_wp2_with fail
      go_ret2
      exact ⟨zOw HX.out (by omega), hB⟩
    · by_cases c2 : (l[k]'hlt).toNat < 32
      · rw [zPp _ _ _ _ c2] at hs
        have HX := zJv hs;clear hs hd hhr;go_wp2_with fail
        go_ret2
        exact ⟨zN1 HX.out, hB⟩
      · by_cases c3 : (l[k]'hlt).toNat = 92
        · by_cases hl2 : k + 1 < l.length
          · have hd2 := zM3 l (k + 1) hl2
            have hck2 := hhr.at (k + 1) hl2;have hd256 := (l[k + 1]'hl2).toNat_lt;rw [hd2] at hs;have hkl : ¬ l.length ≤ k + 1 := by omega
            cases he : escB (l[k + 1]'hl2) with
            | none =>
             rw [zPm _ _ _ _ _ c3 he] at hs;have HX := zJv hs
             have hne : ¬ (l[k + 1]'hl2).toNat = 34 ∧ ¬ (l[k + 1]'hl2).toNat = 92 ∧ ¬ (l[k + 1]'hl2).toNat = 110 := by
              unfold escB at he;split at he
              · cases he
              · split at he
                · cases he
                · split at he
                  · cases he
                  · rename_i h1 h2 h3; exact ⟨h2, h1, h3⟩
             obtain ⟨e1, e2, e3⟩ := hne;have e1' : (((l[k + 1]'hl2).toNat : Int) == 34) = false := by simp; omega
             have e2' : (((l[k + 1]'hl2).toNat : Int) == 92) = false := by simp; omega
             have e3' : (((l[k + 1]'hl2).toNat : Int) == 110) = false := by simp; omega
             clear hs hd hd2 hhr he e1 e2 e3;go_wp2_with fail
             go_ret2
             exact ⟨zN1 HX.out, hB⟩
            | some e =>
             rw [zPo _ _ _ _ _ _ c3 he] at hs;have hec := zx4 he;have kv1 : ∀ W : World, (convert 33 9 (.slice (some ⟨W.heap.size, 0, none⟩) 1 1)).run Tryz.prog (W.alloc (.cells #[.int .u8 92] 5)) = .ok (.string ⟨#[92]⟩) (W.alloc (.cells #[.int .u8 92] 5)) := fun W => zNd W 92;have kv2 : ∀ W : World, (convert 33 9 (.slice (some ⟨W.heap.size, 0, none⟩) 1 1)).run Tryz.prog (W.alloc (.cells #[.int .u8 34] 5)) = .ok (.string ⟨#[34]⟩) (W.alloc (.cells #[.int .u8 34] 5)) := fun W => zNd W 34;have kv3 : ∀ W : World, (convert 33 9 (.slice (some ⟨W.heap.size, 0, none⟩) 1 1)).run Tryz.prog (W.alloc (.cells #[.int .u8 10] 5)) = .ok (.string ⟨#[10]⟩) (W.alloc (.cells #[.int .u8 10] 5)) := fun W => zNd W 10
             have HX : Hid (O = strG (tl (S ++ ⟨#[e]⟩)) (k + 2 - (a + 1)) (strV (l.drop (k + 2)))) := zJv (by
              rw [zp7, hs, show k - (a + 1) + 2 = k + 2 - (a + 1) by omega]
              rfl)
             clear hs hd hd2 hhr he;have hBs := hB.size;rcases hec with ⟨h1, rfl⟩ | ⟨h1, rfl⟩ | ⟨h1, rfl⟩
             all_goals
              rw [h1] at hck2;clear h1 hd256;go_wp2_with fail
              go_roundw
              case rel => exact ⟨k + 2, _, by omega, by omega, by go_num, rfl, by rw [ByteArray.size_append]; show S.size + 1 ≤ _; omega, HX, hB.alloc hBs _⟩
              case measure => simp [intOf]; omega
          · have hnil : l.drop (k + 1) = [] := List.drop_eq_nil_of_le (by omega)
            rw [hnil, zOv _ _ _ c3] at hs;have HX := zJv hs;have hkl : l.length ≤ k + 1 := by omega
            clear hs hd hnil hhr;go_wp2_with fail
            go_ret2
            exact ⟨zN1 HX.out, hB⟩
        · rw [zOd _ _ _ _ c1 (by omega) c3] at hs
          have hcv := zM6 hhr k 1 (cap - k) (by omega);have hone : ((l.drop k).take 1) = [l[k]'hlt] := by rw [hd]; rfl
          rw [hone] at hcv
          have HX : Hid (O = strG (tl (S ++ ⟨#[l[k]'hlt]⟩)) (k + 1 - (a + 1)) (strV (l.drop (k + 1)))) := zJv (by
           rw [zp7, hs, show k - (a + 1) + 1 = k + 1 - (a + 1) by omega]
           rfl)
          clear hs hd hhr hone;go_wp2_with fail
          go_roundw
          case rel => exact ⟨k + 1, _, by omega, by omega, by go_num, rfl, by rw [ByteArray.size_append]; show S.size + 1 ≤ _; omega, HX, hB⟩
          case measure => simp [intOf]; omega
  · have hnil : l.drop k = [] := List.drop_eq_nil_of_le (by omega)
    have hs := HS.out;rw [hnil, zPq] at hs;have HX := zJv hs;clear hs hnil;go_wp2_with fail
    go_ret2
    exact ⟨zN1 HX.out, hB⟩
set_option maxHeartbeats 4000000
def At3 (B : Nat) (W : World) (x y z : Value) : Prop :=
 W.cell? ⟨B, 0, none⟩ = some x ∧ W.cell? ⟨B, 1, none⟩ = some y ∧ W.cell? ⟨B, 2, none⟩ = some z ∧ W.frozen? ⟨B, 0, none⟩ = false ∧ W.frozen? ⟨B, 1, none⟩ = false ∧ W.frozen? ⟨B, 2, none⟩ = false
theorem zMx {B : Nat} {W : World} {x y z : Value} {t : TypeId} (h : W.heap[B]? = some (.cells #[x, y, z] t)) : At3 B W x y z := by
 unfold At3 World.cell? World.frozen?;simp only [h];exact ⟨rfl, rfl, rfl, rfl, rfl, rfl⟩
theorem At3.below {B n : Nat} {W X : World} {x y z : Value} (h : At3 B W x y z) (hb : Below n W X) (hn : B < n) : At3 B X x y z := by
 obtain ⟨h0, h1, h2, h3, h4, h5⟩ := h;exact ⟨(hb.cell (p := ⟨B, 0, none⟩) hn).trans h0, (hb.cell (p := ⟨B, 1, none⟩) hn).trans h1, (hb.cell (p := ⟨B, 2, none⟩) hn).trans h2, (hb.frozen (p := ⟨B, 0, none⟩) hn).trans h3, (hb.frozen (p := ⟨B, 1, none⟩) hn).trans h4, (hb.frozen (p := ⟨B, 2, none⟩) hn).trans h5⟩
theorem zf5 {B : Nat} {W : World} {u v s : Value} (h : At3 B W u v s) (x y z : Value) : (zeq B W x y z).cell? ⟨B, 0, none⟩ = some x ∧ (zeq B W x y z).cell? ⟨B, 1, none⟩ = some y ∧ (zeq B W x y z).cell? ⟨B, 2, none⟩ = some z := by
 obtain ⟨h0, h1, h2, _⟩ := h;have n01 : ∀ (X : World) (u : Value), (X.setCell ⟨B, 1, none⟩ u).cell? ⟨B, 0, none⟩ = X.cell? ⟨B, 0, none⟩ := fun X u => zK0 X ⟨B, 1, none⟩ ⟨B, 0, none⟩ u (by simp);have n02 : ∀ (X : World) (u : Value), (X.setCell ⟨B, 2, none⟩ u).cell? ⟨B, 0, none⟩ = X.cell? ⟨B, 0, none⟩ := fun X u => zK0 X ⟨B, 2, none⟩ ⟨B, 0, none⟩ u (by simp);have n12 : ∀ (X : World) (u : Value), (X.setCell ⟨B, 2, none⟩ u).cell? ⟨B, 1, none⟩ = X.cell? ⟨B, 1, none⟩ := fun X u => zK0 X ⟨B, 2, none⟩ ⟨B, 1, none⟩ u (by simp);have n10 : ∀ (X : World) (u : Value), (X.setCell ⟨B, 0, none⟩ u).cell? ⟨B, 1, none⟩ = X.cell? ⟨B, 1, none⟩ := fun X u => zK0 X ⟨B, 0, none⟩ ⟨B, 1, none⟩ u (by simp);have n20 : ∀ (X : World) (u : Value), (X.setCell ⟨B, 0, none⟩ u).cell? ⟨B, 2, none⟩ = X.cell? ⟨B, 2, none⟩ := fun X u => zK0 X ⟨B, 0, none⟩ ⟨B, 2, none⟩ u (by simp);have n21 : ∀ (X : World) (u : Value), (X.setCell ⟨B, 1, none⟩ u).cell? ⟨B, 2, none⟩ = X.cell? ⟨B, 2, none⟩ := fun X u => zK0 X ⟨B, 1, none⟩ ⟨B, 2, none⟩ u (by simp);unfold zeq;refine ⟨?_, ?_, ?_⟩
 · rw [n02, n01]; exact World.cell?_setCell_same W ⟨B, 0, none⟩ x h0
 · rw [n12]; exact World.cell?_setCell_same _ ⟨B, 1, none⟩ y ((n10 _ _).trans h1)
 · exact World.cell?_setCell_same _ ⟨B, 2, none⟩ z ((n21 _ _).trans ((n20 _ _).trans h2))
def zM1 (m : List UInt8) (w : World) (e : Ending) (w' : World) : Prop :=
 (match tok m with
 | some ((k, t), n) => e = .returned (.tuple #[.agg #[.int .i64 (k : Nat), .string ⟨t.toArray⟩, .int .i64 0], .int .i64 (n : Nat)])
 | none => e = .returned (.tuple #[.agg #[.int .i64 0, .string ⟨#[]⟩, .int .i64 0], .int .i64 0])) ∧ Below w.heap.size w w'
theorem zLz {m : List UInt8} {w W : World} {k n : Nat} {t : List UInt8} {S : ByteArray} {K N : Int} (h : tok m = some ((k, t), n)) (hS : (⟨t.toArray⟩ : ByteArray) = S) (hK : K = (k : Int)) (hN : N = (n : Int)) (hb : Below w.heap.size w W) :
 zM1 m w (.returned (.tuple #[.agg #[.int .i64 K, .string S, .int .i64 0], .int .i64 N])) W := by
 unfold zM1;rw [h, ← hS, hK, hN];exact ⟨rfl, hb⟩
theorem zMc {m : List UInt8} {w W : World} (h : tok m = none) (hb : Below w.heap.size w W) :
 zM1 m w (.returned (.tuple #[.agg #[.int .i64 0, .string ⟨#[]⟩, .int .i64 0], .int .i64 0])) W := by
 unfold zM1;rw [h];exact ⟨rfl, hb⟩
theorem zMu (l : List UInt8) (a : Nat) (ha : a < l.length) : tok (l.drop a) = if leadB (l.drop a) then (if fltB (l.drop a) then some ((5, (l.drop a).take 18), 18) else none)
 else if (l[a]'ha).toNat = 34 then (strV (l.drop (a + 1))).map fun x => ((6, x.1), x.2 + 1)
 else if (l[a]'ha).toNat = 35 then (if nameN (l.drop (a + 1)) = 0 then none else some ((3, (l.drop (a + 1)).take (nameN (l.drop (a + 1)))), nameN (l.drop (a + 1)) + 1))
 else if digB (l[a]'ha) then (if intN (l.drop a) = 0 then none else some ((4, (l.drop a).take (intN (l.drop a))), intN (l.drop a)))
 else if lowB (l[a]'ha) then some ((if isW ((l.drop a).take (nameN (l.drop a))) then 7 else 1, (l.drop a).take (nameN (l.drop a))), nameN (l.drop a))
 else if highB (l[a]'ha) then some ((2, (l.drop a).take (zc4 (l.drop a))), zc4 (l.drop a))
 else if signN (l.drop a) = 0 then none
 else some ((8, (l.drop a).take (signN (l.drop a))), signN (l.drop a)) := by
 conv => lhs; rw [zM3 l a ha]
 rw [tok, ← zM3 l a ha]
theorem zO9 (l : List UInt8) (a : Nat) (ha : a < l.length) : leadB (l.drop a) = (decide ((l[a]'ha).toNat = 102) && (if h : a + 1 < l.length then decide ((l[a + 1]'h).toNat = 39) else false)) := by
 unfold leadB;rw [zM3 l a ha];have h1 : ∀ x : UInt8, (x = 102) ↔ x.toNat = 102 := fun x => UInt8.toNat_inj.symm;have h2 : ∀ x : UInt8, (x = 39) ↔ x.toNat = 39 := fun x => UInt8.toNat_inj.symm;by_cases h : a + 1 < l.length
 · rw [dif_pos h, zM3 l (a + 1) h, List.take_succ_cons, List.take_succ_cons, List.take_zero, zJz]
   simp only [List.cons.injEq, and_true, h1, h2, zKq, zK6]
 · rw [dif_neg h, List.drop_eq_nil_of_le (show l.length ≤ a + 1 by omega)]
   simp
set_option maxRecDepth 100000 in
theorem zPh (b off cap : Nat) (l : List UInt8) (hlen : l.length ≤ 1048576) (hcap : l.length ≤ cap) (a : Nat) (ha : a < l.length) (w : World) (hb : b < w.heap.size) (hh : Holds w b off l) (hl : leadB (l.drop a) = false) (hlo : lowB (l[a]'ha) = true) :
 Calls Tryz.prog 51 #[.slice (some ⟨b, off, none⟩) l.length cap, .int .i64 a] w (zM1 (l.drop a) w) := by
 obtain ⟨w0, hw0⟩ : ∃ w0, w.alloc (.cells #[.int .i64 0, .string ⟨#[]⟩, .int .i64 0] 77) = w0 := ⟨_, rfl⟩;have hb0 : Below w.heap.size w w0 := by rw [← hw0]; exact (zJx _ w).alloc (zJw _) _
 have hs0 : w0.heap.size = w.heap.size + 1 := by rw [← hw0]; simp
 have hA0 := zMx (show w0.heap[w.heap.size]? = some (.cells #[.int .i64 0, .string ⟨#[]⟩, .int .i64 0] 77) by rw [← hw0]; exact World.alloc_heap_new w _);have hh0 : Holds w0 b off l := hh.below hb hb0;have ht := zMu l a ha;have hck := hh0.at a ha;have hc256 := (l[a]'ha).toNat_lt;have hlo' : (97 ≤ (l[a]'ha).toNat ∧ (l[a]'ha).toNat ≤ 122) ∨ (l[a]'ha).toNat = 95 := by simpa [lowB] using hlo
 have hdi : digB (l[a]'ha) = false := by simp [digB]; omega
 rw [hl, if_neg (by decide), if_neg (by omega), if_neg (by omega), hdi, if_neg (by decide), hlo, if_pos rfl] at ht;rw [zO9 l a ha] at hl;have cN := zNk b off cap l hlen a (by omega) w0 hh0;have hn1 : 1 ≤ nameN (l.drop a) := by rw [zM3 l a ha]; unfold nameN; rw [zdg _ _ _ _ hlo]; omega
 have hn2 := zcl lowB zbj (l.drop a);rw [zKa] at hn2;have hn3 : nameN (l.drop a) ≤ l.length - a := hn2;obtain ⟨n, hn⟩ : ∃ n, nameN (l.drop a) = n := ⟨_, rfl⟩;rw [hn] at cN hn1 hn3 ht;obtain ⟨S, hS⟩ : ∃ S : ByteArray, ⟨((l.drop a).take n).toArray⟩ = S := ⟨_, rfl⟩;have hcv := zM6 hh0 a n (cap - a) (by omega);have htl : tl S = (l.drop a).take n := by rw [← hS]; simp [tl]
 have hSz : S.size = n := by rw [← zab, htl, zKi, zKa]; omega
 have cW := zxz S (by omega);have cL := zMj (l[a]'ha);rw [hlo] at cL;rw [htl] at cW;have hT : (l.drop a).take n = (l.drop a).take n := rfl;rw [hS] at hcv;obtain ⟨x0, x1, x2, f0, f1, f2⟩ := hA0;have hnle : ¬ l.length ≤ a := by omega
 clear hn hn2 hlo hlo' hdi;have HL := zJv hl;clear hl
 have cL2 : (l[a]'ha).toNat = 102 → ∀ w, Calls Tryz.prog 85 #[.int .u8 102] w fun e w' => e = .returned (.bool true) ∧ w = w' := fun h w => by
  have := cL w;rw [h] at this;exact this
 cases hw : isW ((l.drop a).take n)
 · rw [hw] at cW ht
   have HT := zJv ht;clear ht hw;by_cases c102 : (l[a]'ha).toNat = 102
   · have cL := cL2 c102
     by_cases hl1 : a + 1 < l.length
     · have hck1 := hh0.at (a + 1) hl1
       have c39 : ¬ (l[a + 1]'hl1).toNat = 39 := by
        intro h;have := HL.out;rw [dif_pos hl1] at this;simp [c102, h] at this
       have c39' : (((l[a + 1]'hl1).toNat : Int) == 39) = false := by simp; omega
       clear c39;go_enter Tryz.func51, Tryz.ntmps51
       go_wp2_with (first | (go_at_call 85; with_reducible refine (cL _).mono ?_; rintro e w' ⟨rfl, rfl⟩) | (go_at_call 86; with_reducible refine cN.mono ?_; rintro e w' ⟨rfl, rfl⟩) | (go_at_call 87; with_reducible refine (cW _).mono ?_; rintro e w' ⟨rfl, rfl⟩))
       obtain ⟨r0, r1, r2⟩ := zf5 ⟨x0, x1, x2, f0, f1, f2⟩ (.int .i64 1) (.string S) (.int .i64 0);have hbX := zgt (hb0) (zJw _) (.int .i64 1) (.string S) (.int .i64 0);unfold zeq at r0 r1 r2 hbX;refine bodyPost_ret (v := .tuple #[.agg #[.int .i64 1, .string S, .int .i64 0], .int .i64 (n : Int)]) (by simp [results, Tryz.results51, go_sem, r0, r1, r2]) rfl ?_;exact zLz HT.out hS rfl rfl hbX
     · go_enter Tryz.func51, Tryz.ntmps51
       go_wp2_with (first | (go_at_call 85; with_reducible refine (cL _).mono ?_; rintro e w' ⟨rfl, rfl⟩) | (go_at_call 86; with_reducible refine cN.mono ?_; rintro e w' ⟨rfl, rfl⟩) | (go_at_call 87; with_reducible refine (cW _).mono ?_; rintro e w' ⟨rfl, rfl⟩))
       obtain ⟨r0, r1, r2⟩ := zf5 ⟨x0, x1, x2, f0, f1, f2⟩ (.int .i64 1) (.string S) (.int .i64 0);have hbX := zgt (hb0) (zJw _) (.int .i64 1) (.string S) (.int .i64 0);unfold zeq at r0 r1 r2 hbX;refine bodyPost_ret (v := .tuple #[.agg #[.int .i64 1, .string S, .int .i64 0], .int .i64 (n : Int)]) (by simp [results, Tryz.results51, go_sem, r0, r1, r2]) rfl ?_;exact zLz HT.out hS rfl rfl hbX
   · go_enter Tryz.func51, Tryz.ntmps51
     go_wp2_with (first | (go_at_call 85; with_reducible refine (cL _).mono ?_; rintro e w' ⟨rfl, rfl⟩) | (go_at_call 86; with_reducible refine cN.mono ?_; rintro e w' ⟨rfl, rfl⟩) | (go_at_call 87; with_reducible refine (cW _).mono ?_; rintro e w' ⟨rfl, rfl⟩))
     obtain ⟨r0, r1, r2⟩ := zf5 ⟨x0, x1, x2, f0, f1, f2⟩ (.int .i64 1) (.string S) (.int .i64 0);have hbX := zgt (hb0) (zJw _) (.int .i64 1) (.string S) (.int .i64 0);unfold zeq at r0 r1 r2 hbX;refine bodyPost_ret (v := .tuple #[.agg #[.int .i64 1, .string S, .int .i64 0], .int .i64 (n : Int)]) (by simp [results, Tryz.results51, go_sem, r0, r1, r2]) rfl ?_;exact zLz HT.out hS rfl rfl hbX
 · rw [hw] at cW ht
   have HT := zJv ht;clear ht hw;by_cases c102 : (l[a]'ha).toNat = 102
   · have cL := cL2 c102
     by_cases hl1 : a + 1 < l.length
     · have hck1 := hh0.at (a + 1) hl1
       have c39 : ¬ (l[a + 1]'hl1).toNat = 39 := by
        intro h;have := HL.out;rw [dif_pos hl1] at this;simp [c102, h] at this
       have c39' : (((l[a + 1]'hl1).toNat : Int) == 39) = false := by simp; omega
       clear c39;go_enter Tryz.func51, Tryz.ntmps51
       go_wp2_with (first | (go_at_call 85; with_reducible refine (cL _).mono ?_; rintro e w' ⟨rfl, rfl⟩) | (go_at_call 86; with_reducible refine cN.mono ?_; rintro e w' ⟨rfl, rfl⟩) | (go_at_call 87; with_reducible refine (cW _).mono ?_; rintro e w' ⟨rfl, rfl⟩))
       obtain ⟨r0, r1, r2⟩ := zf5 ⟨x0, x1, x2, f0, f1, f2⟩ (.int .i64 7) (.string S) (.int .i64 0);have hbX := zgt (hb0) (zJw _) (.int .i64 7) (.string S) (.int .i64 0);unfold zeq at r0 r1 r2 hbX;refine bodyPost_ret (v := .tuple #[.agg #[.int .i64 7, .string S, .int .i64 0], .int .i64 (n : Int)]) (by simp [results, Tryz.results51, go_sem, r0, r1, r2]) rfl ?_;exact zLz HT.out hS rfl rfl hbX
     · go_enter Tryz.func51, Tryz.ntmps51
       go_wp2_with (first | (go_at_call 85; with_reducible refine (cL _).mono ?_; rintro e w' ⟨rfl, rfl⟩) | (go_at_call 86; with_reducible refine cN.mono ?_; rintro e w' ⟨rfl, rfl⟩) | (go_at_call 87; with_reducible refine (cW _).mono ?_; rintro e w' ⟨rfl, rfl⟩))
       obtain ⟨r0, r1, r2⟩ := zf5 ⟨x0, x1, x2, f0, f1, f2⟩ (.int .i64 7) (.string S) (.int .i64 0);have hbX := zgt (hb0) (zJw _) (.int .i64 7) (.string S) (.int .i64 0);unfold zeq at r0 r1 r2 hbX;refine bodyPost_ret (v := .tuple #[.agg #[.int .i64 7, .string S, .int .i64 0], .int .i64 (n : Int)]) (by simp [results, Tryz.results51, go_sem, r0, r1, r2]) rfl ?_;exact zLz HT.out hS rfl rfl hbX
   · go_enter Tryz.func51, Tryz.ntmps51
     go_wp2_with (first | (go_at_call 85; with_reducible refine (cL _).mono ?_; rintro e w' ⟨rfl, rfl⟩) | (go_at_call 86; with_reducible refine cN.mono ?_; rintro e w' ⟨rfl, rfl⟩) | (go_at_call 87; with_reducible refine (cW _).mono ?_; rintro e w' ⟨rfl, rfl⟩))
     obtain ⟨r0, r1, r2⟩ := zf5 ⟨x0, x1, x2, f0, f1, f2⟩ (.int .i64 7) (.string S) (.int .i64 0);have hbX := zgt (hb0) (zJw _) (.int .i64 7) (.string S) (.int .i64 0);unfold zeq at r0 r1 r2 hbX;refine bodyPost_ret (v := .tuple #[.agg #[.int .i64 7, .string S, .int .i64 0], .int .i64 (n : Int)]) (by simp [results, Tryz.results51, go_sem, r0, r1, r2]) rfl ?_;exact zLz HT.out hS rfl rfl hbX
end Go.Proofs.YtidmeodmkcomlaaGreatDoor
