/- Which texts are words and names; how many bytes a string's token, an int's, and blanks have: at every string. The lexer's functions that the document's share. -/
import Derived.Test.YtidmeodmkcomlaaGreatDoorK04
import Derived.Laws.Strings2
import Derived.Laws.OwnMore
import Derived.Deep.Draws
import Derived.PlainAid
import Derived.Deep.AppendLies
import Derived.RegionTactic
import Derived.OwnWalk
import Derived.WalkSpells
import Derived.StillTactics
set_option linter.unusedSimpArgs false
set_option linter.unusedVariables false
namespace Go.Proofs.YtidmeodmkcomlaaGreatDoor
open Go Go.Proofs Go.RowKit
set_option maxHeartbeats 4000000
theorem mk_tl (s : ByteArray) : s = ⟨(tl s).toArray⟩ := by simp [tl]
theorem zwr (s : ByteArray) (w : World) : Calls Tryz.prog 107 #[.string s] w fun e w' => e = .returned (.bool (isW (tl s))) ∧ w = w' := by
 by_cases hm : tl s ∈ words
 · have h1 : isW (tl s) = true := by simpa [isW] using hm
   rw [h1];clear h1;have h0 := mk_tl s;simp only [words, zKf, zKn, or_false] at hm;rcases hm with hm | hm | hm | hm | hm | hm | hm | hm | hm | hm | hm | hm | hm | hm | hm | hm | hm | hm | hm | hm
   all_goals
    rw [hm] at h0;subst h0;clear hm;go_enter Tryz.func107, Tryz.ntmps107
    go_wp2_with fail
    go_ret;exact ⟨rfl, rfl⟩
 · have h1 : isW (tl s) = false := by simpa [isW] using hm
   rw [h1];clear h1;simp only [words, zKf, zKn, or_false, not_or] at hm;obtain ⟨m1, m2, m3, m4, m5, m6, m7, m8, m9, m10, m11, m12, m13, m14, m15, m16, m17, m18, m19, m20⟩ := hm;have n1 := zal m1;have n2 := zal m2;have n3 := zal m3;have n4 := zal m4;have n5 := zal m5;have n6 := zal m6;have n7 := zal m7;have n8 := zal m8;have n9 := zal m9;have n10 := zal m10;have n11 := zal m11;have n12 := zal m12;have n13 := zal m13;have n14 := zal m14;have n15 := zal m15;have n16 := zal m16;have n17 := zal m17;have n18 := zal m18;have n19 := zal m19;have n20 := zal m20;clear m1 m2 m3 m4 m5 m6 m7 m8 m9 m10 m11 m12 m13 m14 m15 m16 m17 m18 m19 m20;go_enter Tryz.func107, Tryz.ntmps107
   go_wp2_with fail
   go_ret;exact ⟨rfl, rfl⟩
def zac (l : List UInt8) : Bool := decide (l ≠ []) && decide (nameN l = l.length) && !isW l
def strZ (l : List UInt8) (k : Nat) : Nat := match strV l with | none => 0 | some x => k + x.2
theorem zD4 (k : Nat) : strZ [] k = 0 := by unfold strZ; rw [zck]
theorem zDz (r : List UInt8) (c : UInt8) (k : Nat) (h : c.toNat = 34) : strZ (c :: r) k = k + 1 := by
 unfold strZ; rw [zbd, if_pos h]
theorem zCn (r : List UInt8) (c : UInt8) (k : Nat) (h : c.toNat < 32) : strZ (c :: r) k = 0 := by
 unfold strZ; rw [zbd, if_neg (by omega), if_pos h]
theorem zva (r : List UInt8) (c : UInt8) (k : Nat) (h : ¬ c.toNat = 34) (h2 : 32 ≤ c.toNat) (h3 : ¬ c.toNat = 92) : strZ (c :: r) k = strZ r (k + 1) := by
 unfold strZ; rw [zbd, if_neg h, if_neg (by omega), if_neg h3]
 cases strV r with
 | none => rfl
 | some x => simp; omega
theorem zx9 (c : UInt8) (k : Nat) (h : c.toNat = 92) : strZ [c] k = 0 := by
 unfold strZ; rw [zbd, if_neg (by omega), if_neg (by omega), if_pos h]
theorem zEc (r : List UInt8) (c d : UInt8) (k : Nat) (h : c.toNat = 92) : strZ (c :: d :: r) k = if d ∈ ([92, 34, 110] : List UInt8) then strZ r (k + 2) else 0 := by
 have hd : ∀ x : UInt8, d = x ↔ d.toNat = x.toNat := fun x => UInt8.toNat_inj.symm
 have hm : d ∈ ([92, 34, 110] : List UInt8) ↔ d.toNat = 92 ∨ d.toNat = 34 ∨ d.toNat = 110 := by
  simp only [zKf, zKn, or_false, hd]; rfl
 have he : (escB d).isSome = decide (d ∈ ([92, 34, 110] : List UInt8)) := by
  rw [zJz, decide_eq_true_iff, hm];unfold escB;split
  · simp; omega
  · split
    · simp; omega
    · split
      · simp; omega
      · simp; omega
 unfold strZ; rw [zbd, if_neg (by omega), if_neg (by omega), if_pos h];dsimp only
 cases hx : escB d with
 | none =>
  rw [hx] at he;have : ¬ d ∈ ([92, 34, 110] : List UInt8) := by simpa using he
  rw [if_neg this]
 | some e =>
  rw [hx] at he;have : d ∈ ([92, 34, 110] : List UInt8) := by simpa using he
  rw [if_pos this];dsimp only
  cases strV r with
  | none => rfl
  | some x => simp; omega
theorem zGl (s : ByteArray) (hs : s.size ≤ 9223372036854775807) (h1 : 1 ≤ s.size) (w : World) :
 Calls Tryz.prog 102 #[.string s] w fun e w' => e = .returned (.int .i64 (strZ ((tl s).drop 1) 1 : Nat)) ∧ w = w' := by
 obtain ⟨R, hR⟩ : ∃ R, strZ ((tl s).drop 1) 1 = R := ⟨_, rfl⟩;rw [hR];go_enter Tryz.func102, Tryz.ntmps102
 go_wp2_with fail
 go_loop [3, 4] (fun i _ => ∃ k : Nat, 1 ≤ k ∧ k ≤ s.size ∧ i = .int .i64 k ∧ Hid (strZ ((tl s).drop k) k = R)) (fun i _ => s.size - (intOf i).toNat)
 case atStart => exact ⟨1, zJw _, h1, rfl, zJv hR⟩
 case round =>
  obtain ⟨k, hk1, hk2, rfl, HR⟩ := hrel;by_cases hlt : k < s.size
  · have hd := zd6 s k hlt
    have hc := (s[k]'hlt).toNat_lt;have hr := HR.out;rw [hd] at hr;by_cases c1 : (s[k]'hlt).toNat = 34
    · rw [zDz _ _ _ c1] at hr
      have HX := zJv hr;clear hr hd;go_wp2_with fail
      go_ret;exact ⟨zdp (by have := HX.out; omega), rfl⟩
    · by_cases c2 : (s[k]'hlt).toNat < 32
      · rw [zCn _ _ _ c2] at hr
        have HX := zJv hr;clear hr hd;go_wp2_with fail
        go_ret;exact ⟨zdp (by have := HX.out; omega), rfl⟩
      · by_cases c3 : (s[k]'hlt).toNat = 92
        · by_cases hl2 : k + 1 < s.size
          · have hd2 := zd6 s (k + 1) hl2
            rw [hd2, zEc _ _ _ _ c3] at hr;have ci := zfz ⟨#[92, 34, 110]⟩ (s[k + 1]'hl2);have hn := zn9 [92, 34, 110] (s[k + 1]'hl2);have hk : tl ⟨#[92, 34, 110]⟩ = [92, 34, 110] := rfl;rw [hk] at ci;obtain ⟨i, hi⟩ : ∃ i, Lib.indexByte [92, 34, 110] (s[k + 1]'hl2) = i := ⟨_, rfl⟩;rw [hi] at ci hn;clear hi hk hd hd2;have HRR := zJv hr;clear hr;by_cases hneg : i < 0
            · have hx := HRR.out
              rw [if_neg (hn.1 hneg)] at hx;have HX := zJv hx;clear hx hn;go_wp2_with (go_at_call 98; refine (ci _).mono ?_; rintro e w' ⟨rfl, rfl⟩)
              go_ret;exact ⟨zdp (by have := HX.out; omega), rfl⟩
            · have hx := HRR.out
              rw [if_pos (Classical.byContradiction fun h => hneg (hn.2 h))] at hx;have HX := zJv hx;clear hx hn;have hne : ((k : Int) + 1 == (s.size : Int)) = false := by simp; omega
              have hi0 : decide (i < 0) = false := by simpa using hneg
              go_wp2_with (go_at_call 98; refine (ci _).mono ?_; rintro e w' ⟨rfl, rfl⟩)
              go_round
              case rel => exact ⟨k + 2, by omega, by omega, by go_num, HX⟩
              case measure => simp [intOf]; omega
          · have hnil : (tl s).drop (k + 1) = [] := List.drop_eq_nil_of_le (by rw [zab]; omega)
            rw [hnil, zx9 _ _ c3] at hr;have HX := zJv hr;clear hr hd hnil;have hke : k + 1 = s.size := by omega
            go_wp2_with fail
            go_ret;exact ⟨zdp (by have := HX.out; omega), rfl⟩
        · rw [zva _ _ _ c1 (by omega) c3] at hr
          have HX := zJv hr;clear hr hd;go_wp2_with fail
          go_round
          case rel => exact ⟨k + 1, by omega, by omega, by go_num, HX⟩
          case measure => simp [intOf]; omega
  · have hr := HR.out
    have hnil : (tl s).drop k = [] := List.drop_eq_nil_of_le (by rw [zab]; omega);rw [hnil, zD4] at hr;have HX := zJv hr;clear hr hnil;go_wp2_with fail
    go_ret;exact ⟨zdp (by have := HX.out; omega), rfl⟩
end Go.Proofs.YtidmeodmkcomlaaGreatDoor
namespace Go.Proofs.YtidmeodmkcomlaaGreatDoor

end Go.Proofs.YtidmeodmkcomlaaGreatDoor
namespace Go.Proofs.YtidmeodmkcomlaaGreatDoor
open Go Go.Proofs Go.RowKit
set_option maxHeartbeats 4000000
def WL : List UInt8 := [32, 102, 117, 110, 32, 108, 101, 116, 32, 114, 101, 99, 32, 105, 110, 32, 105, 102, 32, 116, 104, 101, 110, 32, 101, 108, 115, 101, 32, 99, 97, 115, 101, 32, 111, 102, 32, 101, 110, 100, 32, 116, 114, 117].append [101, 32, 102, 97, 108, 115, 101, 32, 105, 110, 116, 32, 98, 111, 111, 108, 32, 115, 116, 114, 32, 102, 108, 111, 97, 116, 32, 100, 121, 110, 32, 97, 110, 121, 32, 110, 111, 110, 101, 32, 116, 121, 112, 101, 32]
theorem zIt : WL.length = 89 := by decide
theorem zEe : ∀ x ∈ words, ∃ i ∈ List.range 88, i + x.length + 2 ≤ 89 ∧ (WL.drop i).take (x.length + 2) = 32 :: (x ++ [32]) := by decide +kernel
theorem zt6 : ∀ x ∈ words, x.all zb9 = true := by decide
theorem zyu : ∀ i ∈ List.range 89, WL.getD i 0 = 32 → (WL.drop (i + 1)).takeWhile (fun c => decide (c ≠ 32)) ∈ words ∨ (WL.drop (i + 1)).takeWhile (fun c => decide (c ≠ 32)) = [] := by decide +kernel
theorem zFu (l : List UInt8) (h0 : l ≠ []) (hs : l.all zb9 = true) (i : Nat) (hi : i + l.length + 2 ≤ 89) (h : (WL.drop i).take (l.length + 2) = 32 :: (l ++ [32])) : l ∈ words := by
 have hg : WL.getD i 0 = 32 := by
  have := congrArg (fun x => x.getD 0 0) h;simpa [zK3] using this
 have hd : WL.drop i = 32 :: (l ++ [32]) ++ (WL.drop i).drop (l.length + 2) := by rw [← h, List.take_append_drop]
 have hd1 : WL.drop (i + 1) = l ++ 32 :: (WL.drop i).drop (l.length + 2) := by
  have : WL.drop (i + 1) = (WL.drop i).drop 1 := by rw [List.drop_drop]
  rw [this];conv => lhs; rw [hd]
  simp
 have ht : (WL.drop (i + 1)).takeWhile (fun c => decide (c ≠ 32)) = l := by
  rw [hd1];refine zi2 _ _ _ _ (fun y hy => ?_) (by decide);have := List.all_eq_true.1 hs y hy;simp [zb9] at this
  simp
  rintro rfl;simp at this
 rcases zyu i (List.mem_range.2 (by omega)) hg with h | h
 · rwa [ht] at h
 · rw [ht] at h; exact absurd h h0
theorem zp7 (a b : ByteArray) : tl (a ++ b) = tl a ++ tl b := by
 unfold tl;rw [ByteArray.data_append, Array.toList_append]
set_option maxRecDepth 100000 in
theorem zxz (s : ByteArray) (hs : s.size ≤ 1048576) (w : World) : Calls Tryz.prog 87 #[.string s] w fun e w' => e = .returned (.bool (isW (tl s))) ∧ w = w' := by
 have hlen := zab s;by_cases h0 : s.size = 0
 · have he : tl s = [] := List.length_eq_zero_iff.1 (by omega)
   have hS : (s.toList == []) = true := by rw [zdn]; simpa using h0
   have hN : isW (tl s) = false := by rw [he]; decide
   rw [hN];clear hN he;go_enter Tryz.func87, Tryz.ntmps87
   go_wp2_with fail
   go_ret;exact ⟨rfl, rfl⟩
 · have hne : tl s ≠ [] := fun h => h0 (by rw [h] at hlen; simpa using hlen.symm)
   have hS : (s.toList == []) = false := by rw [zdn]; simpa using h0
   obtain ⟨WS, hWS⟩ : ∃ WS : ByteArray, ⟨([32, 102, 117, 110, 32, 108, 101, 116, 32, 114, 101, 99, 32, 105, 110, 32, 105, 102, 32, 116, 104, 101, 110, 32, 101, 108, 115, 101, 32, 99, 97, 115, 101, 32, 111, 102, 32, 101, 110, 100, 32, 116, 114, 117].append [101, 32, 102, 97, 108, 115, 101, 32, 105, 110, 116, 32, 98, 111, 111, 108, 32, 115, 116, 114, 32, 102, 108, 111, 97, 116, 32, 100, 121, 110, 32, 97, 110, 121, 32, 110, 111, 110, 101, 32, 116, 121, 112, 101, 32]).toArray⟩ = WS := ⟨_, rfl⟩;have hwt : tl WS = WL := by rw [← hWS]; simp [tl, WL]
   have hwz : WS.size = 89 := by rw [← zab, hwt]; exact zIt
   have HNE := zJv hne;obtain ⟨R, hR⟩ : ∃ R, isW (tl s) = R := ⟨_, rfl⟩;rw [hR];have HR := zJv hR;clear hR hne;go_enter Tryz.func87, Tryz.ntmps87
   rw [hWS];have HWT := zJv hwt;clear hWS hwt;go_wp2_with fail
   go_loop [3] (fun i => ∃ k : Nat, k ≤ s.size ∧ i = .int .i64 k ∧ Hid (∀ j (hj : j < s.size), j < k → zb9 (s[j]'hj) = true)) (fun i => s.size - (intOf i).toNat)
   case atStart => exact ⟨0, zK8 _, rfl, zJv (fun j hj h => by omega)⟩
   case round =>
    obtain ⟨k, hk, rfl, HJ⟩ := hrel;by_cases hlt : k < s.size
    · have hc := (s[k]'hlt).toNat_lt
      have hbad : ∀ (_ : zb9 (s[k]'hlt) = false), R = false := fun h => by
       rw [← HR.out];unfold isW;rw [zKs];intro hm;have := List.all_eq_true.1 (zt6 _ hm) (s[k]'hlt) (List.mem_of_mem_drop (by rw [zd6 s k hlt]; exact List.mem_cons_self ..));rw [h] at this;cases this
      by_cases c1 : 97 ≤ (s[k]'hlt).toNat
      · by_cases c2 : (s[k]'hlt).toNat ≤ 122
        · have HJ2 : Hid (∀ j (hj : j < s.size), j < k + 1 → zb9 (s[j]'hj) = true) := zJv (fun j hj h => by
           by_cases h' : j < k
           · exact HJ.out j hj h'
           · obtain rfl : j = k := by omega
             simp [zb9]; omega)
          clear hbad;go_wp2_with fail
          go_round
          case rel => exact ⟨k + 1, by omega, by go_num, HJ2⟩
          case measure => simp [intOf]; omega
        · have HB := zJv (hbad (by simp [zb9]; omega))
          clear hbad;go_wp2_with fail
          go_ret;exact ⟨za7 HB.out.symm, rfl⟩
      · have HB := zJv (hbad (by simp [zb9]; omega))
        clear hbad;go_wp2_with fail
        go_ret;exact ⟨za7 HB.out.symm, rfl⟩
    · have hall : (tl s).all zb9 = true := by
       rw [List.all_eq_true];intro x hx;obtain ⟨j, hj, rfl⟩ := zKo hx;rw [hlen] at hj;exact HJ.out j hj (by omega)
      have HALL := zJv hall;clear hall HJ;go_wp2_with fail
      go_loop [4] (fun i => ∃ k : Nat, k ≤ 89 ∧ i = .int .i64 k ∧ Hid (∀ j, j < k → j + (tl s).length + 2 ≤ 89 → (WL.drop j).take ((tl s).length + 2) ≠ 32 :: (tl s ++ [32]))) (fun i => 89 - (intOf i).toNat)
      case atStart => exact ⟨0, zK8 _, rfl, zJv (fun j h => by omega)⟩
      case round =>
       obtain ⟨k, hk, rfl, HJ⟩ := hrel;by_cases hlt : k + s.size + 2 ≤ 89
       · obtain ⟨sub, hsub⟩ : ∃ sub, WS.extract k (k + s.size + 2) = sub := ⟨_, rfl⟩
         have hst : tl sub = (WL.drop k).take ((tl s).length + 2) := by
          rw [← hsub, zcy, HWT.out, List.drop_take, hlen]; congr 1; omega
         have hsl : ∀ w, (Instr.slice 9 (.string WS) (some (.int .i64 (k : Int))) (some (.int .i64 ((k : Int) + (s.size : Int) + 2))) none).run Tryz.prog w = .ok (.string sub) w := fun w => by
          rw [run_slice_string w 9 WS .i64 .i64 k ((k : Int) + (s.size : Int) + 2) Tryz.underlying9 (by omega) (by omega) (by omega), ← hsub];congr 3
         have hcat : tl ((⟨#[32]⟩ : ByteArray) ++ s ++ ⟨#[32]⟩) = 32 :: (tl s ++ [32]) := by rw [zp7, zp7]; rfl
         have hcmp : (sub.toList == ((⟨#[32]⟩ : ByteArray) ++ s ++ ⟨#[32]⟩).toList) = decide ((WL.drop k).take ((tl s).length + 2) = 32 :: (tl s ++ [32])) := by
          have h1 : ((⟨#[32]⟩ : ByteArray) ++ s ++ ⟨#[32]⟩).toList = 32 :: (tl s ++ [32]) := by rw [ByteArray.toList_eq]; exact hcat
          rw [h1, toL, hst]
         clear hst hsub hcat;by_cases hw : (WL.drop k).take ((tl s).length + 2) = 32 :: (tl s ++ [32])
         · have hm : R = true := by
            rw [← HR.out];have := zFu (tl s) HNE.out HALL.out k (by omega) hw;simpa [isW] using this
           have HM := zJv hm;rw [decide_eq_true hw] at hcmp;clear hw hm;go_wp2_with fail
           go_ret;exact ⟨za7 HM.out.symm, rfl⟩
         · rw [decide_eq_false hw] at hcmp
           have HJ2 : Hid (∀ j, j < k + 1 → j + (tl s).length + 2 ≤ 89 → (WL.drop j).take ((tl s).length + 2) ≠ 32 :: (tl s ++ [32])) := zJv (fun j h1 h2 => by
            by_cases h : j < k
            · exact HJ.out j h h2
            · obtain rfl : j = k := by omega
              exact hw)
           clear hw;go_wp2_with fail
           go_round
           case rel => exact ⟨k + 1, by omega, by go_num, HJ2⟩
           case measure => simp [intOf]; omega
       · have hm : R = false := by
          rw [← HR.out];unfold isW;rw [zKs];intro hmem;obtain ⟨i, _, hi, hw⟩ := zEe _ hmem;exact HJ.out i (by omega) hi hw
         have HM := zJv hm;clear hm;go_wp2_with fail
         go_ret;exact ⟨za7 HM.out.symm, rfl⟩
structure TermD where
 kind : Int
 pos : Int
 name : ByteArray
 int : Int
 bits : Nat
 names : List ByteArray
 kids : List Int
 types : List Int
structure TypD where
 kind : Int
 pos : Int
 name : ByteArray
 names : List ByteArray
 kids : List Int
 opn : Bool
structure AliD where
 name : ByteArray
 type : Int
 pos : Int
structure TreeD where
 nodes : List TermD
 types : List TypD
 aliases : List AliD
abbrev iv (n : Int) : Value := .int .i64 n
def SlAt (Pb : Nat → Prop) (w : World) (A : Option Addr) (n : Nat) (xs : List Value) : Prop :=
 xs.length = n ∧ (0 < n → ∃ b off, A = some ⟨b, off, none⟩ ∧ Pb b ∧ ∀ j u, xs[j]? = some u → w.cell? ⟨b, off + j, none⟩ = some u)
structure Ptr3 where
 a5 : Option Addr
 c5 : Nat
 a6 : Option Addr
 c6 : Nat
 a7 : Option Addr
 c7 : Nat
structure Ptr2 where
 a3 : Option Addr
 c3 : Nat
 a4 : Option Addr
 c4 : Nat
def za1 (t : TermD) (p : Ptr3) : List Value :=
 [.int .i64 t.kind, .int .i64 t.pos, .string t.name, .int .i64 t.int, .int .u64 (t.bits : Int), .slice p.a5 t.names.length p.c5, .slice p.a6 t.kids.length p.c6, .slice p.a7 t.types.length p.c7]
def za4 (t : TypD) (p : Ptr2) : List Value :=
 [.int .i64 t.kind, .int .i64 t.pos, .string t.name, .slice p.a3 t.names.length p.c3, .slice p.a4 t.kids.length p.c4, .bool t.opn]
def zco (t : AliD) : List Value := [.string t.name, .int .i64 t.type, .int .i64 t.pos]
def TermOk (Pb : Nat → Prop) (w : World) (t : TermD) (p : Ptr3) : Prop :=
 SlAt Pb w p.a5 t.names.length (t.names.map .string) ∧ SlAt Pb w p.a6 t.kids.length (t.kids.map iv) ∧ SlAt Pb w p.a7 t.types.length (t.types.map iv)
def TypOk (Pb : Nat → Prop) (w : World) (t : TypD) (p : Ptr2) : Prop :=
 SlAt Pb w p.a3 t.names.length (t.names.map .string) ∧ SlAt Pb w p.a4 t.kids.length (t.kids.map iv)
def NodesAt (Pb : Nat → Prop) (w : World) (A : Option Addr) (ts : List TermD) : Prop :=
 0 < ts.length → ∃ b off, A = some ⟨b, off, none⟩ ∧ Pb b ∧ ∀ i t, ts[i]? = some t → ∃ p, TermOk Pb w t p ∧ ∀ j u, (za1 t p)[j]? = some u → w.cell? ⟨b, off + i * 8 + j, none⟩ = some u
def TypsAt (Pb : Nat → Prop) (w : World) (A : Option Addr) (ts : List TypD) : Prop :=
 0 < ts.length → ∃ b off, A = some ⟨b, off, none⟩ ∧ Pb b ∧ ∀ i t, ts[i]? = some t → ∃ p, TypOk Pb w t p ∧ ∀ j u, (za4 t p)[j]? = some u → w.cell? ⟨b, off + i * 6 + j, none⟩ = some u
def AlisAt (Pb : Nat → Prop) (w : World) (A : Option Addr) (ts : List AliD) : Prop :=
 0 < ts.length → ∃ b off, A = some ⟨b, off, none⟩ ∧ Pb b ∧ ∀ i t, ts[i]? = some t → ∀ j u, (zco t)[j]? = some u → w.cell? ⟨b, off + i * 3 + j, none⟩ = some u
structure Ptr6 where
 a1 : Option Addr
 c1 : Nat
 a2 : Option Addr
 c2 : Nat
 a3 : Option Addr
 c3 : Nat
abbrev treeV (t : TreeD) (p : Ptr6) : Value := .agg #[.slice p.a1 t.nodes.length p.c1, .slice p.a2 t.types.length p.c2, .slice p.a3 t.aliases.length p.c3]
def TreeAt (Pb : Nat → Prop) (w : World) (t : TreeD) (p : Ptr6) : Prop := NodesAt Pb w p.a1 t.nodes ∧ TypsAt Pb w p.a2 t.types ∧ AlisAt Pb w p.a3 t.aliases
section
variable {Pb Qb : Nat → Prop} {w w' : World} {A : Option Addr} {n : Nat} {xs : List Value}
theorem SlAt.nil : SlAt Pb w A 0 [] := ⟨rfl, fun h => absurd h (by omega)⟩
theorem SlAt.at_ {k : Nat} (h : SlAt Pb w A n xs) (hk : k < n) : ∃ b off, A = some ⟨b, off, none⟩ ∧ Pb b ∧ ∀ j u, xs[j]? = some u → w.cell? ⟨b, off + j, none⟩ = some u := h.2 (by omega)
theorem SlAt.keep (h : SlAt Pb w A n xs) (hk : ∀ b o, Pb b → w'.cell? ⟨b, o, none⟩ = w.cell? ⟨b, o, none⟩) : SlAt Pb w' A n xs :=
 ⟨h.1, fun hn => by
  obtain ⟨b, off, e, hb, hc⟩ := h.2 hn
  exact ⟨b, off, e, hb, fun j u hu => (hk _ _ hb).trans (hc j u hu)⟩⟩
theorem SlAt.imp (h : SlAt Pb w A n xs) (hk : ∀ b, Pb b → Qb b) : SlAt Qb w A n xs :=
 ⟨h.1, fun hn => by
  obtain ⟨b, off, e, hb, hc⟩ := h.2 hn
  exact ⟨b, off, e, hk b hb, hc⟩⟩
theorem TermOk.keep {t : TermD} {p : Ptr3} (h : TermOk Pb w t p) (hk : ∀ b o, Pb b → w'.cell? ⟨b, o, none⟩ = w.cell? ⟨b, o, none⟩) : TermOk Pb w' t p := ⟨h.1.keep hk, h.2.1.keep hk, h.2.2.keep hk⟩
theorem TypOk.keep {t : TypD} {p : Ptr2} (h : TypOk Pb w t p) (hk : ∀ b o, Pb b → w'.cell? ⟨b, o, none⟩ = w.cell? ⟨b, o, none⟩) : TypOk Pb w' t p := ⟨h.1.keep hk, h.2.keep hk⟩
theorem NodesAt.keep {ts : List TermD} (h : NodesAt Pb w A ts) (hk : ∀ b o, Pb b → w'.cell? ⟨b, o, none⟩ = w.cell? ⟨b, o, none⟩) : NodesAt Pb w' A ts := fun hn => by
 obtain ⟨b, off, e, hb, hc⟩ := h hn;refine ⟨b, off, e, hb, fun i t ht => ?_⟩;obtain ⟨p, hp, hq⟩ := hc i t ht;exact ⟨p, hp.keep hk, fun j u hu => (hk _ _ hb).trans (hq j u hu)⟩
theorem TypsAt.keep {ts : List TypD} (h : TypsAt Pb w A ts) (hk : ∀ b o, Pb b → w'.cell? ⟨b, o, none⟩ = w.cell? ⟨b, o, none⟩) : TypsAt Pb w' A ts := fun hn => by
 obtain ⟨b, off, e, hb, hc⟩ := h hn;refine ⟨b, off, e, hb, fun i t ht => ?_⟩;obtain ⟨p, hp, hq⟩ := hc i t ht;exact ⟨p, hp.keep hk, fun j u hu => (hk _ _ hb).trans (hq j u hu)⟩
theorem AlisAt.keep {ts : List AliD} (h : AlisAt Pb w A ts) (hk : ∀ b o, Pb b → w'.cell? ⟨b, o, none⟩ = w.cell? ⟨b, o, none⟩) : AlisAt Pb w' A ts := fun hn => by
 obtain ⟨b, off, e, hb, hc⟩ := h hn;exact ⟨b, off, e, hb, fun i t ht j u hu => (hk _ _ hb).trans (hc i t ht j u hu)⟩
theorem TreeAt.keep {t : TreeD} {p : Ptr6} (h : TreeAt Pb w t p) (hk : ∀ b o, Pb b → w'.cell? ⟨b, o, none⟩ = w.cell? ⟨b, o, none⟩) : TreeAt Pb w' t p := ⟨h.1.keep hk, h.2.1.keep hk, h.2.2.keep hk⟩
theorem TermOk.imp {t : TermD} {p : Ptr3} (h : TermOk Pb w t p) (hk : ∀ b, Pb b → Qb b) : TermOk Qb w t p := ⟨h.1.imp hk, h.2.1.imp hk, h.2.2.imp hk⟩
theorem TypOk.imp {t : TypD} {p : Ptr2} (h : TypOk Pb w t p) (hk : ∀ b, Pb b → Qb b) : TypOk Qb w t p := ⟨h.1.imp hk, h.2.imp hk⟩
theorem NodesAt.imp {ts : List TermD} (h : NodesAt Pb w A ts) (hk : ∀ b, Pb b → Qb b) : NodesAt Qb w A ts := fun hn => by
 obtain ⟨b, off, e, hb, hc⟩ := h hn;refine ⟨b, off, e, hk b hb, fun i t ht => ?_⟩;obtain ⟨p, hp, hq⟩ := hc i t ht;exact ⟨p, hp.imp hk, hq⟩
theorem TypsAt.imp {ts : List TypD} (h : TypsAt Pb w A ts) (hk : ∀ b, Pb b → Qb b) : TypsAt Qb w A ts := fun hn => by
 obtain ⟨b, off, e, hb, hc⟩ := h hn;refine ⟨b, off, e, hk b hb, fun i t ht => ?_⟩;obtain ⟨p, hp, hq⟩ := hc i t ht;exact ⟨p, hp.imp hk, hq⟩
theorem AlisAt.imp {ts : List AliD} (h : AlisAt Pb w A ts) (hk : ∀ b, Pb b → Qb b) : AlisAt Qb w A ts := fun hn => by
 obtain ⟨b, off, e, hb, hc⟩ := h hn;exact ⟨b, off, e, hk b hb, hc⟩
theorem TreeAt.imp {t : TreeD} {p : Ptr6} (h : TreeAt Pb w t p) (hk : ∀ b, Pb b → Qb b) : TreeAt Qb w t p := ⟨h.1.imp hk, h.2.1.imp hk, h.2.2.imp hk⟩
end
abbrev Lt (B : Nat) : Nat → Prop := fun b => b < B
theorem zaa {B : Nat} {w w' : World} (h : Below B w w') : ∀ b o, Lt B b → w'.cell? ⟨b, o, none⟩ = w.cell? ⟨b, o, none⟩ := fun b o hb => h.cell (p := ⟨b, o, none⟩) hb
theorem zc6 {B C : Nat} (h : B ≤ C) : ∀ b, Lt B b → Lt C b := fun _ hb => zJy hb h
def Blk (w : World) (g : Nat) (t : TypeId) (cs : Array Value) : Prop := w.heap[g]? = some (.cells cs t (0, 0))
section
variable {w w' : World} {g : Nat} {t : TypeId} {cs : Array Value}
theorem Blk.lt (h : Blk w g t cs) : g < w.heap.size := by
 rcases Nat.lt_or_ge g w.heap.size with hlt | hge
 · exact hlt
 · unfold Blk at h; rw [Array.getElem?_eq_none hge] at h; cases h
theorem Blk.cell (h : Blk w g t cs) (i : Nat) : w.cell? ⟨g, i, none⟩ = cs[i]? := cell_of_row w g i cs t (0, 0) h
theorem Blk.frozen (h : Blk w g t cs) (i : Nat) : w.frozen? ⟨g, i, none⟩ = false := by
 unfold Blk at h;simp [World.frozen?, h]
theorem Blk.new (w : World) (t : TypeId) (cs : Array Value) : Blk (w.alloc (.cells cs t)) w.heap.size t cs := heap_alloc_new w _
theorem Blk.drew (h : Blk w g t cs) : Blk w.drew g t cs := h
theorem Blk.drewN (h : Blk w g t cs) (n : Nat) : Blk (w.drewN n) g t cs := h
theorem Blk.alloc (h : Blk w g t cs) (o : Obj) : Blk (w.alloc o) g t cs := (Below.heap_alloc w o g h.lt).trans h
theorem Blk.set_ (h : Blk w g t cs) (i : Nat) (u : Value) : Blk (w.setCell ⟨g, i, none⟩ u) g t (cs.setIfInBounds i u) := by
 unfold Blk at h ⊢;simp [World.setCell, Array.getElem?_modify, h]
theorem Blk.far (h : Blk w g t cs) {p : Addr} (hp : g ≠ p.block) (u : Value) : Blk (w.setCell p u) g t cs := (zKp w p u g hp).trans h
theorem Blk.below {B : Nat} (h : Blk w g t cs) (hb : Below B w w') (hg : g < B) : Blk w' g t cs := (hb.block g hg).trans h
theorem Blk.grown {row : Option Nat} (h : Blk w g t cs) (hb : w.grownBy w' row) (hg : some g ≠ row) : Blk w' g t cs := (hb.block g h.lt hg).trans h
end
theorem zaf (w : World) (row : Option Nat) : w.grownBy w row := ⟨rfl, rfl, rfl, zJw _, fun _ _ _ => rfl⟩
theorem za9 {a w : World} {g : Nat} (h : a.grownBy w (some g)) {p : Addr} (hp : p.block = g ∨ a.heap.size ≤ p.block) (u : Value) : a.grownBy (w.setCell p u) (some g) :=
 ⟨h.os, h.tape, h.output, by simpa [World.setCell] using h.size, fun i hi hne => (zKp w p u i (by
  rintro rfl;rcases hp with hp | hp
  · exact hne (by rw [hp])
  · omega)).trans (h.block i hi hne)⟩
theorem zpp {a w : World} (h : Below a.heap.size a w) (row : Option Nat) : a.grownBy w row := ⟨h.os, h.tape, h.output, h.size, fun i hi _ => h.block i hi⟩
abbrev ivs (us : List Int) : Array Value := (us.map iv).toArray
theorem zn2 (us : List Int) (i : Nat) (h : i < us.length) : (ivs us)[i]? = some (.int .i64 us[i]) := by simp [ivs, h]
section
variable {w w1 : World} {base : Nat} {e : TypeId} {size : Nat} {v : Value} {n : Nat} {xs : List Value}
theorem zae (h : w.ownsRow base e size v n xs) : v.ownBlock = none ∨ ∃ g, v.ownBlock = some g ∧ base ≤ g ∧ g < w.heap.size := by
 rcases h.2 with ⟨rfl, _⟩ | ⟨g, cap, cur, rfl, hb, hh, _⟩
 · exact .inl rfl
 · refine .inr ⟨g, rfl, hb, ?_⟩
   rcases Nat.lt_or_ge g w.heap.size with hlt | hge
   · exact hlt
   · rw [Array.getElem?_eq_none hge] at hh; cases hh
theorem zaj (h : w.ownsRow base e size v n xs) (hb : Below w.heap.size w w1) : w1.ownsRow base e size v n xs :=
 h.kept (zpp hb none) (by
  rcases zae h with h1 | ⟨g, h1, _⟩
  · exact .inl h1
  · exact .inr (by rw [h1]; simp))
theorem zg5 {B : Nat} {a : World} (hb : Below B a w) (h : w.ownsRow base e size v n xs) (hg : w.grownBy w1 v.ownBlock) (hB : B ≤ base) (hs : B ≤ w.heap.size) : Below B a w1 :=
 hb.grown hg (zK4 hs (zJw _)) (fun j hj => by
  rcases zae h with h1 | ⟨g', h1, h2, _⟩
  · rw [h1] at hj; cases hj
  · rw [h1] at hj; cases hj; omega)
theorem zli {base' : Nat} (h : w.ownsRow base e size v n xs) (hb : base' ≤ base) : w.ownsRow base' e size v n xs := by
 refine ⟨h.1, ?_⟩;rcases h.2 with h1 | ⟨g, cap, cur, h2, h3, h4⟩
 · exact .inl h1
 · exact .inr ⟨g, cap, cur, h2, by omega, h4⟩
theorem SlAt.of_own (h : w.ownsRow base e 1 v n xs) : ∃ A c, v = .slice A n c ∧ n ≤ c ∧ SlAt (fun b => base ≤ b ∧ b < w.heap.size) w A n xs := by
 obtain ⟨hl, h | h⟩ := h
 · obtain ⟨rfl, rfl⟩ := h
   have : xs = [] := List.eq_nil_of_length_eq_zero (by simpa using hl);subst this;exact ⟨none, 0, rfl, zJw _, SlAt.nil⟩
 · obtain ⟨g, cap, cur, rfl, hb, hh, hnc, hcm, hsz, hx⟩ := h
   refine ⟨_, _, rfl, hnc, by simpa using hl, fun hn => ⟨g, 0, rfl, ⟨hb, ?_⟩, fun j u hu => ?_⟩⟩
   · rcases Nat.lt_or_ge g w.heap.size with hlt | hge
     · exact hlt
     · rw [Array.getElem?_eq_none hge] at hh; cases hh
   · rw [cell_of_row w g (0 + j) cur e (0, 0) hh, Nat.zero_add]
     rw [← hx] at hu
     have hj : j < n * 1 := by
      have := (List.getElem?_eq_some_iff.1 hu).1;rw [zKi] at this;omega
     rw [List.getElem?_take_of_lt hj] at hu;simpa using hu
end
theorem info9 : (Tryz.prog.info? 9).map (fun i => (i.zero, i.size, i.bytes)) = some (some (.string ByteArray.empty), 1, 16) := by kernel_rfl
theorem info3 : (Tryz.prog.info? 3).map (fun i => (i.zero, i.size, i.bytes)) = some (some (.int .i64 0), 1, 8) := by kernel_rfl
def RdAt (w : World) (A : Option Addr) (xs : List Value) : Prop := xs = [] ∨ ∃ b off, A = some ⟨b, off, none⟩ ∧ ∀ j u, xs[j]? = some u → w.cell? ⟨b, off + j, none⟩ = some u
theorem RdAt.of_sl {Pb : Nat → Prop} {w : World} {A : Option Addr} {n : Nat} {xs : List Value} (h : SlAt Pb w A n xs) : RdAt w A xs := by
 rcases Nat.eq_zero_or_pos n with rfl | hn
 · exact .inl (List.eq_nil_of_length_eq_zero h.1)
 · obtain ⟨b, off, e, _, hc⟩ := h.2 hn
   exact .inr ⟨b, off, e, hc⟩
theorem zeh (w : World) (u : Value) (t : TypeId) : RdAt (w.alloc (.cells #[u] t)) (some ⟨w.heap.size, 0, none⟩) [u] := .inr ⟨_, _, rfl, fun j x hx => by
 rw [(Blk.new w t #[u]).cell (0 + j), Nat.zero_add]
 simpa using hx⟩
section
variable {P : Program} (w : World)
theorem zH2 (base : Nat) (t ty e : TypeId) (i : TypeInfo) (size : Nat) (ht : P.underlying t = some (.slice e)) (hi : P.info? e = some i)
 (v : Value) (n : Nat) (xs : List Value) (hown : w.ownsRow base e size v n xs) (c : Nat) : (Builtin.append_ #[t, t] ty #[v, .slice none 0 c]).run P w = .ok v w := by
 rcases hown.2 with ⟨rfl, rfl⟩ | ⟨g, cap, cur, rfl, _, _, hnc, _⟩
 · simp [Builtin.append_, run_underlying ht, sizeOf, typeInfo, hi, Builtin.lenOf, Builtin.firstCells]
 · simp [Builtin.append_, run_underlying ht, sizeOf, typeInfo, hi, Builtin.lenOf, Builtin.firstCells, hnc, storeCells]
theorem zkb (base : Nat) (t ty e : TypeId) (i : TypeInfo) (z : Value) (size bytes : Nat) (ht : P.underlying t = some (.slice e)) (hi : P.info? e = some i) (hz : i.zero = some z)
 (hsize : i.size = size) (hby : i.bytes = bytes) (hzs : z.cells.size = size) (hsz : 0 < size)
 (v : Value) (n : Nat) (xs : List Value) (hown : w.ownsRow base e size v n xs)
 (A : Option Addr) (m c : Nat) (news : List Value) (hl : news.length = m * size) (hr : RdAt w A news) (h1 : ∀ u ∈ news, u.oneCell' = true)
 (h63 : n + m ≤ maxLen) (hbytes : (n + m) * bytes ≤ 140737488355328) (hbase : base ≤ w.heap.size) :
 ∃ v' w', (Builtin.append_ #[t, t] ty #[v, .slice A m c]).run P w = .ok v' w' ∧ w'.ownsRow base e size v' (n + m) (xs ++ news) ∧ w.grownBy w' v.ownBlock ∧
  (v'.ownBlock = v.ownBlock ∨ v'.ownBlock = some w.heap.size) := by
 rcases A with _ | ad
 · have hn : news = [] := by
    rcases hr with h | ⟨b, off, h, _⟩
    · exact h
    · cases h
   subst hn
   have hm : m = 0 := by
    have : m * size = 0 := by simpa using hl.symm
    rcases Nat.mul_eq_zero.1 this with h | h <;> omega
   subst hm;exact ⟨v, w, zH2 w base t ty e i size ht hi v n xs hown c, by simpa using hown, World.grownBy.refl w _, .inl rfl⟩
 · have hcells : ∀ j u, news[j]? = some u → w.cell? (ad.add j) = some u := by
    intro j u hu;rcases hr with rfl | ⟨b, off, h, hc⟩
    · simp at hu
    · injection h with h
      subst h;have := hc j u hu;unfold Addr.add;split
      · rename_i h0; subst h0; simpa using this
      · simpa using this
   obtain ⟨v', w', hrun, h2, h3, _, h5⟩ := run_append_own_at (P := P) w base t ty e i z size bytes ht hi hz hsize hby hzs hsz v n xs hown ad m c news hl hcells h1 h63 hbytes hbase;exact ⟨v', w', hrun, h2, h3, h5⟩
theorem zca {ops : Array Oper} {rest : List Oper} {o : Oper} {a : Act} {Q : Exit → Act → World → Prop} (hgd : o.guard = none) (s x : Operand) (t : TypeId)
 (ho : o.op = .call { callee := .builtin .append, args := #[s, x], argTypes := #[t, t] })
 (base : Nat) (e : TypeId) (i : TypeInfo) (z : Value) (size bytes : Nat) (ht : P.underlying t = some (.slice e)) (hi : P.info? e = some i) (hz : i.zero = some z)
 (hsize : i.size = size) (hby : i.bytes = bytes) (hzs : z.cells.size = size) (hsz : 0 < size)
 (v : Value) (n : Nat) (xs : List Value) (hs : a.eval s = v) (hown : w.ownsRow base e size v n xs)
 (A : Option Addr) (m c : Nat) (news : List Value) (hx : a.eval x = .slice A m c) (hl : news.length = m * size) (hr : RdAt w A news) (h1 : ∀ u ∈ news, u.oneCell' = true)
 (h63 : n + m ≤ maxLen) (hbytes : (n + m) * bytes ≤ 140737488355328) (hbase : base ≤ w.heap.size)
 (h : ∀ v' w', w'.ownsRow base e size v' (n + m) (xs ++ news) → w.grownBy w' v.ownBlock → (v'.ownBlock = v.ownBlock ∨ v'.ownBlock = some w.heap.size) → wpList P ops Q rest (a.put o.dst v') w') : wpList P ops Q (o :: rest) a w := by
 refine wpList_plain hgd fun _ hK => ?_;obtain ⟨v', w', hrun, h2, h3, h4⟩ := zkb (P := P) w base t o.type e i z size bytes ht hi hz hsize hby hzs hsz v n xs hown A m c news hl hr h1 h63 hbytes hbase;unfold Oper.wp execOp;simp only [ho, resolve, invoke, builtin, Sem.run_bind, Sem.run_pure, Result.andThen_ok, List.map_toArray, List.map_cons, List.map_nil, hs, hx, hrun];exact hK _ _ (h v' w' h2 h3 h4)
end
set_option maxHeartbeats 1000000
def zrz (w : World) (n : Nat) (xs : List Value) (e : Ending) (w' : World) : Prop :=
 ∃ A c, e = .returned (.slice A n c) ∧ SlAt (fun b => w.heap.size ≤ b ∧ b < w'.heap.size) w' A n xs ∧ Below w.heap.size w w'
theorem zo5 (A : Option Addr) (c : Nat) (ss : List ByteArray) (w : World) (hS : RdAt w A (ss.map .string)) (hn : ss.length ≤ 65536) : Calls Tryz.prog 135 #[.slice A ss.length c] w (zrz w ss.length (ss.map .string)) := by
 obtain ⟨i0, hi, hz0, hz1, hz2⟩ := info_parts info9;have hr0 := zJx w.heap.size w;go_enter Tryz.func135, Tryz.ntmps135
 go_wp2_with (at_builtin; refine zca _ rfl _ _ 35 rfl w.heap.size 9 i0 (.string ByteArray.empty) 1 16 Tryz.underlying35 hi hz0 hz1 hz2 rfl (by decide) (.slice none 0 0) 0 [] rfl (World.ownsRow_nil _ _ _ _) A ss.length c (ss.map .string) rfl (by simp) hS (by intro u hu; obtain ⟨s, _, rfl⟩ := List.mem_map.1 hu; rfl) (by unfold maxLen; omega) (by omega) (zJw _) ?_; intro v' w2 hown2 hgrow2 hloc2)
 go_ret;rw [Nat.zero_add, List.nil_append] at hown2;obtain ⟨A', c', rfl, _, h2⟩ := SlAt.of_own hown2;exact ⟨A', c', rfl, h2, hgrow2.os, hgrow2.tape, hgrow2.output, hgrow2.size, fun i hi => hgrow2.block i hi (by simp [Value.ownBlock])⟩
theorem zjd (A : Option Addr) (c : Nat) (ss : List Int) (w : World) (hS : RdAt w A (ss.map iv)) (hn : ss.length ≤ 65536) : Calls Tryz.prog 136 #[.slice A ss.length c] w (zrz w ss.length (ss.map iv)) := by
 obtain ⟨i0, hi, hz0, hz1, hz2⟩ := info_parts info3;have hr0 := zJx w.heap.size w;go_enter Tryz.func136, Tryz.ntmps136
 go_wp2_with (at_builtin; refine zca _ rfl _ _ 36 rfl w.heap.size 3 i0 (.int .i64 0) 1 8 Tryz.underlying36 hi hz0 hz1 hz2 rfl (by decide) (.slice none 0 0) 0 [] rfl (World.ownsRow_nil _ _ _ _) A ss.length c (ss.map iv) rfl (by simp) hS (by intro u hu; obtain ⟨s, _, rfl⟩ := List.mem_map.1 hu; rfl) (by unfold maxLen; omega) (by omega) (zJw _) ?_; intro v' w2 hown2 hgrow2 hloc2)
 go_ret;rw [Nat.zero_add, List.nil_append] at hown2;obtain ⟨A', c', rfl, _, h2⟩ := SlAt.of_own hown2;exact ⟨A', c', rfl, h2, hgrow2.os, hgrow2.tape, hgrow2.output, hgrow2.size, fun i hi => hgrow2.block i hi (by simp [Value.ownBlock])⟩
abbrev New (w w' : World) : Nat → Prop := fun b => w.heap.size ≤ b ∧ b < w'.heap.size
theorem SlAt.rd {Pb : Nat → Prop} {w w' : World} {A : Option Addr} {n : Nat} {xs : List Value} (h : SlAt Pb w A n xs) (hk : ∀ b o, Pb b → w'.cell? ⟨b, o, none⟩ = w.cell? ⟨b, o, none⟩) : RdAt w' A xs := RdAt.of_sl (h.keep hk)
end Go.Proofs.YtidmeodmkcomlaaGreatDoor
