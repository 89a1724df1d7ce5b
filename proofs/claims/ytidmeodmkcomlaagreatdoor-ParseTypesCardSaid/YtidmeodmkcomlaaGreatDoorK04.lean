/- The lexer's functions that tell how many bytes a note, a tag, a sign, a float has; words and names: at every string. The iterator over the signs of a text, at -/
import Derived.Test.YtidmeodmkcomlaaGreatDoorK03
import Derived.RangeFuncNested
import Derived.RangeFuncBound
import Derived.RangeFuncCalls
import Derived.RangeFuncLeaves
import Derived.Shelf.Abstract
import Derived.Shelf.RegionOpen
import Derived.OwnWalkIn
import Derived.TacticsInMore
import Derived.LoopNIn
import Derived.LoopIn
import Derived.Shelf.Spec.DecodeRune
set_option linter.unusedSimpArgs false
set_option linter.unusedVariables false
namespace Go.Proofs.YtidmeodmkcomlaaGreatDoor
open Go Go.Proofs Go.RowKit
set_option maxHeartbeats 2000000
theorem retI {k : IntKind} {a b : Int} (h : a = b) : Ending.returned (.int k a) = .returned (.int k b) := by rw [h]
theorem zrm (s p : ByteArray) (hp : p.size = 2) (hs : s.size ≤ 9223372036854775807) (w : World) :
 Calls Tryz.prog 99 #[.string s, .string p] w fun e w' => e = .returned (.bool (decide ((tl s).take 2 = tl p))) ∧ w = w' := by
 have c : ∀ w, Calls Tryz.prog 127 #[.string s, .string p] w fun e w' => e = .returned (.bool (decide ((tl s).take 2 = tl p))) ∧ w = w' := by
  intro w;by_cases h2 : 2 ≤ s.size
  · have he : (s.extract 0 2).data.toList = (tl s).take 2 := by
     rw [ByteArray.data_extract, Array.toList_extract, List.extract_eq_drop_take']; simp [tl]
    have e : ((s.extract 0 2).toList == p.toList) = decide ((tl s).take 2 = tl p) := by
     rw [ByteArray.toList_eq, ByteArray.toList_eq, he, zJz, decide_eq_true_iff];simp [tl]
    rw [← e];clear e he;go_enter Tryz.func127, Tryz.ntmps127
    go_wp2
    go_ret;exact ⟨rfl, rfl⟩
  · have e : decide ((tl s).take 2 = tl p) = false := by
     simp only [zKs];intro h;have := congrArg List.length h;rw [zKi, zab, zab, hp] at this;omega
    rw [e];clear e;go_enter Tryz.func127, Tryz.ntmps127
    go_wp2
    go_ret;exact ⟨rfl, rfl⟩
 generalize decide ((tl s).take 2 = tl p) = b at c ⊢;go_enter Tryz.func99, Tryz.ntmps99
 go_wp2_with (go_at_call 127; refine (c _).mono ?_; rintro e w' ⟨rfl, rfl⟩)
 go_ret;exact ⟨rfl, rfl⟩
theorem zfz (s : ByteArray) (c : UInt8) (w : World) : Calls Tryz.prog 98 #[.string s, .int .u8 (c.toNat : Int)] w fun e w' => e = .returned (.int .i64 (Lib.indexByte (tl s) c)) ∧ w = w' :=
 (Tryz.strings_IndexByte s (c.toNat : Int) w).mono fun e w' ⟨h1, h2⟩ => ⟨by rw [h1]; simp [tl], h2.symm⟩
theorem zzw (c : UInt8) : ∀ l : List UInt8, (Lib.indexByte l c = -1 ∧ (l.takeWhile (fun x => decide (x ≠ c))).length = l.length) ∨ Lib.indexByte l c = ((l.takeWhile (fun x => decide (x ≠ c))).length : Nat)
 | [] => .inl ⟨rfl, rfl⟩
 | b :: l => by
  unfold Lib.indexByte;by_cases h : b = c
  · subst h
    simp
  · have hb : (b == c) = false := by simpa using h
    have ht : (b :: l).takeWhile (fun x => decide (x ≠ c)) = b :: l.takeWhile (fun x => decide (x ≠ c)) := by simp [h]
    rw [hb, ht];rcases zzw c l with ⟨h1, h2⟩ | h1
    · left
      rw [h1];refine ⟨rfl, ?_⟩;rw [zK2, zK2, h2]
    · right
      rw [h1];have : (((l.takeWhile (fun x => decide (x ≠ c))).length : Int) == -1) = false := by simp
      rw [this];simp
theorem zDs (s : ByteArray) (_hs : s.size ≤ 9223372036854775807) (w : World) : Calls Tryz.prog 100 #[.string s] w fun e w' => e = .returned (.int .i64 (noteN (tl s) : Nat)) ∧ w = w' := by
 have k := zfz s 10
 have hf : noteN (tl s) = ((tl s).takeWhile (fun x => decide (x ≠ 10))).length := by
  unfold noteN;congr 2
  funext x
  rw [decide_eq_decide, Ne, Ne, ← UInt8.toNat_inj];rfl
 have hi := zzw 10 (tl s);rw [← hf] at hi;rw [zab] at hi;clear hf;obtain ⟨n, hn⟩ : ∃ n, noteN (tl s) = n := ⟨_, rfl⟩;obtain ⟨i, hi'⟩ : ∃ i, Lib.indexByte (tl s) 10 = i := ⟨_, rfl⟩;rw [hn, hi'] at hi;rw [hi'] at k;rw [hn];clear hn hi';have k' : ∀ w, Calls Tryz.prog 98 #[.string s, .int .u8 10] w fun e w' => e = .returned (.int .i64 i) ∧ w = w' := k;rcases hi with ⟨rfl, rfl⟩ | rfl
 all_goals
  go_enter Tryz.func100, Tryz.ntmps100
  go_wp2_with (go_at_call 98; refine (k' _).mono ?_; rintro e w' ⟨rfl, rfl⟩)
  go_ret;exact ⟨rfl, rfl⟩
theorem zcy (s : ByteArray) (a b : Nat) : tl (s.extract a b) = ((tl s).take b).drop a := by
 unfold tl;rw [ByteArray.data_extract, Array.toList_extract, List.extract_eq_drop_take', List.drop_take]
theorem zk3 (s : ByteArray) (a : Nat) : tl (s.extract a s.size) = (tl s).drop a := by
 rw [zcy s a s.size, ← zab s, List.take_length]
theorem zF9 (s : ByteArray) (hs : s.size ≤ 9223372036854775807) (h1 : 1 ≤ s.size) (w : World) :
 Calls Tryz.prog 103 #[.string s] w fun e w' => e = .returned (.int .i64 (if nameN ((tl s).drop 1) = 0 then 0 else nameN ((tl s).drop 1) + 1 : Nat)) ∧ Below w.heap.size w w' := by
 have hz : (s.extract 1 s.size).size = s.size - 1 := by simp [ByteArray.size_extract]
 have k := zsa (s.extract 1 s.size) (by rw [hz]; omega);have hn := zcl lowB zbj (tl (s.extract 1 s.size));rw [zab, hz] at hn;rw [← zk3 s 1];obtain ⟨n, hn'⟩ : ∃ n, nameN (tl (s.extract 1 s.size)) = n := ⟨_, rfl⟩;unfold nameN at hn';rw [hn'] at hn;have hn'' : nameN (tl (s.extract 1 s.size)) = n := hn';rw [hn''] at k ⊢;clear hn' hn'' hz;by_cases h0 : n = 0
 · subst h0
   go_enter Tryz.func103, Tryz.ntmps103
   go_wp2_with (go_at_call 106; refine (k _).mono ?_; rintro e w' ⟨rfl, hb⟩)
   go_ret;exact ⟨rfl, hb⟩
 · rw [if_neg h0]
   go_enter Tryz.func103, Tryz.ntmps103
   go_wp2_with (go_at_call 106; refine (k _).mono ?_; rintro e w' ⟨rfl, hb⟩)
   go_ret;exact ⟨retI (by omega), hb⟩
theorem zyw (c : UInt8) : (0 ≤ hexd c) ↔ hexB c = true := by
 have := c.toNat_lt;rw [zre];unfold hexZ hexB digB;simp
 split
 · omega
 · split <;> omega
theorem zkz : ∀ (l : List UInt8) (n : Nat), (hexv l n).isSome = l.all hexB
 | [], n => rfl
 | c :: r, n => by
  rw [hexv];have h := zyw c;split
  · have : hexB c = false := by rw [← Bool.not_eq_true, ← h]; omega
    simp [this]
  · have : hexB c = true := h.1 (by omega)
    rw [zkz r]; simp [this]
theorem zHi (s : ByteArray) (hs : s.size ≤ 9223372036854775807) (hl : leadB (tl s) = true) (w : World) :
 Calls Tryz.prog 101 #[.string s] w fun e w' => e = .returned (.int .i64 (if fltB (tl s) then 18 else 0 : Nat)) ∧ w = w' := by
 by_cases h18 : s.size < 18
 · have : fltB (tl s) = false := by unfold fltB; rw [zab]; simp; omega
   rw [this];clear this hl;go_enter Tryz.func101, Tryz.ntmps101
   go_wp2
   go_ret;exact ⟨rfl, rfl⟩
 · have hz : (s.extract 0 18).size = 18 := by simp [ByteArray.size_extract]; omega
   have k := zpc (s.extract 0 18) (by omega);have he : tl (s.extract 0 18) = (tl s).take 18 := by rw [zcy, List.drop_zero]
   have hh : headB (s.extract 0 18) = true := by
    unfold headB
    have e2 : tl ((s.extract 0 18).extract 0 2) = (tl s).take 2 := by
     rw [zcy, he, List.drop_zero, List.take_take]; simp
    simp only [leadB, zKq] at hl;rw [hz, ByteArray.toList_eq, ByteArray.toList_eq];unfold tl at e2 hl;rw [e2, hl];decide
   have hf : (zdd (s.extract 0 18)).isSome = fltB (tl s) := by
    unfold zdd;rw [if_pos ⟨hh, hz⟩, zkz];have : (s.extract 0 18).data.toList = (tl s).take 18 := he;rw [this, List.drop_take];unfold fltB;rw [zab];have : decide (18 ≤ s.size) = true := by simp; omega
    rw [this, Bool.true_and]
   rw [← hf];obtain ⟨v, hv⟩ : ∃ v, zdd (s.extract 0 18) = v := ⟨_, rfl⟩;rw [hv] at k ⊢;obtain ⟨s', hs'⟩ : ∃ s', s.extract 0 18 = s' := ⟨_, rfl⟩;rw [hs'] at k;have HS := zJv hs';clear hv hf hh he hz hl;unfold zf1 at k
   cases v with
   | none =>
    dsimp only at k;go_enter Tryz.func101, Tryz.ntmps101
    go_wp2_with (go_at_call 128; refine (k _).mono ?_; rintro e w' ⟨rfl, rfl⟩)
    go_ret;exact ⟨rfl, rfl⟩
   | some n =>
    dsimp only at k;go_enter Tryz.func101, Tryz.ntmps101
    go_wp2_with (go_at_call 128; refine (k _).mono ?_; rintro e w' ⟨rfl, rfl⟩)
    go_ret;exact ⟨rfl, rfl⟩
theorem ztk (c : UInt8) : ∀ l : List UInt8, (Lib.indexByte l c = -1 ↔ ¬ c ∈ l)
 | [] => by simp [Lib.indexByte]
 | b :: l => by
  unfold Lib.indexByte;by_cases h : b = c
  · subst h; simp
  · have hb : (b == c) = false := by simpa using h
    have hg := Lib.indexByte_ge l c;have ih := ztk c l;rw [hb];have hc : ¬ c = b := fun e => h e.symm;by_cases hm : Lib.indexByte l c = -1
    · have := ih.1 hm
      rw [hm];simp [hc, this]
    · have h2 : c ∈ l := Classical.byContradiction fun hn => hm (ih.2 hn)
      have h3 : (Lib.indexByte l c == -1) = false := by simpa using hm
      rw [h3];simp only [Bool.false_eq_true, if_false, zKf, h2, or_true, not_true, iff_false];omega
theorem zn9 (l : List UInt8) (c : UInt8) : (Lib.indexByte l c < 0 ↔ ¬ c ∈ l) := by
 have hg := Lib.indexByte_ge l c;rw [← ztk];omega
theorem toL (s : ByteArray) (l : List UInt8) : (s.toList == l) = decide (tl s = l) := by
 rw [ByteArray.toList_eq, zJz, decide_eq_true_iff]; simp [tl]
theorem zal {s : ByteArray} {l : List UInt8} (h : ¬ tl s = l) : (s.toList == l) = false := by rw [toL]; simpa using h
theorem zCg (s : ByteArray) (hs : s.size ≤ 9223372036854775807) (h1 : 1 ≤ s.size) (w : World) :
 Calls Tryz.prog 109 #[.string s] w fun e w' => e = .returned (.int .i64 (signN (tl s) : Nat)) ∧ w = w' := by
 have hd : (tl s).getD 0 0 = s[0] := by
  have := zd6 s 0 h1;rw [List.drop_zero] at this;rw [this]; rfl
 have k := zfz ⟨ones.toArray⟩ s[0];have ki := zn9 ones s[0];have hk : tl ⟨ones.toArray⟩ = ones := by simp [tl]
 rw [hk] at k
 have hN : signN (tl s) = if (tl s).take 2 ∈ twos then 2 else if (0 : Int) ≤ Lib.indexByte ones s[0] then 1 else 0 := by
  unfold signN;rw [hd]
  have : ((0 : Int) ≤ Lib.indexByte ones s[0]) ↔ s[0] ∈ ones := by
   constructor
   · intro h; exact Classical.byContradiction fun hn => by have := ki.2 hn; omega
   · intro h; exact Int.not_lt.1 fun hn => ki.1 hn h
  simp only [this]
 rw [hN];clear hN ki hd hk;obtain ⟨i, hi⟩ : ∃ i, Lib.indexByte ones s[0] = i := ⟨_, rfl⟩;rw [hi] at k ⊢;clear hi;have k' : ∀ w, Calls Tryz.prog 98 #[.string ⟨#[40, 41, 123, 125, 91, 93, 44, 59, 58, 46, 61, 124, 43, 45, 42, 47, 60, 94]⟩, .int .u8 (s[0].toNat : Int)] w fun e w' => e = .returned (.int .i64 i) ∧ w = w' := k;clear k;by_cases h2 : 1 < s.size
 · have he : tl (s.extract 0 2) = (tl s).take 2 := by rw [zcy, List.drop_zero]
   rw [← he];by_cases hm : tl (s.extract 0 2) ∈ twos
   · rw [if_pos hm]
     clear he k';simp only [twos, zKf, zKn, or_false] at hm;obtain ⟨s', hs'⟩ : ∃ s', s.extract 0 2 = s' := ⟨_, rfl⟩;rw [hs'] at hm;rcases hm with hm | hm | hm | hm | hm | hm | hm | hm | hm
     all_goals
      have h0 : s' = ⟨(tl s').toArray⟩ := by simp [tl]
      rw [hm] at h0;subst h0;clear hm;go_enter Tryz.func109, Tryz.ntmps109
      go_wp2_with fail
      go_ret;exact ⟨rfl, rfl⟩
   · rw [if_neg hm]
     simp only [twos, zKf, zKn, or_false, not_or] at hm;obtain ⟨m1, m2, m3, m4, m5, m6, m7, m8, m9⟩ := hm;have n1 := zal m1;have n2 := zal m2;have n3 := zal m3;have n4 := zal m4;have n5 := zal m5;have n6 := zal m6;have n7 := zal m7;have n8 := zal m8;have n9 := zal m9;clear m1 m2 m3 m4 m5 m6 m7 m8 m9 he;by_cases hi : 0 ≤ i
     · rw [if_pos hi]
       go_enter Tryz.func109, Tryz.ntmps109
       go_wp2_with (go_at_call 98; refine (k' _).mono ?_; rintro e w' ⟨rfl, rfl⟩)
       go_ret;exact ⟨rfl, rfl⟩
     · rw [if_neg hi]
       go_enter Tryz.func109, Tryz.ntmps109
       go_wp2_with (go_at_call 98; refine (k' _).mono ?_; rintro e w' ⟨rfl, rfl⟩)
       go_ret;exact ⟨rfl, rfl⟩
 · have hm : ¬ (tl s).take 2 ∈ twos := by
    intro hm;simp only [twos, zKf, zKn, or_false] at hm;have hl : ((tl s).take 2).length ≤ 1 := by rw [zKi, zab]; omega
    rcases hm with hm | hm | hm | hm | hm | hm | hm | hm | hm <;> (rw [hm] at hl; simp at hl)
   rw [if_neg hm];clear hm;by_cases hi : 0 ≤ i
   · rw [if_pos hi]
     go_enter Tryz.func109, Tryz.ntmps109
     go_wp2_with (go_at_call 98; refine (k' _).mono ?_; rintro e w' ⟨rfl, rfl⟩)
     go_ret;exact ⟨rfl, rfl⟩
   · rw [if_neg hi]
     go_enter Tryz.func109, Tryz.ntmps109
     go_wp2_with (go_at_call 98; refine (k' _).mono ?_; rintro e w' ⟨rfl, rfl⟩)
     go_ret;exact ⟨rfl, rfl⟩
end Go.Proofs.YtidmeodmkcomlaaGreatDoor
namespace Go.Proofs.YtidmeodmkcomlaaGreatDoor
open Go Go.Proofs Go.RowKit Go.Shelf
set_option maxHeartbeats 2000000
attribute [local go_sem] Oper.semAt_some
def Holds (W : World) (b off : Nat) (l : List UInt8) : Prop := ∀ j, j < l.length → W.cell? ⟨b, off + j, none⟩ = some (.int .u8 (l.getD j 0).toNat)
theorem Holds.drop {W : World} {b off : Nat} {l : List UInt8} (h : Holds W b off l) (k : Nat) : Holds W b (off + k) (l.drop k) := by
 intro j hj;simp only [zKa] at hj;have := h (k + j) (by omega);rw [show off + k + j = off + (k + j) by omega, this];simp [zK3, List.getElem?_drop]
theorem Holds.below {n₀ : Nat} {A B : World} {b off : Nat} {l : List UInt8} (hb : b < n₀) (h : Below n₀ A B) (hh : Holds A b off l) : Holds B b off l :=
 fun j hj => (h.cell (p := ⟨b, off + j, none⟩) hb).trans (hh j hj)
theorem zgc {n₀ : Nat} {A B : World} (hn : 2 ≤ n₀) (h : Below n₀ A B) (hT : Lib.Utf8Tabs 0 1 A) : Lib.Utf8Tabs 0 1 B :=
 ⟨fun c hc => (h.cell (p := ⟨0, c, none⟩) (by simp; omega)).trans (hT.1 c hc), fun i hi => ⟨(h.cell (p := ⟨1, 2 * i, none⟩) (by simp; omega)).trans (hT.2 i hi).1, (h.cell (p := ⟨1, 2 * i + 1, none⟩) (by simp; omega)).trans (hT.2 i hi).2⟩⟩
theorem zw9 (l : List UInt8) (hl : 0 < l.length) (b off cap : Nat) (w : World) (hT : Lib.Utf8Tabs 0 1 w) (hh : Holds w b off l) :
 Calls Tryz.prog 125 #[.slice (some ⟨b, off, none⟩) l.length cap] w fun e w' => e = .returned (.tuple #[.int .i32 (D l).1, .int .i64 (D l).2]) ∧ Below w.heap.size w w' := by
 have hs : (ByteArray.mk l.toArray).size = l.length := by simp [ByteArray.size]
 have hd : Lib.decodeGo (ByteArray.mk l.toArray) = D l := by
  unfold Lib.decodeGo;rw [hs, if_neg (by omega), zA8]
 have := Any7.utf8_DecodeRune Tryz.lays32 (ByteArray.mk l.toArray) b off cap w hT (fun j hj => by rw [zma]; exact hh j (by rwa [hs] at hj));rwa [hd, hs] at this
theorem zsg (r : Int) (w : World) : Calls Tryz.prog 97 #[.int .i32 r] w fun e w' => e = .returned (.int .i64 (Lib.runeLen r)) ∧ w = w' :=
 (Any.utf8_RuneLen Tryz.lays118 r w).mono fun _ _ ⟨h1, h2⟩ => ⟨h1, h2.symm⟩
def Kp (b Bs : Nat) (W W' : World) : Prop := W.heap.size ≤ W'.heap.size ∧ ∀ k, k = 0 ∨ k = 1 ∨ k = b ∨ k = Bs → W'.heap[k]? = W.heap[k]?
theorem Kp.refl (b Bs : Nat) (W : World) : Kp b Bs W W := ⟨zJw _, fun _ _ => rfl⟩
theorem Kp.trans {b Bs : Nat} {A B C : World} (h : Kp b Bs A B) (k : Kp b Bs B C) : Kp b Bs A C := ⟨zK4 h.1 k.1, fun i hi => (k.2 i hi).trans (h.2 i hi)⟩
theorem Kp.of_below {b Bs n₀ : Nat} {A B : World} (h : Below n₀ A B) (h2 : 2 ≤ n₀) (hb : b < n₀) (hB : Bs < n₀) : Kp b Bs A B := ⟨h.size, fun k hk => h.block k (by omega)⟩
theorem Kp.holds {b Bs off : Nat} {A B : World} {l : List UInt8} (h : Kp b Bs A B) (hh : Holds A b off l) : Holds B b off l := fun j hj => (zKb (a := ⟨b, off + j, none⟩) (h.2 b (by simp))).trans (hh j hj)
theorem Kp.box {b Bs : Nat} {A B : World} (h : Kp b Bs A B) : B.cell? ⟨Bs, 0, none⟩ = A.cell? ⟨Bs, 0, none⟩ := zKb (a := ⟨Bs, 0, none⟩) (h.2 Bs (by simp))
theorem Kp.tabs {b Bs : Nat} {A B : World} (h : Kp b Bs A B) (hT : Lib.Utf8Tabs 0 1 A) : Lib.Utf8Tabs 0 1 B :=
 ⟨fun c hc => (zKb (a := ⟨0, c, none⟩) (h.2 0 (by simp))).trans (hT.1 c hc), fun i hi => ⟨(zKb (a := ⟨1, 2 * i, none⟩) (h.2 1 (by simp))).trans (hT.2 i hi).1, (zKb (a := ⟨1, 2 * i + 1, none⟩) (h.2 1 (by simp))).trans (hT.2 i hi).2⟩⟩
theorem zIe {b Bs : Nat} {w : World} (h2 : 2 ≤ w.heap.size) (hb : b < w.heap.size) (hB : Bs < w.heap.size) (W : World) (l : Nat) (o o' : Obj) (hl : w.heap.size ≤ l) (h : W.heap[l]? = some o) (h1 : o.isCells = false) (h3 : o.isWalk = false) : Kp b Bs W (W.putObj l o') :=
 ⟨(belowK_b (n₀ := 0) (zK8 _) W l o o' hl h h1 h3).size, fun k hk => World.putObj_heap_other (by omega)⟩
theorem zI0 {b Bs c : Nat} (h2 : 2 ≤ c) (hb : b ≠ c) (hB : Bs ≠ c) (W : World) (v : Value) : Kp b Bs W (W.setCell ⟨c, 0, none⟩ v) :=
 ⟨by simp, fun k hk => zKp W ⟨c, 0, none⟩ v k (by dsimp only; omega)⟩
theorem zfh {W W' : World} (h : Below W.heap.size W W') : W.grownBy W' none := ⟨h.os, h.tape, h.output, h.size, fun k hk _ => h.block k hk⟩
abbrev Sg (N : Nat) := { x : Nat × Nat // x.1 < N ∧ x.2 ≤ 1114111 }
def zC4 (l : List UInt8) (J Jx : List (Sg l.length) → World → Prop) (e : Ending) (W' : World) : Prop :=
 (∃ v, e = .returned v) ∧ ((∃ ys, ys.map Subtype.val = sg l 0 ∧ J ys W') ∨ (∃ pre, (∃ rest, sg l 0 = pre.map Subtype.val ++ rest) ∧ Jx pre W'))
set_option maxRecDepth 100000 in
theorem zBe (n : Nat) (hn : 1 ≤ n) (ll Bs b off cap : Nat) (l : List UInt8) (hlen : l.length ≤ 140737488351232) (hcap : l.length ≤ cap) (J Jx : List (Sg l.length) → World → Prop)
 (W : World) (h2 : 2 ≤ W.heap.size) (hb : b < W.heap.size) (hBs' : Bs < W.heap.size)
 (hJ : AbidesFrom W.heap.size J)
 (hY : ∀ pre (x : Sg l.length) W, J pre W → pre.length < l.length → YieldAt Fence.wide (n - 1) Tryz.prog ll #[.int .i64 (x.1.1 : Int), .int .i32 (x.1.2 : Int)] W fun e W' =>
  (e = .returned (.bool true) ∧ J (pre ++ [x]) W' ∧ Kp b Bs W W') ∨ (e = .returned (.bool false) ∧ Jx (pre ++ [x]) W'))
 (hBs : W.cell? ⟨Bs, 0, none⟩ = some (.slice (some ⟨b, off, none⟩) l.length cap)) (hh : Holds W b off l) (hT : Lib.Utf8Tabs 0 1 W) (h0 : J [] W) :
 CallsIn Fence.wide n Tryz.prog 124 #[.func (.yield ll) #[] #[], .pointer (some ⟨Bs, 0, none⟩)] W (zC4 l J Jx) := by
 refine callsIn_of_wp Tryz.func124 rfl trivial ?_ rfl;simp only [Tryz.ntmps124, List.size_toArray, zK2, zKc, Nat.reduceAdd, Nat.reduceSub, Array.replicate_succ, Array.replicate_zero, List.push_toArray, List.append_toArray, List.nil_append, zKj];gi_wp2
 gi_loopw [3] (fun i wr => ∃ (k : Nat) (pre : List (Sg l.length)), k ≤ l.length ∧ i = .int .i64 k ∧ pre.length ≤ k ∧ sg l 0 = pre.map Subtype.val ++ sg (l.drop k) k ∧ J pre wr ∧ Kp b Bs W wr ∧ W.heap.size ≤ wr.heap.size)
  (fun i _ => l.length - (intOf i).toNat)
 case atStart => exact ⟨0, [], zK8 _, rfl, zJw _, rfl, h0, Kp.refl _ _ _, zJw _⟩
 case round =>
  obtain ⟨k, pre, hk, rfl, hpk, hsg, hJs, hK, hsz⟩ := hrel;have hSg := zJv hsg;clear hsg;have hB1 : wr.cell? ⟨Bs, 0, none⟩ = some (.slice (some ⟨b, off, none⟩) l.length cap) := hK.box.trans hBs;have hh1 : Holds wr b off l := hK.holds hh;have hT1 : Lib.Utf8Tabs 0 1 wr := hK.tabs hT;by_cases hlt : k < l.length
  · have hdec := zw9 (l.drop k) (by simp; omega) b (off + k) (cap - k) wr hT1 (hh1.drop k)
    have hbd := zbl (l.drop k) (by simp; omega);have hw := ztp (l.drop k);have hsc := zex (l.drop k) k (by simp; omega);have hsb := zhy (l.drop k) k;rw [zKa] at hdec hbd;have HC := zJv hsc;have HB := zJv hsb;clear hsc hsb;unfold isBad at HC HB;obtain ⟨r, hr⟩ : ∃ r, (D (l.drop k)).1 = r := ⟨_, rfl⟩;obtain ⟨m, hm⟩ : ∃ m, (D (l.drop k)).2 = m := ⟨_, rfl⟩;rw [hr, hm] at hdec hbd hw HC HB;clear hr hm;obtain ⟨hm1, hm4, hml, hr1⟩ := hbd;gi_wp2_with fail
    refine ⟨trivial, (callsIn_wide.2 hdec).mono ?_⟩;rintro e w1 ⟨rfl, hbw⟩;have hJ1 : J pre w1 := hJ pre wr w1 none hJs (zfh hbw) (fun r e => by cases e);have hK1 : Kp b Bs wr w1 := Kp.of_below hbw (by omega) (by omega) (by omega);obtain ⟨x, hx⟩ : ∃ x : Sg l.length, x.1 = (k, r) := ⟨⟨(k, r), hlt, hr1⟩, rfl⟩;have hYx := hY pre x w1 hJ1 (by omega);rw [hx] at hYx;obtain ⟨fn, tmps, assign, body, hy, hR⟩ := hYx;dsimp only at hy;have hsz1 := hbw.size;clear hdec;by_cases hbad : r = 65533 ∧ m = 1
    · have HN := zJv (HB.out hbad)
      clear HB HC hw;obtain ⟨rfl, rfl⟩ := hbad;have HX := zJv hx;clear hx;gi_wp2
      refine bodyPost_ret (results_none rfl _ _ _) rfl ?_;refine ⟨⟨_, rfl⟩, .inl ⟨pre, ?_, hJ1⟩⟩;rw [hSg.out, HN.out, List.append_nil]
    · have hsc := HC.out hbad
      have hs0 : sg l 0 = (pre ++ [x]).map Subtype.val ++ sg ((l.drop k).drop m) (k + m) := by
       rw [hSg.out, hsc]; simp [hx]
      have HS := zJv hs0;clear hs0;have HX := zJv hx;clear hsc HC HB hSg hx
      have H5 : ((r : Int) == 65533) = false ∨ (((r : Int) == 65533) = true ∧ ((m : Int) == 1) = false) := by
       by_cases h : r = 65533
       · right; refine ⟨by simp [h], ?_⟩
         have : m ≠ 1 := fun e => hbad ⟨h, e⟩;simp; omega
       · left; simp; omega
      clear hbad;rcases H5 with h5 | ⟨h5, h6⟩
      all_goals
       gi_wp2
       refine hR.mono ?_;rintro e W3 (⟨rfl, hJ3, hk3⟩ | ⟨rfl, hJx3⟩)
       · gi_wp2
         go_roundw
         case rel => exact ⟨k + m, pre ++ [x], by omega, by go_num, by simp; omega, by rw [HS.out, List.drop_drop], hJ3, (hK.trans hK1).trans hk3, by have := hk3.1; omega⟩
         case measure => simp [intOf]; omega
       · gi_wp2
         refine bodyPost_ret (results_none rfl _ _ _) rfl ?_;exact ⟨⟨_, rfl⟩, .inr ⟨pre ++ [x], ⟨_, HS.out⟩, hJx3⟩⟩
  · obtain rfl : k = l.length := by omega
    gi_wp2
    go_end0
    refine ⟨⟨_, rfl⟩, .inl ⟨pre, ?_, hJs⟩⟩;rw [hSg.out, zdq _ _ (by simp), List.append_nil]
set_option maxHeartbeats 2000000
attribute [local go_sem] Oper.semAt_some
def TextAt (n₀ : Nat) (W : World) (sv : Value) (l : List UInt8) : Prop :=
 (∃ a cap, (a = none → cap = 0) ∧ sv = .slice a 0 cap ∧ l = []) ∨ ∃ b off cap, sv = .slice (some ⟨b, off, none⟩) l.length cap ∧ b < n₀ ∧ l.length ≤ cap ∧ Holds W b off l
theorem TextAt.below {n₀ : Nat} {A B : World} (h : Below n₀ A B) {sv : Value} {l : List UInt8} : TextAt n₀ A sv l → TextAt n₀ B sv l
 | .inl e => .inl e
 | .inr ⟨b, off, cap, e, hb, hc, hh⟩ => .inr ⟨b, off, cap, e, hb, hc, hh.below hb h⟩
set_option maxRecDepth 100000 in
theorem zpn (n ll Bs : Nat) (a : Option Addr) (cap : Nat) (J : List (Sg ([] : List UInt8).length) → World → Prop) (W : World) (hBs : W.cell? ⟨Bs, 0, none⟩ = some (.slice a 0 cap)) (h0 : J [] W) :
 CallsIn Fence.wide n Tryz.prog 124 #[.func (.yield ll) #[] #[], .pointer (some ⟨Bs, 0, none⟩)] W fun e W' => (∃ v, e = .returned v) ∧ J [] W' := by
 refine callsIn_of_wp Tryz.func124 rfl trivial ?_ rfl;simp only [Tryz.ntmps124, List.size_toArray, zK2, zKc, Nat.reduceAdd, Nat.reduceSub, Array.replicate_succ, Array.replicate_zero, List.push_toArray, List.append_toArray, List.nil_append, zKj];gi_wp2
 gi_loopw [3] (fun i wr => i = .int .i64 0 ∧ wr = W) (fun _ _ => 0)
 case atStart => exact ⟨rfl, rfl⟩
 case round =>
  obtain ⟨rfl, rfl⟩ := hrel;gi_wp2
  go_end0
  exact ⟨⟨_, rfl⟩, h0⟩
def TextIn (b : Nat) (W : World) (sv : Value) (l : List UInt8) : Prop :=
 (∃ a cap, (a = none → cap = 0) ∧ sv = .slice a 0 cap ∧ l = []) ∨ ∃ off cap, sv = .slice (some ⟨b, off, none⟩) l.length cap ∧ l.length ≤ cap ∧ Holds W b off l
theorem TextAt.named {n₀ : Nat} {W : World} {sv : Value} {l : List UInt8} (h0 : 0 < n₀) : TextAt n₀ W sv l → ∃ b, b < n₀ ∧ TextIn b W sv l
 | .inl e => ⟨0, h0, .inl e⟩
 | .inr ⟨b, off, cap, e, hb, hc, hh⟩ => ⟨b, hb, .inr ⟨off, cap, e, hc, hh⟩⟩
theorem TextIn.kept {b : Nat} {A B : World} {sv : Value} {l : List UInt8} (h : B.heap[b]? = A.heap[b]?) : TextIn b A sv l → TextIn b B sv l
 | .inl e => .inl e
 | .inr ⟨off, cap, e, hc, hh⟩ => .inr ⟨off, cap, e, hc, fun j hj => (zKb (a := ⟨b, off + j, none⟩) h).trans (hh j hj)⟩
def encSg {N : Nat} (x : Sg N) : Array Value := #[.int .i64 (x.1.1 : Int), .int .i32 (x.1.2 : Int)]
theorem zsy (n : Nat) (hn : 1 ≤ n) (Bs b : Nat) (sv : Value) (l : List UInt8) (hlen : l.length ≤ 140737488351232) (w : World) (hBs : Bs < w.heap.size) (h2 : 2 ≤ w.heap.size) (hb : b < w.heap.size)
 (hc : w.cell? ⟨Bs, 0, none⟩ = some sv) (hI : TextIn b w sv l) (hT : Lib.Utf8Tabs 0 1 w) :
 SeqStopsK Fence.wide n Tryz.prog 124 #[.pointer (some ⟨Bs, 0, none⟩)] (encSg (N := l.length)) (Kp b Bs) (fun ys => ys.map Subtype.val = sg l 0) (fun pre => ∃ rest, sg l 0 = pre.map Subtype.val ++ rest) l.length w := fun ll J Jx W hW hJ _ hY h0 => by
 have hc' := (hW.cell (p := ⟨Bs, 0, none⟩) hBs).trans hc;have hsz := hW.size;rcases hI.kept (hW.block b hb) with ⟨a, cap, _, rfl, rfl⟩ | ⟨off, cap, rfl, hcap, hh⟩
 · exact (zpn n ll Bs a cap J W hc' h0).mono fun e W' ⟨he, hj⟩ => ⟨he, .inl ⟨[], (zdq _ _ rfl).symm, hj⟩⟩
 · exact zBe n hn ll Bs b off cap l hlen hcap J Jx W (by omega) (by omega) (by omega) hJ hY hc' hh (zgc (n₀ := w.heap.size) (by omega) hW hT) h0
theorem zww (n : Nat) (a : Option Addr) (len cap : Nat) (w : World) :
 CallsIn Fence.wide n Tryz.prog 96 #[.slice a len cap] w fun e w' => e = .returned (.func (.func 124) #[] #[.pointer (some ⟨w.heap.size, 0, none⟩)]) ∧ w' = w.alloc (.cells #[.slice a len cap] 33) := by
 refine callsIn_of_wp Tryz.func96 rfl trivial ?_ rfl;simp only [Tryz.ntmps96, List.size_toArray, zK2, zKc, Nat.reduceAdd, Nat.reduceSub, Array.replicate_succ, Array.replicate_zero, List.push_toArray, List.append_toArray, List.nil_append, zKj];gi_wp2
 go_ret;exact ⟨rfl, rfl⟩
def endZ (xs : List (Nat × Nat)) : Int := match xs.getLast? with | none => 0 | some x => x.1 + Lib.runeLen x.2
theorem zxq (xs : List (Nat × Nat)) (x : Nat × Nat) : endZ (xs ++ [x]) = x.1 + Lib.runeLen x.2 := by simp [endZ]
theorem zB5 : ∀ (n : Nat) (l : List UInt8) (k : Nat), l.length ≤ n → (sg l k = [] → bd l k = k) ∧ (∀ x, (sg l k).getLast? = some x → (x.1 : Int) + Lib.runeLen x.2 = bd l k)
 | 0, l, k, h => by
  rw [zdq l k (by omega), zcw l k (by omega)];simp
 | n + 1, l, k, h => by
  by_cases h0 : 0 < l.length
  · by_cases hb : isBad l
    · rw [zhy l k hb, zfe l k hb]
      simp
    · have hd := zbl l h0
      have ih := zB5 n (l.drop (D l).2) (k + (D l).2) (by simp only [zKa]; omega);rw [zex l k h0 hb, zd3 l k h0 hb];refine ⟨by simp, fun x hx => ?_⟩
      cases hs : sg (l.drop (D l).2) (k + (D l).2) with
      | nil =>
       rw [hs] at hx;simp at hx
       subst hx;rw [ih.1 hs, ztp l hb];simp
      | cons y ys =>
       rw [hs] at hx ih;exact ih.2 x (by simpa using hx)
  · rw [zdq l k (by omega), zcw l k (by omega)]
    simp
theorem zG1 (l : List UInt8) : endZ (sg l 0) = (bd l 0 : Nat) := by
 have h := zB5 l.length l 0 (zJw _);unfold endZ;split
 · next e => rw [h.1 (List.getLast?_eq_none_iff.1 e)]; rfl
 · next x e => exact h.2 x e
theorem zng (r : Int) : -1 ≤ Lib.runeLen r ∧ Lib.runeLen r ≤ 4 := by
 unfold Lib.runeLen; repeat' split
 all_goals omega
theorem zdp {k : IntKind} {a b : Int} (h : a = b) : Ending.returned (.int k a) = .returned (.int k b) := by rw [h]
def badOf (l : List UInt8) : Int := if bd l 0 = l.length then -1 else (bd l 0 : Nat)
set_option maxRecDepth 100000 in
theorem zGt (a : Option Addr) (len cap : Nat) (l : List UInt8) (hlen : l.length ≤ 140737488351232) (w : World) (h2 : 2 ≤ w.heap.size) (hI : TextAt w.heap.size w (.slice a len cap) l) (hT : Lib.Utf8Tabs 0 1 w) :
 Calls Tryz.prog 66 #[.slice a len cap] w fun e W' => e = .returned (.int .i64 (badOf l)) ∧ Below w.heap.size w W' := by
 refine (callsIn_wide (n := 9)).1 ?_;refine callsIn_of_wp_marks Tryz.func66 rfl trivial ?_ rfl;simp only [Tryz.ntmps66, List.size_toArray, zK2, zKc, Nat.reduceAdd, Nat.reduceSub, Array.replicate_succ, Array.replicate_zero, List.push_toArray, List.append_toArray, List.nil_append, zKj];gi_wp2_with (refine ⟨trivial, ?_⟩; gi_at_call 96; refine (zww _ _ _ _ _).mono ?_; rintro e w' ⟨rfl, rfl⟩)
 have bE := Boxed.new w 3 (.int .i64 0);have bS := Boxed.new (w.alloc (.cells #[.int .i64 0] 3)) 33 (.slice a len cap);rw [zKh] at bS;have hB0 : Below w.heap.size w ((w.alloc (.cells #[.int .i64 0] 3)).alloc (.cells #[.slice a len cap] 33)) := ((zJx _ w).alloc (zJw _) _).alloc (by simp) _;obtain ⟨tb, htb, hTI⟩ := hI.named (by omega)
 refine wpIn_rangeFunc_ownG rfl (by omega) (gf := 124) (lb := #[.pointer (some ⟨w.heap.size + 1, 0, none⟩)]) rfl trivial (enters_of Tryz.func124 (by kernel_rfl) rfl)
  (zsy 8 (by omega) (w.heap.size + 1) tb _ l hlen _ (by simp) (by simp) (by simp; omega) bS.cell (hTI.kept (hB0.block tb htb)) (zgc h2 hB0 hT)) Kp.trans (zIe (by simp) (by simp; omega) (by simp)) (zJx _ _) (fun _ => rfl)
  (fun pre W => (W.cell? ⟨w.heap.size, 0, none⟩ = some (.int .i64 (endZ (pre.map Subtype.val))) ∧ W.frozen? ⟨w.heap.size, 0, none⟩ = false) ∧ Below w.heap.size w W)
  (fun _ _ _ => False)
  (OwnFrom.and (Own.from (fun s A B row hs hg hr => ⟨cell_kept hs.1 hg hr, (frozen_kept hs.1 hg hr).trans hs.2⟩) _) (ownFrom_below (zJw _) (by simp; omega)))
  (fun _ _ _ _ _ hs _ _ => hs)
  ⟨⟨(bE.alloc _).cell, (bE.alloc _).frozen⟩, hB0⟩
  (fun x => { tmps := #[.slice a len cap, undef, .int .i64 0, .pointer (some ⟨w.heap.size, 0, none⟩), .int .i64 (x.1.1 : Int), .int .i32 (x.1.2 : Int), .slice a len cap,
   .func (.func 124) #[] #[.pointer (some ⟨w.heap.size + 1, 0, none⟩)], .int .i64 (x.1.1 : Int), .int .i32 (x.1.2 : Int), undef, undef, undef, undef, undef, undef, undef, undef, undef], defers := [] }) ?assign ?body ?done ?stop
 case assign =>
  intro ll x W K hK;unfold encSg;gi_wp2
  exact hK
 case body =>
  rintro ll pre ⟨⟨p, r⟩, hp, hr⟩ W ⟨⟨hc, hf⟩, hB⟩ _;dsimp only at hp hr ⊢;have hrl := zng (r : Int);gi_wp2_with (refine ⟨trivial, ?_⟩; gi_at_call 97; refine (CallsIn.inRound ll (callsIn_wide.2 (zsg _ _))).mono ?_; rintro e w' ⟨rfl, rfl⟩)
  refine ⟨(KeepsOthers.setCell _ _ _).from _, zI0 h2 (by omega) (by omega) _ _, ⟨?_, by rw [World.frozen?_setCell]; exact hf⟩, hB.setCell (p := ⟨w.heap.size, 0, none⟩) (zJw _) _⟩;rw [List.map_append, List.map_singleton, zxq];exact World.cell?_setCell_same' _ _ _ (by rw [hc]; rfl)
 case done =>
  rintro D ys W hD hys ⟨⟨hc, _⟩, hB⟩ hK;rw [hys, zG1] at hc;have hBW : Below w.heap.size w (W.putObj D (.deferred none)) := hB.trans (belowK_b (w := w) (zJw _) W D _ _ (by simp at hD; omega) hK rfl rfl)
  have hll : len = l.length := by
   rcases hI with ⟨_, _, _, e, rfl⟩ | ⟨_, _, _, e, _⟩
   · cases e; rfl
   · cases e; rfl
  subst hll;by_cases hbd : bd l 0 = l.length
  · have hbo : badOf l = -1 := by unfold badOf; rw [if_pos hbd]
    rw [hbd] at hc;have HO := zJv hbo;clear hbd hbo;gi_wp2
    refine ⟨by simp, .inl ⟨_, _, rfl, run_takeDeferred hK, ?_⟩⟩;refine ⟨_, results_tmp rfl _ _ _, ?_, hBW⟩;exact zdp HO.out.symm
  · have hbo : badOf l = (bd l 0 : Nat) := by unfold badOf; rw [if_neg hbd]
    obtain ⟨q, hq⟩ : ∃ q, bd l 0 = q := ⟨_, rfl⟩;rw [hq] at hc hbd hbo;have HO := zJv hbo;clear hbo hq;have hne : ((q : Int) == (l.length : Int)) = false := by simp; omega
    clear hbd;gi_wp2
    refine ⟨by simp, .inl ⟨_, _, rfl, run_takeDeferred hK, ?_⟩⟩;refine ⟨_, results_tmp rfl _ _ _, ?_, hBW⟩;exact zdp HO.out.symm
 case stop =>
  rintro D c pre W _ _ h _;exact h.elim
end Go.Proofs.YtidmeodmkcomlaaGreatDoor
