/- The tokens of a text: the program's own functions, at every slice of bytes. -/
import Derived.Lib.SmallJoins
import Derived.Test.YtidmeodmkcomlaaGreatDoorK06
set_option linter.unusedSimpArgs false
set_option linter.unusedVariables false
namespace Go.Proofs.YtidmeodmkcomlaaGreatDoor
open Go Go.Proofs Go.RowKit
set_option maxHeartbeats 4000000
structure Env (w : World) : Prop where
 tabs : Lib.Utf8Tabs 0 1 w
 err : ∃ tp p, w.cell? ⟨5, 0, none⟩ = some (.iface tp p)
 size : 6 ≤ w.heap.size
theorem Env.below {w w' : World} {n : Nat} (h : Env w) (hn : 6 ≤ n) (hb : Below n w w') (hs : 6 ≤ w'.heap.size) : Env w' :=
 ⟨zgc (by omega) hb h.tabs, by obtain ⟨tp, p, e⟩ := h.err; exact ⟨tp, p, (hb.cell (p := ⟨5, 0, none⟩) (by simp; omega)).trans e⟩, hs⟩
theorem Env.on {w w' : World} (h : Env w) (hb : Below w.heap.size w w') : Env w' := h.below h.size hb (zK4 h.size hb.size)
theorem ztw : ∀ (l : List UInt8) (n : Nat), n ≤ decV n l
 | [], n => zJw _
 | c :: r, n => by
  have := ztw r (n * 10 + (c.toNat - 48));show n ≤ decV (n * 10 + (c.toNat - 48)) r
  omega
theorem zxw (M : Nat) (hM : M = 18446744073709551615) : ∀ (l : List UInt8) (n : Nat), l.all digB = true → n ≤ M → Lib.parseUintM M n l = if decV n l ≤ M then .ok (decV n l) else .range
 | [], n, _, hn => by
  show Lib.NumEnd.ok n = if n ≤ M then _ else _
  rw [if_pos hn]; rfl
 | c :: r, n, h, hn => by
  simp only [List.all_cons, zK6] at h;have hc : 48 ≤ c.toNat ∧ c.toNat ≤ 57 := by simpa [digB] using h.1
  have hg := ztw r (n * 10 + (c.toNat - 48));have he : decV n (c :: r) = decV (n * 10 + (c.toNat - 48)) r := rfl;rw [Lib.parseUintM, if_pos hc, he];by_cases h1 : 1844674407370955162 ≤ n
  · rw [if_pos h1, if_neg (by omega)]
  · rw [if_neg h1]
    by_cases h2 : M < n * 10 + (c.toNat - 48)
    · rw [if_pos h2, if_neg (by omega)]
    · rw [if_neg h2]
      exact zxw M hM r _ h.2 (by omega)
theorem zHx (l : List UInt8) (h : l.all digB = true) (h0 : l ≠ []) : Lib.parseIntB 64 l = if decV 0 l ≤ 9223372036854775807 then .ok ((decV 0 l : Nat) : Int) else .range := by
 match l, h, h0 with
 | c :: r, h, _ =>
  have hc : 48 ≤ c.toNat ∧ c.toNat ≤ 57 := by
   simp only [List.all_cons, zK6] at h;simpa [digB] using h.1
  have hp : Lib.parseUintB 64 (c :: r) = if decV 0 (c :: r) ≤ 18446744073709551615 then .ok (decV 0 (c :: r)) else .range := by
   unfold Lib.parseUintB;rw [if_neg (by simp)];exact zxw _ (by decide) (c :: r) 0 h (by decide)
  unfold Lib.parseIntB;dsimp only;rw [if_neg (show ¬ (c.toNat = 43 ∨ c.toNat = 45) by omega), hp];by_cases h1 : decV 0 (c :: r) ≤ 18446744073709551615
  · rw [if_pos h1]
    dsimp only;by_cases h2 : decV 0 (c :: r) ≤ 9223372036854775807
    · rw [if_pos h2, if_neg (by have : (2 : Nat) ^ (64 - 1) = 9223372036854775808 := (by decide); rw [this]; omega), if_neg (by omega), if_neg (by omega)]
    · rw [if_neg h2, if_pos (by have : (2 : Nat) ^ (64 - 1) = 9223372036854775808 := (by decide); rw [this]; exact ⟨by omega, by omega⟩)]
  · rw [if_neg h1, if_neg (by omega)]
theorem zAm (l : List UInt8) : (l.take (digN l)).all digB = true := by
 match l with
 | [] => rfl
 | c :: r =>
  unfold digN;by_cases h : digB c = true
  · rw [zdg _ _ _ _ h, List.take_succ_cons, List.all_cons, h, Bool.true_and]
    have : r.take (r.takeWhile digB).length = r.takeWhile digB := List.prefix_iff_eq_take.1 (List.takeWhile_prefix _) |>.symm;rw [this, List.all_eq_true];intro x hx;exact (List.all_eq_true.1 (List.all_takeWhile (p := digB) (l := r))) x hx
  · rw [zdz _ _ _ _ (by simpa using h)]
    rfl
theorem zGg (s : ByteArray) (hs : s.size ≤ 1048576) (h1 : 1 ≤ s.size) (hd : digB (s[0]'h1) = true) (w : World) (hE : Env w) :
 Calls Tryz.prog 105 #[.string s] w fun e w' => e = .returned (.int .i64 (intN (tl s) : Nat)) ∧ Below w.heap.size w w' := by
 have cS := zEa s (by omega) w;have hn := zcl digB digB (tl s);rw [zab] at hn;have hl0 := zd6 s 0 h1;rw [List.drop_zero] at hl0;have hn1 : 1 ≤ digN (tl s) := by unfold digN; rw [hl0, zdg _ _ _ _ hd]; omega
 have hgd : (tl s).getD 0 0 = s[0] := by rw [hl0]; rfl
 have hall := zAm (tl s)
 have hI : intN (tl s) = if (digN (tl s) = 1 ∨ (s[0]'h1).toNat ≠ 48) ∧ decV 0 ((tl s).take (digN (tl s))) ≤ 9223372036854775807 then digN (tl s) else 0 := by
  unfold intN; rw [hgd]
 rw [hI];have hnn : digN (tl s) ≤ s.size := hn;have he : tl (s.extract 0 (digN (tl s))) = (tl s).take (digN (tl s)) := by rw [zcy, List.drop_zero]
 rw [← he] at hall ⊢;have hz : (s.extract 0 (digN (tl s))).size = digN (tl s) := by simp [ByteArray.size_extract]; omega
 clear hn hI hgd hl0 he hd;obtain ⟨n, hN⟩ : ∃ n, digN (tl s) = n := ⟨_, rfl⟩;rw [hN] at cS hn1 hall hnn hz ⊢;clear hN;by_cases hlead : n = 1 ∨ (s[0]'h1).toNat ≠ 48
 · have hcond : (((n : Int) > 1 : Bool) && ((s[0]'h1).toNat : Int) == 48) = false := by
    rcases hlead with h | h
    · subst h; simp
    · simp; intro _; omega
   obtain ⟨t, ht⟩ : ∃ t, s.extract 0 n = t := ⟨_, rfl⟩;rw [ht] at hall hz ⊢;have hp := zHx (tl t) hall (fun h => by have := zab t; rw [h, hz] at this; simp at this; omega);by_cases hfit : decV 0 (tl t) ≤ 9223372036854775807
   · rw [if_pos ⟨hlead, hfit⟩]
     rw [if_pos hfit] at hp;have cP := Tryz.strconv_ParseInt_10_at64_ok t (by omega) _ hp w
     have cP' : Calls Tryz.prog 130 #[.string t, .int .i64 10, .int .i64 64] w fun e w' => (∃ v : Int, e = .returned (.tuple #[.int .i64 v, .nilIface])) ∧ Below w.heap.size w w' :=
      cP.mono fun e w' ⟨h1, h2⟩ => ⟨⟨_, h1⟩, by
       rcases h2 with rfl | ⟨x, rfl⟩
       · exact zJx _ _
       · exact Go.Joins.below_bytesWorld _ _ _ _ (zJw _)⟩
     clear cP hp hfit hall;by_cases hgt : 1 < n
     · have h48 : ¬ (s[0]'h1).toNat = 48 := by omega
       clear hlead hcond;go_enter Tryz.func105, Tryz.ntmps105
       go_wp2_with (first | (go_at_call 129; refine cS.mono ?_; rintro e w' ⟨rfl, rfl⟩) | (go_at_call 130; refine cP'.mono ?_; rintro e w1 ⟨⟨v, rfl⟩, hb1⟩))
       go_ret;exact ⟨rfl, hb1⟩
     · clear hlead hcond
       go_enter Tryz.func105, Tryz.ntmps105
       go_wp2_with (first | (go_at_call 129; refine cS.mono ?_; rintro e w' ⟨rfl, rfl⟩) | (go_at_call 130; refine cP'.mono ?_; rintro e w1 ⟨⟨v, rfl⟩, hb1⟩))
       go_ret;exact ⟨rfl, hb1⟩
   · rw [if_neg (fun h => hfit h.2)]
     rw [if_neg hfit] at hp;obtain ⟨tp, p, he⟩ := hE.err;have cP := Any.strconv_ParseInt_10_at64_range Tryz.laysC174 t (by omega) hp (.iface tp p) w he (Or.inr ⟨tp, p, rfl⟩)
     have cP' : Calls Tryz.prog 130 #[.string t, .int .i64 10, .int .i64 64] w fun e w' => (∃ (v : Int) (T : TypeId) (N : Nat), e = .returned (.tuple #[.int .i64 v, .iface T (.pointer (some ⟨N, 0, none⟩))])) ∧ Below w.heap.size w w' :=
      cP.mono fun e w' ⟨N, h1, _, _, h2⟩ => ⟨⟨_, _, N, h1⟩, h2⟩
     clear cP hp hfit hall he;by_cases hgt : 1 < n
     · have h48 : ¬ (s[0]'h1).toNat = 48 := by omega
       clear hlead hcond;go_enter Tryz.func105, Tryz.ntmps105
       go_wp2_with (first | (go_at_call 129; refine cS.mono ?_; rintro e w' ⟨rfl, rfl⟩) | (go_at_call 130; refine cP'.mono ?_; rintro e w1 ⟨⟨v, T, N, rfl⟩, hb1⟩))
       go_ret;exact ⟨rfl, hb1⟩
     · clear hlead hcond
       go_enter Tryz.func105, Tryz.ntmps105
       go_wp2_with (first | (go_at_call 129; refine cS.mono ?_; rintro e w' ⟨rfl, rfl⟩) | (go_at_call 130; refine cP'.mono ?_; rintro e w1 ⟨⟨v, T, N, rfl⟩, hb1⟩))
       go_ret;exact ⟨rfl, hb1⟩
 · rw [if_neg (fun h => hlead h.1)]
   have hgt : 1 < n := by omega
   have h48 : (s[0]'h1).toNat = 48 := Classical.byContradiction fun h => hlead (.inr h);clear hlead hall;go_enter Tryz.func105, Tryz.ntmps105
   go_wp2_with (first | (go_at_call 129; refine cS.mono ?_; rintro e w' ⟨rfl, rfl⟩))
   go_ret;exact ⟨rfl, zJx _ _⟩
end Go.Proofs.YtidmeodmkcomlaaGreatDoor
namespace Go.Proofs.YtidmeodmkcomlaaGreatDoor
open Go Go.Proofs Go.RowKit
theorem zzo {n₀ : Nat} {W : World} {v : Value} {l : List UInt8} (h : TextAt n₀ W v l) (h0 : l = [] → v = .slice none 0 0) : (convert 33 9 v).run Tryz.prog W = .ok (.string ⟨l.toArray⟩) W := by
 rcases h with ⟨a, cap, _, rfl, rfl⟩ | ⟨b, off, cap, rfl, _, _, hh⟩
 · have := h0 rfl
   cases this
   rw [Go.run_convert_bytes_string (P := Tryz.prog) W 33 9 5 none 0 0 Tryz.underlying33 Tryz.underlying5 Tryz.underlying9];unfold Conv.bytesToString;simp [go_sem]
   rfl
 · by_cases hl : l = []
   · have := h0 hl
     cases this
   · refine run_convert_bytes_back W 33 9 5 ⟨b, off, none⟩ _ l Tryz.underlying33 Tryz.underlying5 Tryz.underlying9 (fun j hj => ?_)
     rw [zdo, hh j hj];simp [zK3, zK1 hj]
theorem zCe (q : UInt8) (v : List UInt8) (n : Nat) (h : strV [q] = some (v, n)) : v = [] := by
 rw [zbd] at h;split at h
 · cases h; rfl
 · split at h
   · cases h
   · split at h
     · cases h
     · rw [zck] at h; cases h
theorem zBu (c q : UInt8) (r v : List UInt8) (h : strV (c :: (r ++ [q])) = some (v, r.length + 2)) :
 (c.toNat = 92 ∧ ∃ d r' e v', r = d :: r' ∧ escB d = some e ∧ v = e :: v' ∧ strV (r' ++ [q]) = some (v', r'.length + 1)) ∨
 (¬ c.toNat = 92 ∧ ∃ v', v = c :: v' ∧ strV (r ++ [q]) = some (v', r.length + 1)) := by
 rw [zbd] at h;split at h
 · cases h
 · split at h
   · cases h
   · split at h
     · rename_i h92
       left
       refine ⟨h92, ?_⟩
       match r, h with
       | [], h =>
        simp only [List.nil_append] at h
        cases he : escB q with
        | none => rw [he] at h; cases h
        | some e => rw [he, zck] at h; cases h
       | d :: r', h =>
        simp only [zKj] at h
        cases he : escB d with
        | none => rw [he] at h; cases h
        | some e =>
         rw [he] at h;simp only [zKg, zKu] at h;obtain ⟨y, hy, h1, h2⟩ := h;refine ⟨d, r', e, y.1, rfl, he, h1.symm, ?_⟩;rw [hy];have : y.2 = r'.length + 1 := by simp at h2; omega
         rw [← this]
     · rename_i h92
       right
       simp only [zKg, zKu] at h;obtain ⟨y, hy, h1, h2⟩ := h;refine ⟨h92, y.1, h1.symm, ?_⟩;rw [hy];have : y.2 = r.length + 1 := by omega
       rw [← this]
theorem zx4 {d e : UInt8} (h : escB d = some e) : (d = 92 ∧ e = 92) ∨ (d = 34 ∧ e = 34) ∨ (d = 110 ∧ e = 10) := by
 unfold escB at h;split at h
 · rename_i c; left; cases h; exact ⟨UInt8.toNat_inj.1 c, rfl⟩
 · split at h
   · rename_i c; right; left; cases h; exact ⟨UInt8.toNat_inj.1 c, rfl⟩
   · split at h
     · rename_i c; right; right; cases h; exact ⟨UInt8.toNat_inj.1 c, rfl⟩
     · cases h
theorem zDg {w : World} {B : Nat} {v : Value} {l : List UInt8} (h : w.ownsRow B 5 1 v l.length (zai l)) (hn : l = [] → v = .slice none 0 0) : (convert 33 9 v).run Tryz.prog w = .ok (.string ⟨l.toArray⟩) w :=
 zzo (zq4 h) hn
set_option maxRecDepth 100000 in
theorem zFs (s : ByteArray) (hs : s.size ≤ 1099511627776) (h2 : 2 ≤ s.size) (v : List UInt8) (hv : strV ((tl s).drop 1) = some (v, s.size - 1)) (w : World) :
 Calls Tryz.prog 110 #[.string s] w fun e w' => e = .returned (.string ⟨v.toArray⟩) ∧ Below w.heap.size w w' := by
 obtain ⟨i, hi⟩ : ∃ i, s.extract 1 (s.size - 1) = i := ⟨_, rfl⟩;have hz : i.size = s.size - 2 := by rw [← hi]; simp [ByteArray.size_extract]; omega
 obtain ⟨q, hq⟩ : ∃ q, (tl s).drop 1 = tl i ++ [q] := by
  rw [← hi, zcy];have hl := zab s;refine ⟨(tl s)[s.size - 1]'(by omega), ?_⟩
  have e1 : (tl s).take (s.size - 1) ++ [(tl s)[s.size - 1]'(by omega)] = tl s := by
   rw [← zK9 (by omega), show s.size - 1 + 1 = (tl s).length by omega, List.take_length]
  conv => lhs; rw [← e1]
  rw [List.drop_append_of_le_length (by rw [zKi, hl]; omega)]
 rw [hq] at hv;have hil := zab i;have HV : Hid (strV ((tl i).drop 0 ++ [q]) = some (v, i.size - 0 + 1)) := zJv (by rw [List.drop_zero, hv, hz]; congr 2; omega);have hsz : i.size + 2 = s.size := by omega
 obtain ⟨i5, hi5, hz0, hz1, hz2⟩ := info_parts info5;clear hq hv;obtain ⟨m, hm⟩ : ∃ m, s.size - 1 = m := ⟨_, rfl⟩;have hm1 : 1 ≤ m := by omega
 have hm2 : m ≤ s.size := by omega
 have hlow : ((s.size : Int) - 1) = (m : Int) := by omega
 rw [hm] at hi;clear hm
 have hsl : ∀ w, (Instr.slice 9 (.string s) (some (.int .i64 1)) (some (.int .i64 (m : Int))) none).run Tryz.prog w = .ok (.string i) w := fun w => by
  rw [run_slice_string w 9 s .i64 .i64 1 m Tryz.underlying9 (by omega) (by omega) (by omega), ← hi]; rfl
 go_enter Tryz.func110, Tryz.ntmps110
 go_wp2_with fail
 go_loopw [4, 5, 6] (fun b j _ wr => ∃ (k : Nat) (pre v' : List UInt8), k ≤ i.size ∧ pre.length ≤ k ∧ j = .int .i64 k ∧ Hid (v = pre ++ v' ∧ strV ((tl i).drop k ++ [q]) = some (v', i.size - k + 1)) ∧ Hid (wr.ownsRow w.heap.size 5 1 b pre.length (zai pre) ∧ (pre = [] → b = .slice none 0 0)) ∧ Below w.heap.size w wr)
  (fun _ j _ _ => i.size - (intOf j).toNat)
 case atStart => exact ⟨0, [], v, zK8 _, zJw _, rfl, zJv ⟨rfl, HV.out⟩, zJv ⟨World.ownsRow_nil _ _ _ _, fun _ => rfl⟩, zJx _ _⟩
 case round =>
  obtain ⟨k, pre, v', hk, hpk, rfl, HS, HR, hB⟩ := hrel;have hBs := hB.size;by_cases hlt : k < i.size
  · have hd := zd6 i k hlt
    have hst := HS.out.2;rw [hd, zKj] at hst;have hlen : ((tl i).drop (k + 1)).length = i.size - k - 1 := by rw [zKa, hil]; omega
    have hone := zBu (i[k]'hlt) q ((tl i).drop (k + 1)) v' (by rw [hst, show ((tl i).drop (k + 1)).length + 2 = i.size - k + 1 by omega]);have hc := (i[k]'hlt).toNat_lt;rcases hone with ⟨c92, d, r', e, v'', hr, he, hvv, hs'⟩ | ⟨c92, v'', hvv, hs'⟩
    · have hl2 : k + 1 < i.size := by
       have := congrArg List.length hr;rw [hlen] at this;simp at this
       omega
      have hd2 := zd6 i (k + 1) hl2;rw [hr] at hd2
      obtain ⟨rfl, hr2⟩ : d = i[k + 1]'hl2 ∧ r' = (tl i).drop (k + 2) := by
       simp only [List.cons.injEq] at hd2;exact hd2
      have hlen2 : ((tl i).drop (k + 2)).length = i.size - k - 2 := by rw [zKa, hil]; omega
      rw [hr2, hlen2] at hs';have HS2 : Hid (v = (pre ++ [e]) ++ v'' ∧ strV ((tl i).drop (k + 2) ++ [q]) = some (v'', i.size - (k + 2) + 1)) := zJv ⟨by rw [HS.out.1, hvv]; simp, by rw [hs', show i.size - k - 2 + 1 = i.size - (k + 2) + 1 by omega]⟩
      have ci : ∃ j : Int, (∀ w, Calls Tryz.prog 98 #[.string ⟨#[92, 34, 110]⟩, .int .u8 ((i[k + 1]'hl2).toNat : Int)] w fun e w' => e = .returned (.int .i64 j) ∧ w = w') ∧ ((j = 0 ∧ e = 92) ∨ (j = 1 ∧ e = 34) ∨ (j = 2 ∧ e = 10)) := by
       refine ⟨_, zfz ⟨#[92, 34, 110]⟩ _, ?_⟩;rcases zx4 he with ⟨h1, h2⟩ | ⟨h1, h2⟩ | ⟨h1, h2⟩
       · left; rw [h1]; exact ⟨rfl, h2⟩
       · right; left; rw [h1]; exact ⟨rfl, h2⟩
       · right; right; rw [h1]; exact ⟨rfl, h2⟩
      obtain ⟨j, ci, hj⟩ := ci;clear hd hst hlen hr hd2 hr2 hlen2 hs' he hvv HS;rcases hj with ⟨rfl, rfl⟩ | ⟨rfl, rfl⟩ | ⟨rfl, rfl⟩
      all_goals
       go_wp2_with (first | (go_at_call 98; refine (ci _).mono ?_; rintro e w' ⟨rfl, rfl⟩) | (at_builtin; refine wpList_append_own_at _ rfl _ _ 33 rfl w.heap.size 5 i5 (.int .u8 0) 1 1 Tryz.underlying33 hi5 hz0 hz1 hz2 rfl (by decide) _ pre.length (zai pre) rfl (HR.out.1.alloc _) ⟨wr.heap.size, 0, none⟩ 1 1 [_] rfl rfl (cell_one_new _ _ _) (by simp [Value.oneCell']) (by unfold maxLen; omega) (by omega) (by simp; omega) ?_))
       intro b' W1 hown hg _ _;have hbW1 : Below w.heap.size w W1 := (hB.alloc hBs _).grown hg (by simp; omega) (fun g hg => (HR.out.1.lt g hg).1);have HO := zJv hown;have hsW1 := hbW1.size;clear hown hg;go_wp2_with fail
       go_roundw
       case rel => exact ⟨k + 2, _, _, by omega, by simp; omega, by go_num, HS2, zJv ⟨by rw [ziy, zK5]; exact HO.out, by simp⟩, hbW1⟩
       case measure => simp [intOf]; omega
    · rw [hlen] at hs'
      have HS2 : Hid (v = (pre ++ [i[k]'hlt]) ++ v'' ∧ strV ((tl i).drop (k + 1) ++ [q]) = some (v'', i.size - (k + 1) + 1)) := zJv ⟨by rw [HS.out.1, hvv]; simp, by rw [hs', show i.size - k - 1 + 1 = i.size - (k + 1) + 1 by omega]⟩;clear hd hst hlen hs' hvv HS;go_wp2_with (at_builtin; refine wpList_append_own_at _ rfl _ _ 33 rfl w.heap.size 5 i5 (.int .u8 0) 1 1 Tryz.underlying33 hi5 hz0 hz1 hz2 rfl (by decide) _ pre.length (zai pre) rfl (HR.out.1.alloc _) ⟨wr.heap.size, 0, none⟩ 1 1 [_] rfl rfl (cell_one_new _ _ _) (by simp [Value.oneCell']) (by unfold maxLen; omega) (by omega) (by simp; omega) ?_)
      intro b' W1 hown hg _ _;have hbW1 : Below w.heap.size w W1 := (hB.alloc hBs _).grown hg (by simp; omega) (fun g hg => (HR.out.1.lt g hg).1);have HO := zJv hown;have hsW1 := hbW1.size;clear hown hg;go_wp2_with fail
      go_roundw
      case rel => exact ⟨k + 1, _, _, by omega, by simp; omega, by go_num, HS2, zJv ⟨by simpa [zai] using HO.out, by simp⟩, hbW1⟩
      case measure => simp [intOf]; omega
  · obtain rfl : k = i.size := by omega
    have hnil : (tl i).drop i.size = [] := List.drop_eq_nil_of_le (by omega);have hst := HS.out.2;rw [hnil, List.nil_append] at hst;have hv0 := zCe q v' _ hst;have hvp : v = pre := by rw [HS.out.1, hv0, List.append_nil]
    subst hvp;have hcv := zDg HR.out.1 HR.out.2;clear hnil hst hv0 HS;go_wp2_with fail
    go_ret;exact ⟨rfl, hB⟩
end Go.Proofs.YtidmeodmkcomlaaGreatDoor
namespace Go.Proofs.YtidmeodmkcomlaaGreatDoor
open Go Go.Proofs Go.RowKit
theorem zym (c : UInt8) : zc3 c = true ↔ c ∈ ([32, 9, 10, 13] : List UInt8) := by
 have hd : ∀ x : UInt8, c = x ↔ c.toNat = x.toNat := fun x => UInt8.toNat_inj.symm;simp only [zKf, zKn, or_false, hd, zc3, Bool.or_eq_true, zKq];constructor
 · rintro (((h | h) | h) | h)
   · exact .inl h
   · exact .inr (.inl h)
   · exact .inr (.inr (.inl h))
   · exact .inr (.inr (.inr h))
 · rintro (h | h | h | h)
   · exact .inl (.inl (.inl h))
   · exact .inl (.inl (.inr h))
   · exact .inl (.inr h)
   · exact .inr h
theorem zlm (s : ByteArray) (hs : s.size ≤ 1099511627776) (k0 : Nat) (hk0 : k0 ≤ s.size) (w : World) :
 Calls Tryz.prog 67 #[.string s, .int .i64 k0] w fun e w' => e = .returned (.int .i64 (k0 + skipN ((tl s).drop k0) : Nat)) ∧ w = w' := by
 obtain ⟨R, hR⟩ : ∃ R, k0 + skipN ((tl s).drop k0) = R := ⟨_, rfl⟩;rw [hR];have hlen := zab s;go_enter Tryz.func67, Tryz.ntmps67
 go_wp2_with fail
 go_loop [1] (fun i => ∃ k : Nat, k ≤ s.size ∧ i = .int .i64 k ∧ Hid (k + skipN ((tl s).drop k) = R)) (fun i => s.size - (intOf i).toNat)
 case atStart => exact ⟨k0, hk0, rfl, zJv hR⟩
 case round =>
  obtain ⟨k, hk, rfl, HR⟩ := hrel;by_cases hlt : k < s.size
  · have hd := zd6 s k hlt
    have hr := HR.out;have ci := zfz ⟨#[32, 9, 10, 13]⟩ (s[k]'hlt);have hn := zn9 [32, 9, 10, 13] (s[k]'hlt);have hkk : tl ⟨#[32, 9, 10, 13]⟩ = [32, 9, 10, 13] := rfl;rw [hkk] at ci;obtain ⟨i, hi⟩ : ∃ i, Lib.indexByte [32, 9, 10, 13] (s[k]'hlt) = i := ⟨_, rfl⟩;rw [hi] at ci hn;rw [← zym] at hn;clear hi hkk;by_cases hneg : i < 0
    · have hbl : zc3 (s[k]'hlt) = false := by simpa using hn.1 hneg
      have hfrom := zk3 s k;have hez : (s.extract k s.size).size = s.size - k := by simp [ByteArray.size_extract]
      have c27 := zrm (s.extract k s.size) ⟨#[47, 47]⟩ rfl (by omega);have c28 := zDs (s.extract k s.size) (by omega);have hnb : decide ((tl (s.extract k s.size)).take 2 = tl ⟨#[47, 47]⟩) = noteB ((tl s).drop k) := by rw [hfrom]; rfl
      rw [hnb] at c27;rw [hfrom] at c28;cases hb : noteB ((tl s).drop k)
      · rw [hb] at c27
        rw [hd] at hb hr;rw [zcx _ _ hbl hb] at hr;have HX := zJv hr;clear hr hd hn hb hbl hfrom hez hnb c28;go_wp2_with (first | (go_at_call 98; refine (ci _).mono ?_; rintro e w' ⟨rfl, rfl⟩) | (go_at_call 99; refine (c27 _).mono ?_; rintro e w' ⟨rfl, rfl⟩))
        go_ret;exact ⟨zdp (by have := HX.out; omega), rfl⟩
      · rw [hb] at c27
        have hn2 := zey _ hb;have hn3 := zij ((tl s).drop k);rw [zKa, hlen] at hn3;rw [zfa _ hb] at hr;obtain ⟨n, hnn⟩ : ∃ n, noteN ((tl s).drop k) = n := ⟨_, rfl⟩;rw [hnn] at hn2 hn3 hr c28;rw [List.drop_drop] at hr;have HX : Hid (k + n + skipN ((tl s).drop (k + n)) = R) := zJv (by omega);clear hr hd hn hb hbl hfrom hez hnb hnn;go_wp2_with (first | (go_at_call 98; refine (ci _).mono ?_; rintro e w' ⟨rfl, rfl⟩) | (go_at_call 99; refine (c27 _).mono ?_; rintro e w' ⟨rfl, rfl⟩) | (go_at_call 100; refine (c28 _).mono ?_; rintro e w' ⟨rfl, rfl⟩))
        go_round
        case rel => exact ⟨k + n, by omega, by go_num, HX⟩
        case measure => simp [intOf]; omega
    · have hbl : zc3 (s[k]'hlt) = true := by
       cases hx : zc3 (s[k]'hlt)
       · exact absurd (hn.2 (by rw [hx]; simp)) hneg
       · rfl
      rw [hd, zen _ _ hbl] at hr;have HX : Hid (k + 1 + skipN ((tl s).drop (k + 1)) = R) := zJv (by omega);clear hr hd hn hbl;have hi0 : 0 ≤ i := by omega
      go_wp2_with (first | (go_at_call 98; refine (ci _).mono ?_; rintro e w' ⟨rfl, rfl⟩))
      go_round
      case rel => exact ⟨k + 1, by omega, by go_num, HX⟩
      case measure => simp [intOf]; omega
  · have hr := HR.out
    have hnil : (tl s).drop k = [] := List.drop_eq_nil_of_le (by omega);rw [hnil, zax] at hr;have HX := zJv hr;clear hr hnil;go_wp2_with fail
    go_ret;exact ⟨zdp (by have := HX.out; omega), rfl⟩
def zp6 (l : List UInt8) (w : World) (e : Ending) (w' : World) : Prop :=
 ∃ kind size : Nat, e = .returned (.tuple #[.int .i64 kind, .int .i64 size]) ∧ ((size = 0 ∧ tok l = none) ∨ ∃ t, tok l = some ((kind, t), size)) ∧ Below w.heap.size w w'
theorem zew {l : List UInt8} {w w' : World} {a b : Int} (kind size : Nat) (ha : a = kind) (hb : b = size) (h : (size = 0 ∧ tok l = none) ∨ ∃ t, tok l = some ((kind, t), size)) (hw : Below w.heap.size w w') :
 zp6 l w (.returned (.tuple #[.int .i64 a, .int .i64 b])) w' := ⟨kind, size, by rw [ha, hb], h, hw⟩
theorem zxu (s : ByteArray) (hs : s.size ≤ 1048576) (h1 : 1 ≤ s.size) (w : World) (hE : Env w) : Calls Tryz.prog 68 #[.string s] w (zp6 (tl s) w) := by
 have hd := zd6 s 0 h1;rw [List.drop_zero] at hd;have hlb : leadB (tl s) = decide ((tl s).take 2 = tl ⟨#[102, 39]⟩) := rfl;have cH := zrm s ⟨#[102, 39]⟩ rfl (by omega);rw [← hlb] at cH;clear hlb;have hc := (s[0]'h1).toNat_lt
 have ht : tok (tl s) = if leadB (tl s) then (if fltB (tl s) then some ((5, (tl s).take 18), 18) else none)
  else if (s[0]'h1).toNat = 34 then (strV ((tl s).drop 1)).map fun x => ((6, x.1), x.2 + 1)
  else if (s[0]'h1).toNat = 35 then (if nameN ((tl s).drop 1) = 0 then none else some ((3, ((tl s).drop 1).take (nameN ((tl s).drop 1))), nameN ((tl s).drop 1) + 1))
  else if digB (s[0]'h1) then (if intN (tl s) = 0 then none else some ((4, (tl s).take (intN (tl s))), intN (tl s)))
  else if lowB (s[0]'h1) then some ((if isW ((tl s).take (nameN (tl s))) then 7 else 1, (tl s).take (nameN (tl s))), nameN (tl s))
  else if highB (s[0]'h1) then some ((2, (tl s).take (zc4 (tl s))), zc4 (tl s))
  else if signN (tl s) = 0 then none
  else some ((8, (tl s).take (signN (tl s))), signN (tl s)) := by
  conv => lhs; rw [hd]
  rw [tok, ← hd]
 cases hl : leadB (tl s)
 · rw [hl] at cH ht
   rw [if_neg (by decide)] at ht;by_cases c34 : (s[0]'h1).toNat = 34
   · rw [if_pos c34] at ht
     have cS := zGl s (by omega) h1;have HT := zJv ht;obtain ⟨Z, hZ⟩ : ∃ Z, strZ ((tl s).drop 1) 1 = Z := ⟨_, rfl⟩;rw [hZ] at cS;have HZ := zJv hZ;clear ht hd hl hZ;go_enter Tryz.func68, Tryz.ntmps68
     go_wp2_with (first | (go_at_call 99; refine (cH _).mono ?_; rintro e w' ⟨rfl, rfl⟩) | (go_at_call 102; refine (cS _).mono ?_; rintro e w' ⟨rfl, rfl⟩))
     go_ret2
     refine zew 6 Z rfl rfl ?_ (zJx _ _);rw [HT.out, ← HZ.out];unfold strZ
     cases strV ((tl s).drop 1) with
     | none => exact .inl ⟨rfl, rfl⟩
     | some x => exact .inr ⟨x.1, by simp; omega⟩
   · rw [if_neg c34] at ht
     by_cases c35 : (s[0]'h1).toNat = 35
     · rw [if_pos c35] at ht
       have cT := zF9 s (by omega) h1;have HT := zJv ht;obtain ⟨Z, hZ⟩ : ∃ Z, (if nameN ((tl s).drop 1) = 0 then 0 else nameN ((tl s).drop 1) + 1) = Z := ⟨_, rfl⟩;rw [hZ] at cT;have HZ := zJv hZ;clear ht hd hl hZ;go_enter Tryz.func68, Tryz.ntmps68
       go_wp2_with (first | (go_at_call 99; refine (cH _).mono ?_; rintro e w' ⟨rfl, rfl⟩) | (go_at_call 103; refine (cT _).mono ?_; rintro e w' ⟨rfl, hb⟩))
       go_ret2
       refine zew 3 Z rfl rfl ?_ hb;rw [HT.out, ← HZ.out];split
       · exact .inl ⟨rfl, rfl⟩
       · exact .inr ⟨_, rfl⟩
     · rw [if_neg c35] at ht
       have cD := zeg (s[0]'h1);cases hdg : digB (s[0]'h1)
       · rw [hdg] at ht cD
         rw [if_neg (by decide)] at ht;have cN := zsa s (by omega);cases hlo : lowB (s[0]'h1)
         · rw [hlo] at ht
           rw [if_neg (by decide)] at ht;have hn0 : nameN (tl s) = 0 := by rw [hd]; exact zdz _ _ _ _ hlo
           rw [hn0] at cN;have cA := zy8 s (by omega);cases hhi : highB (s[0]'h1)
           · rw [hhi] at ht
             rw [if_neg (by decide)] at ht;have ha0 : zc4 (tl s) = 0 := by rw [hd]; exact zdz _ _ _ _ hhi
             rw [ha0] at cA;have cG := zCg s (by omega) h1;have HT := zJv ht;clear ht hd hl hn0 ha0 hlo hhi hdg;go_enter Tryz.func68, Tryz.ntmps68
             go_wp2_with (first | (go_at_call 99; refine (cH _).mono ?_; rintro e w' ⟨rfl, rfl⟩) | (go_at_call 104; refine (cD _).mono ?_; rintro e w' ⟨rfl, rfl⟩) | (go_at_call 106; refine (cN _).mono ?_; rintro e w1 ⟨rfl, hb1⟩) | (go_at_call 108; refine (cA _).mono ?_; rintro e w2 ⟨rfl, hb2⟩) | (go_at_call 109; refine (cG _).mono ?_; rintro e w' ⟨rfl, rfl⟩))
             go_ret2
             refine zew 8 _ rfl rfl ?_ (hb1.trans (hb2.mono hb1.size));rw [HT.out];split
             · rename_i h0; exact .inl ⟨h0, rfl⟩
             · exact .inr ⟨_, rfl⟩
           · rw [hhi] at ht
             rw [if_pos rfl] at ht;have ha1 : 1 ≤ zc4 (tl s) := by rw [hd]; unfold zc4; rw [zdg _ _ _ _ hhi]; omega
             obtain ⟨a, hae⟩ : ∃ a, zc4 (tl s) = a := ⟨_, rfl⟩;rw [hae] at cA ha1 ht;have HT := zJv ht;clear ht hd hl hn0 hlo hhi hdg hae;go_enter Tryz.func68, Tryz.ntmps68
             go_wp2_with (first | (go_at_call 99; refine (cH _).mono ?_; rintro e w' ⟨rfl, rfl⟩) | (go_at_call 104; refine (cD _).mono ?_; rintro e w' ⟨rfl, rfl⟩) | (go_at_call 106; refine (cN _).mono ?_; rintro e w1 ⟨rfl, hb1⟩) | (go_at_call 108; refine (cA _).mono ?_; rintro e w2 ⟨rfl, hb2⟩))
             go_ret2
             exact zew 2 a rfl rfl (.inr ⟨_, HT.out⟩) (hb1.trans (hb2.mono hb1.size))
         · rw [hlo] at ht
           rw [if_pos rfl] at ht;have hn1 : 1 ≤ nameN (tl s) := by rw [hd]; unfold nameN; rw [zdg _ _ _ _ hlo]; omega
           have hn2 := zcl lowB zbj (tl s);rw [zab] at hn2;have hn2' : nameN (tl s) ≤ s.size := hn2;obtain ⟨a, hae⟩ : ∃ a, nameN (tl s) = a := ⟨_, rfl⟩;rw [hae] at cN hn1 ht hn2';have cW := zwr (s.extract 0 a);have he : tl (s.extract 0 a) = (tl s).take a := by rw [zcy, List.drop_zero]
           rw [he] at cW;clear hd hl hlo hdg hae he hn2;cases hw : isW ((tl s).take a)
           all_goals
            rw [hw] at cW ht;have HT := zJv ht;clear ht hw;go_enter Tryz.func68, Tryz.ntmps68
            go_wp2_with (first | (go_at_call 99; refine (cH _).mono ?_; rintro e w' ⟨rfl, rfl⟩) | (go_at_call 104; refine (cD _).mono ?_; rintro e w' ⟨rfl, rfl⟩) | (go_at_call 106; refine (cN _).mono ?_; rintro e w1 ⟨rfl, hb1⟩) | (go_at_call 107; refine (cW _).mono ?_; rintro e w2 ⟨rfl, rfl⟩))
            go_ret2
            exact zew _ a rfl rfl (.inr ⟨_, HT.out⟩) hb1
       · rw [hdg] at ht cD
         rw [if_pos rfl] at ht;have cI := zGg s hs h1 hdg w hE;have HT := zJv ht;clear ht hd hl hdg;go_enter Tryz.func68, Tryz.ntmps68
         go_wp2_with (first | (go_at_call 99; refine (cH _).mono ?_; rintro e w' ⟨rfl, rfl⟩) | (go_at_call 104; refine (cD _).mono ?_; rintro e w' ⟨rfl, rfl⟩) | (go_at_call 105; refine cI.mono ?_; rintro e w1 ⟨rfl, hb1⟩))
         go_ret2
         refine zew 4 _ rfl rfl ?_ hb1;rw [HT.out];split
         · rename_i h0; exact .inl ⟨h0, rfl⟩
         · exact .inr ⟨_, rfl⟩
 · rw [hl] at cH ht
   rw [if_pos rfl] at ht;have cF := zHi s (by omega) hl;have HT := zJv ht;obtain ⟨Z, hZ⟩ : ∃ Z, (if fltB (tl s) then 18 else 0) = Z := ⟨_, rfl⟩;rw [hZ] at cF;have HZ := zJv hZ;clear ht hd hl hZ;go_enter Tryz.func68, Tryz.ntmps68
   go_wp2_with (first | (go_at_call 99; refine (cH _).mono ?_; rintro e w' ⟨rfl, rfl⟩) | (go_at_call 101; refine (cF _).mono ?_; rintro e w' ⟨rfl, rfl⟩))
   go_ret2
   refine zew 5 Z rfl rfl ?_ (zJx _ _);rw [HT.out, ← HZ.out];split
   · exact .inr ⟨_, rfl⟩
   · exact .inl ⟨rfl, rfl⟩
end Go.Proofs.YtidmeodmkcomlaaGreatDoor
namespace Go.Proofs.YtidmeodmkcomlaaGreatDoor
open Go Go.Proofs Go.RowKit
theorem zjh : ∀ (m : Nat) (l v : List UInt8) (n : Nat), l.length ≤ m → strV l = some (v, n) → strV (l.take n) = some (v, n)
 | 0, l, v, n, h, hs => by
  obtain rfl : l = [] := List.length_eq_zero_iff.1 (by omega);rw [zck] at hs; cases hs
 | m + 1, [], v, n, h, hs => by rw [zck] at hs; cases hs
 | m + 1, c :: r, v, n, h, hs => by
  simp only [zK2] at h;rw [zbd] at hs;split at hs
  · rename_i c34
    cases hs
    rw [List.take_succ_cons, zbd, if_pos c34]
  · rename_i c34
    split at hs
    · cases hs
    · rename_i c32
      split at hs
      · rename_i c92
        match r, hs, h with
        | [], hs, _ => cases hs
        | d :: r', hs, h =>
         dsimp only at hs
         cases he : escB d with
         | none => rw [he] at hs; cases hs
         | some e =>
          rw [he] at hs;simp only [zKg, zKu] at hs;obtain ⟨y, hy, rfl, rfl⟩ := hs;have := zjh m r' y.1 y.2 (by simp at h; omega) hy;rw [List.take_succ_cons, List.take_succ_cons, zbd, if_neg c34, if_neg c32, if_pos c92];dsimp only;rw [he, this];rfl
      · rename_i c92
        simp only [zKg, zKu] at hs;obtain ⟨y, hy, rfl, rfl⟩ := hs;have := zjh m r y.1 y.2 (by omega) hy;rw [List.take_succ_cons, zbd, if_neg c34, if_neg c32, if_neg c92, this];rfl
theorem zyt {l : List UInt8} {k : Nat} {t : List UInt8} {n : Nat} (h : tok l = some ((k, t), n)) :
 (k = 3 ∧ t = (l.take n).drop 1) ∨ (k = 6 ∧ 2 ≤ n ∧ strV ((l.take n).drop 1) = some (t, n - 1)) ∨ (k ≠ 3 ∧ k ≠ 6 ∧ t = l.take n) := by
 match l, h with
 | [], h => simp [tok] at h
 | c :: r, h =>
  rw [tok] at h;split at h
  · split at h
    · cases h; exact .inr (.inr ⟨by decide, by decide, rfl⟩)
    · cases h
  split at h
  · simp only [zKg] at h
    obtain ⟨x, hx, e⟩ := h;have h1 := zk7 r.length r x (zJw _) hx;have h2 := zjh r.length r x.1 x.2 (zJw _) hx;cases e
    right; left
    refine ⟨rfl, by omega, ?_⟩;rw [List.take_succ_cons, List.drop_succ_cons, List.drop_zero, Nat.add_sub_cancel];exact h2
  split at h
  · split at h
    · cases h
    · cases h
      left
      exact ⟨rfl, by rw [List.take_succ_cons]; rfl⟩
  split at h
  · split at h
    · cases h
    · cases h; exact .inr (.inr ⟨by decide, by decide, rfl⟩)
  split at h
  · cases h
    right; right
    refine ⟨?_, ?_, rfl⟩ <;> (split <;> decide)
  split at h
  · cases h; exact .inr (.inr ⟨by decide, by decide, rfl⟩)
  split at h
  · cases h
  · cases h; exact .inr (.inr ⟨by decide, by decide, rfl⟩)
theorem zHr {a b : ByteArray} (h : a = b) : Ending.returned (.string a) = .returned (.string b) := by rw [h]
theorem zv6 (l : List UInt8) (k : Nat) (t : List UInt8) (n : Nat) (h : tok l = some ((k, t), n)) (s : ByteArray) (hs : s.size ≤ 1048576) (he : tl s = l.take n) (w : World) :
 Calls Tryz.prog 69 #[.int .i64 k, .string s] w fun e w' => e = .returned (.string ⟨t.toArray⟩) ∧ Below w.heap.size w w' := by
 have hle := zg2 h;have hsz : s.size = n := by rw [← zab, he, zKi]; omega
 have hc := zyt h;rw [← he] at hc;have hm := mk_tl s;rcases hc with ⟨rfl, rfl⟩ | ⟨rfl, h2, hv⟩ | ⟨h3, h6, rfl⟩
 · have HX : Hid (s.extract 1 n = ⟨((tl s).drop 1).toArray⟩) := zJv (by rw [← zk3, hsz]; exact mk_tl _)
   obtain ⟨T, hT⟩ : ∃ T : ByteArray, ⟨((tl s).drop 1).toArray⟩ = T := ⟨_, rfl⟩;rw [hT] at HX ⊢;clear hT hm he h;go_enter Tryz.func69, Tryz.ntmps69
   go_wp2_with fail
   go_ret;exact ⟨zHr HX.out, zJx _ _⟩
 · have cU := zFs s (by omega) (by omega) t (by rw [hv, hsz]) w
   clear hm he h hv;go_enter Tryz.func69, Tryz.ntmps69
   go_wp2_with (first | (go_at_call 110; refine cU.mono ?_; rintro e w1 ⟨rfl, hb1⟩))
   go_ret;exact ⟨rfl, hb1⟩
 · have e3 : ((k : Int) == 3) = false := by simp; omega
   have e6 : ((k : Int) == 6) = false := by simp; omega
   rw [← hm];clear hm he h h3 h6;go_enter Tryz.func69, Tryz.ntmps69
   go_wp2_with fail
   go_ret;exact ⟨rfl, zJx _ _⟩
def tkV (ts : List Tk) : List Value := ts.flatMap fun t => [.int .i64 (t.1 : Int), .string ⟨t.2.1.toArray⟩, .int .i64 (t.2.2 : Int)]
theorem zlz (a b : List Tk) : tkV (a ++ b) = tkV a ++ tkV b := by simp [tkV]
theorem zIu : (Tryz.prog.info? 77).map (fun i => (i.zero, i.size, i.bytes)) = some (some (.agg #[.int .i64 0, .string ⟨#[]⟩, .int .i64 0]), 3, 32) := by kernel_rfl
end Go.Proofs.YtidmeodmkcomlaaGreatDoor
namespace Go.Proofs.YtidmeodmkcomlaaGreatDoor
open Go Go.Proofs Go.RowKit
theorem zw8 {n₀ : Nat} {W : World} {v : Value} {l : List UInt8} (h : TextAt n₀ W v l) : (convert 33 9 v).run Tryz.prog W = .ok (.string ⟨l.toArray⟩) W := by
 rcases h with ⟨a, cap, ha, rfl, rfl⟩ | ⟨b, off, cap, rfl, _, _, hh⟩
 · rw [Go.run_convert_bytes_string (P := Tryz.prog) W 33 9 5 a 0 cap Tryz.underlying33 Tryz.underlying5 Tryz.underlying9]
   rcases a with _ | ad
   · unfold Conv.bytesToString
     simp [go_sem]
     rfl
   · rw [run_bytesToString W ad 0 cap [] (by simp [go_sem])]
     rfl
 · refine run_convert_bytes_back W 33 9 5 ⟨b, off, none⟩ _ l Tryz.underlying33 Tryz.underlying5 Tryz.underlying9 (fun j hj => ?_)
   rw [zdo, hh j hj];simp [zK3, zK1 hj]
theorem zDi {W : World} {B B' : Nat} {e : TypeId} {k : Nat} {v : Value} {n : Nat} {xs : List Value} (hb : B' ≤ B) (h : W.ownsRow B e k v n xs) : W.ownsRow B' e k v n xs := by
 refine ⟨h.1, ?_⟩;rcases h.2 with e | ⟨g, cap, cur, e, hg, rest⟩
 · exact .inl e
 · exact .inr ⟨g, cap, cur, e, zK4 hb hg, rest⟩
theorem zxi {W W' : World} {B : Nat} {e : TypeId} {k : Nat} {v : Value} {n : Nat} {xs : List Value} {row : Option Nat} (h : W.ownsRow B e k v n xs) (hg : W.grownBy W' row) (hne : v.ownBlock ≠ row ∨ v.ownBlock = none) : W'.ownsRow B e k v n xs := by
 refine ⟨h.1, ?_⟩;rcases h.2 with e | ⟨g, cap, cur, e, hb, hg2, rest⟩
 · exact .inl e
 · refine .inr ⟨g, cap, cur, e, hb, ?_, rest⟩
   rw [hg.block g (Array.getElem?_eq_some_iff.1 hg2).1 (by subst e; rcases hne with h | h; exact h; cases h)];exact hg2
theorem zhe {W W' : World} {B : Nat} {e : TypeId} {k : Nat} {v : Value} {n : Nat} {xs : List Value} (h : W.ownsRow B e k v n xs) (hb : Below W.heap.size W W') : W'.ownsRow B e k v n xs :=
 zxi h (zfh hb) (by
  rcases hv : v.ownBlock with _ | g
  · exact Or.inr rfl
  · exact Or.inl (by simp))
theorem zi6 (w : World) (x y z : Value) (t : TypeId) : ∀ j u, [x, y, z][j]? = some u → (w.alloc (.cells #[x, y, z] t)).cell? ((⟨w.heap.size, 0, none⟩ : Addr).add j) = some u := by
 intro j u hj;have hn := World.alloc_heap_new w (.cells #[x, y, z] t);rw [zdo]
 match j, hj with
 | 0, hj => simp at hj; subst hj; simp only [World.cell?, hn]; rfl
 | 1, hj => simp at hj; subst hj; simp only [World.cell?, hn]; rfl
 | 2, hj => simp at hj; subst hj; simp only [World.cell?, hn]; rfl
theorem zhi (l : List UInt8) : skipN (l.drop (skipN l)) = 0 := by
 rcases zif l.length l (zJw _) with h | ⟨c, r, h, h1, h2⟩
 · rw [h, zax]
 · rw [h, zcx c r h1 h2]
theorem zpa (l : List UInt8) (k : Nat) : lexR l k = lexR (l.drop (skipN l)) (k + skipN l) := by
 have hz := zhi l;by_cases h0 : l.drop (skipN l) = []
 · rw [zaz l k h0, zaz _ _ (by rw [hz]; exact h0), hz]; rfl
 · cases ht : tok (l.drop (skipN l)) with
   | none => rw [zcd l k h0 ht, zcd _ _ (by rw [hz]; exact h0) (by rw [hz]; exact ht), hz]; rfl
   | some x =>
    have e2 := zbw (l.drop (skipN l)) (k + skipN l) x.1 x.2 (by rw [hz]; exact ht);rw [hz, List.drop_drop] at e2;rw [zbw l k x.1 x.2 ht, e2];simp only [Nat.zero_add, Nat.add_zero]
def ResAt (B : Nat) (W : World) : Prop :=
 W.cell? ⟨B, 0, none⟩ = some (.int .i64 0) ∧ W.cell? ⟨B, 1, none⟩ = some (.int .i64 0) ∧ W.cell? ⟨B, 2, none⟩ = some (.string ⟨#[]⟩) ∧ W.frozen? ⟨B, 0, none⟩ = false ∧ W.frozen? ⟨B, 1, none⟩ = false ∧ W.frozen? ⟨B, 2, none⟩ = false
theorem zle {B : Nat} {W : World} (h : W.heap[B]? = some (.cells #[.int .i64 0, .int .i64 0, .string ⟨#[]⟩] 30)) : ResAt B W := by
 unfold ResAt World.cell? World.frozen?;simp only [h];exact ⟨rfl, rfl, rfl, rfl, rfl, rfl⟩
def zeq (B : Nat) (W : World) (x y z : Value) : World := ((W.setCell ⟨B, 0, none⟩ x).setCell ⟨B, 1, none⟩ y).setCell ⟨B, 2, none⟩ z
theorem zh1 {B : Nat} {W : World} (h : ResAt B W) (x y z : Value) : (zeq B W x y z).cell? ⟨B, 0, none⟩ = some x ∧ (zeq B W x y z).cell? ⟨B, 1, none⟩ = some y ∧ (zeq B W x y z).cell? ⟨B, 2, none⟩ = some z := by
 obtain ⟨h0, h1, h2, _⟩ := h;have n01 : ∀ (X : World) (u : Value), (X.setCell ⟨B, 1, none⟩ u).cell? ⟨B, 0, none⟩ = X.cell? ⟨B, 0, none⟩ := fun X u => zK0 X ⟨B, 1, none⟩ ⟨B, 0, none⟩ u (by simp);have n02 : ∀ (X : World) (u : Value), (X.setCell ⟨B, 2, none⟩ u).cell? ⟨B, 0, none⟩ = X.cell? ⟨B, 0, none⟩ := fun X u => zK0 X ⟨B, 2, none⟩ ⟨B, 0, none⟩ u (by simp);have n12 : ∀ (X : World) (u : Value), (X.setCell ⟨B, 2, none⟩ u).cell? ⟨B, 1, none⟩ = X.cell? ⟨B, 1, none⟩ := fun X u => zK0 X ⟨B, 2, none⟩ ⟨B, 1, none⟩ u (by simp);have n10 : ∀ (X : World) (u : Value), (X.setCell ⟨B, 0, none⟩ u).cell? ⟨B, 1, none⟩ = X.cell? ⟨B, 1, none⟩ := fun X u => zK0 X ⟨B, 0, none⟩ ⟨B, 1, none⟩ u (by simp);have n20 : ∀ (X : World) (u : Value), (X.setCell ⟨B, 0, none⟩ u).cell? ⟨B, 2, none⟩ = X.cell? ⟨B, 2, none⟩ := fun X u => zK0 X ⟨B, 0, none⟩ ⟨B, 2, none⟩ u (by simp);have n21 : ∀ (X : World) (u : Value), (X.setCell ⟨B, 1, none⟩ u).cell? ⟨B, 2, none⟩ = X.cell? ⟨B, 2, none⟩ := fun X u => zK0 X ⟨B, 1, none⟩ ⟨B, 2, none⟩ u (by simp);unfold zeq;refine ⟨?_, ?_, ?_⟩
 · rw [n02, n01]; exact World.cell?_setCell_same W ⟨B, 0, none⟩ x h0
 · rw [n12]; exact World.cell?_setCell_same _ ⟨B, 1, none⟩ y ((n10 _ _).trans h1)
 · exact World.cell?_setCell_same _ ⟨B, 2, none⟩ z ((n21 _ _).trans ((n20 _ _).trans h2))
theorem zgt {B n : Nat} {w W : World} (h : Below n w W) (hn : n ≤ B) (x y z : Value) : Below n w (zeq B W x y z) :=
 ((h.setCell (p := ⟨B, 0, none⟩) hn x).setCell (p := ⟨B, 1, none⟩) hn y).setCell (p := ⟨B, 2, none⟩) hn z
theorem zwf {B b : Nat} {W : World} {e : TypeId} {k : Nat} {v : Value} {n : Nat} {xs : List Value} (hb : B < b) (h : W.ownsRow b e k v n xs) (x y z : Value) : (zeq B W x y z).ownsRow b e k v n xs := by
 refine ⟨h.1, ?_⟩;rcases h.2 with e | ⟨g, cap, cur, e, hg, hg2, rest⟩
 · exact .inl e
 · refine .inr ⟨g, cap, cur, e, hg, ?_, rest⟩
   unfold zeq;rw [zKp _ ⟨B, 2, none⟩ _ g (by dsimp only; omega), zKp _ ⟨B, 1, none⟩ _ g (by dsimp only; omega), zKp _ ⟨B, 0, none⟩ _ g (by dsimp only; omega)];exact hg2
def zc5 (l : List UInt8) (w : World) (e : Ending) (w' : World) : Prop :=
 (match lexA l with
 | .ok ts => ∃ v, e = .returned (.tuple #[v, .agg #[.int .i64 0, .int .i64 0, .string ⟨#[]⟩]]) ∧ w'.ownsRow w.heap.size 77 3 v ts.length (tkV ts)
 | .error (c, p) => e = .returned (.tuple #[.slice none 0 0, .agg #[.int .i64 (c : Nat), .int .i64 (p : Nat), .string ⟨#[]⟩]])) ∧ Below w.heap.size w w'
set_option maxRecDepth 100000 in
theorem zd8 (a : Option Addr) (len cap : Nat) (l : List UInt8) (w : World) (hE : Env w) (hl : l.length = len) (hI : TextAt w.heap.size w (.slice a len cap) l) :
 Calls Tryz.prog 35 #[.slice a len cap] w (zc5 l w) := by
 subst hl;by_cases hlong : 1048576 < l.length
 · go_enter Tryz.func35, Tryz.ntmps35
   go_wp2_with fail
   refine bodyPost_ret (v := .tuple #[.slice none 0 0, .agg #[.int .i64 6, .int .i64 0, .string ⟨#[]⟩]]) (by simp [results, Tryz.results35, go_sem]) rfl ?_;have hA : lexA l = .error (6, 0) := by unfold lexA; rw [if_pos hlong]
   unfold zc5;rw [hA];exact ⟨rfl, (zJx _ w).alloc (zJw _) _⟩
 · have hsz := hE.size
   obtain ⟨w0, hw0⟩ : ∃ w0, w.alloc (.cells #[.int .i64 0, .int .i64 0, .string ⟨#[]⟩] 30) = w0 := ⟨_, rfl⟩;have hb0 : Below w.heap.size w w0 := by rw [← hw0]; exact (zJx _ w).alloc (zJw _) _
   have hs0 : w0.heap.size = w.heap.size + 1 := by rw [← hw0]; simp
   have hc0 : w0.heap[w.heap.size]? = some (.cells #[.int .i64 0, .int .i64 0, .string ⟨#[]⟩] 30) := by rw [← hw0]; exact World.alloc_heap_new w _
   have hE0 := hE.on hb0;have hI0 : TextAt w0.heap.size w0 (.slice a l.length cap) l := TextAt.more (by omega) (hI.below hb0);have cB := zGt a l.length cap l (by omega) w0 (by omega) hI0 hE0.tabs;by_cases hbd : bd l 0 = l.length
   · have hbo : badOf l = -1 := by unfold badOf; rw [if_pos hbd]
     rw [hbo] at cB;have HOK : Hid (∀ ts, lexR l 0 = .ok ts → lexA l = .ok ts) := zJv (fun ts h => by unfold lexA; rw [if_neg hlong, if_neg (by omega), h]);have HER : Hid (∀ p, lexR l 0 = .error p → lexA l = .error (3, p)) := zJv (fun p h => by unfold lexA; rw [if_neg hlong, if_neg (by omega), h]);clear hbo hbd;obtain ⟨s, hs⟩ : ∃ s : ByteArray, ⟨l.toArray⟩ = s := ⟨_, rfl⟩;have htl : tl s = l := by rw [← hs]; simp [tl]
     have hss : s.size = l.length := by rw [← zab, htl]
     go_enter Tryz.func35, Tryz.ntmps35
     go_wp2_with (go_at_call 66; refine cB.mono ?_; rintro e w1 ⟨rfl, hb1⟩)
     have hs1 := hb1.size;have hI1 := hI0.below hb1;have hcv := zw8 hI1;rw [hs] at hcv;have cK := zlm s (by omega) 0 (by omega);rw [Nat.zero_add, List.drop_zero, htl] at cK;rw [hcv];go_wp2_with (go_at_call 67; refine (cK _).mono ?_; rintro e w' ⟨rfl, rfl⟩)
     have hsk := zh8 l.length l (zJw _);obtain ⟨i31, hi31, hz0, hz1, hz2⟩ := info_parts zIu;have HST : Hid (lexR l 0 = prep [] (lexR (l.drop (skipN l)) (skipN l)) ∧ skipN (l.drop (skipN l)) = 0) := zJv ⟨by rw [zic, zpa l 0, Nat.zero_add], zhi l⟩;obtain ⟨k0, hk0⟩ : ∃ k0, skipN l = k0 := ⟨_, rfl⟩;rw [hk0] at HST hsk ⊢;clear hk0 cB cK hcv hI1
     go_loopw [6, 7, 8, 9] (fun ts i _ _ wr => ∃ (k : Nat) (pre : List Tk), k ≤ l.length ∧ pre.length ≤ k ∧ i = .int .i64 k ∧ Hid (lexR l 0 = prep pre (lexR (l.drop k) k) ∧ skipN (l.drop k) = 0) ∧ Hid (wr.ownsRow w0.heap.size 77 3 ts pre.length (tkV pre)) ∧ Below w0.heap.size w0 wr)
      (fun _ i _ _ _ => l.length - (intOf i).toNat)
     case atStart => exact ⟨k0, [], hsk, zK8 _, rfl, HST, zJv (World.ownsRow_nil _ _ _ _), hb1⟩
     case round =>
      obtain ⟨k, pre, hk, hpk, rfl, HS, HR, hB⟩ := hrel;have hBs := hB.size;have hblk : wr.heap[w.heap.size]? = some (.cells #[.int .i64 0, .int .i64 0, .string ⟨#[]⟩] 30) := (hB.block w.heap.size (by omega)).trans hc0;by_cases hlt : k < l.length
      · have hEr : Env wr := hE0.below hE0.size hB (by omega)
        have hez : (s.extract k l.length).size = l.length - k := by simp [ByteArray.size_extract]; omega
        have hfr := zk3 s k;rw [htl, hss] at hfr;have cF := zxu (s.extract k l.length) (by omega) (by omega) wr hEr;rw [hfr] at cF
        have hne : l.drop k ≠ [] := by
         intro h;have := congrArg List.length h;simp at this
         omega
        cases ht : tok (l.drop k) with
        | none =>
         have cF' : Calls Tryz.prog 68 #[.string (s.extract k l.length)] wr fun e w' => (∃ kind : Nat, e = .returned (.tuple #[.int .i64 kind, .int .i64 0])) ∧ Below wr.heap.size wr w' ∧ ResAt w.heap.size w' := by
          refine cF.mono fun e w' h => ?_;obtain ⟨kind, size, he, hc, hb⟩ := h;rcases hc with ⟨rfl, _⟩ | ⟨t, h⟩
          · exact ⟨⟨kind, he⟩, hb, zle ((hb.block w.heap.size (by omega)).trans hblk)⟩
          · rw [ht] at h; cases h
         have hA : lexA l = .error (3, k) := HER.out k (by rw [HS.out.1, zcd _ _ (by rw [HS.out.2]; exact hne) (by rw [HS.out.2]; exact ht), HS.out.2]; rfl);have HA := zJv hA;clear hA cF ht hne hfr;go_wp2_with fail
         with_reducible refine cF'.mono ?_
         rintro e w2 ⟨⟨kind, rfl⟩, hb2, x0, x1, x2, f0, f1, f2⟩;clear cF';go_wp2_with fail
         obtain ⟨r0, r1, r2⟩ := zh1 ⟨x0, x1, x2, f0, f1, f2⟩ (.int .i64 3) (.int .i64 (k : Int)) (.string ⟨#[]⟩);have hbX := zgt (hb0.trans ((hB.mono (by omega)).trans (hb2.mono (by omega)))) (zJw _) (.int .i64 3) (.int .i64 (k : Int)) (.string ⟨#[]⟩);unfold zeq at r0 r1 r2 hbX;refine bodyPost_ret (v := .tuple #[.slice none 0 0, .agg #[.int .i64 3, .int .i64 (k : Int), .string ⟨#[]⟩]]) (by simp [results, Tryz.results35, go_sem, r0, r1, r2]) rfl ?_;unfold zc5;rw [HA.out];exact ⟨rfl, hbX⟩
        | some x =>
         obtain ⟨⟨kind, tx⟩, n⟩ := x;have hle := zg2 ht;rw [zKa] at hle
         have cF' : Calls Tryz.prog 68 #[.string (s.extract k l.length)] wr fun e w' => e = .returned (.tuple #[.int .i64 (kind : Nat), .int .i64 (n : Nat)]) ∧ Below wr.heap.size wr w' := by
          refine cF.mono fun e w' h => ?_;obtain ⟨kind', size, he, hc, hb⟩ := h;rcases hc with ⟨_, h⟩ | ⟨t, h⟩
          · rw [ht] at h; cases h
          · rw [ht] at h
            simp only [zKt, zKu] at h;obtain ⟨⟨rfl, _⟩, rfl⟩ := h;exact ⟨he, hb⟩
         obtain ⟨sub, hsub⟩ : ∃ sub, s.extract k (k + n) = sub := ⟨_, rfl⟩;have hsubt : tl sub = (l.drop k).take n := by rw [← hsub, zcy, htl, List.drop_take]; congr 1; omega
         have hsubz : sub.size = n := by rw [← hsub]; simp [ByteArray.size_extract]; omega
         have cT := zv6 (l.drop k) kind tx n ht sub (by omega) hsubt
         have hsl : ∀ w, (Instr.slice 9 (.string s) (some (.int .i64 (k : Int))) (some (.int .i64 ((k : Int) + (n : Int)))) none).run Tryz.prog w = .ok (.string sub) w := fun w => by
          rw [run_slice_string w 9 s .i64 .i64 k ((k : Int) + (n : Int)) Tryz.underlying9 (by omega) (by omega) (by omega), ← hsub];congr 3
         have cK := zlm s (by omega) (k + n) (by omega);rw [htl] at cK;have hsk2 := zh8 (l.drop (k + n)).length (l.drop (k + n)) (zJw _);rw [zKa] at hsk2
         have HS2 : Hid (lexR l 0 = prep (pre ++ [(kind, tx, k)]) (lexR (l.drop (k + n + skipN (l.drop (k + n)))) (k + n + skipN (l.drop (k + n)))) ∧ skipN (l.drop (k + n + skipN (l.drop (k + n)))) = 0) := zJv (by
          have e1 := zbw (l.drop k) k (kind, tx) n (by rw [HS.out.2]; exact ht);rw [HS.out.2, List.drop_drop, Nat.add_zero, Nat.zero_add] at e1;have e2 := zpa (l.drop (k + n)) (k + n);rw [List.drop_drop] at e2;have e3 := zhi (l.drop (k + n));rw [List.drop_drop] at e3;refine ⟨?_, e3⟩
          rw [HS.out.1, e1, e2, zjk])
         obtain ⟨k', hk'⟩ : ∃ k', k + n + skipN (l.drop (k + n)) = k' := ⟨_, rfl⟩;rw [hk'] at HS2 cK;have hk'1 : k + n ≤ k' := by omega
         have hk'2 : k' ≤ l.length := by omega
         have cK' : ∀ w, Calls Tryz.prog 67 #[.string s, .int .i64 ((k : Int) + (n : Int))] w fun e w' => e = .returned (.int .i64 (k' : Nat)) ∧ w = w' := cK;have hn0 : ((n : Int) == 0) = false := by simp; omega
         have hn1 : 1 ≤ n := hle.1;clear cF cK ht hne hfr hez hsubt hsubz hsub hle hk' hsk2 HS hblk;go_wp2_with fail
         with_reducible refine cF'.mono ?_
         rintro e w2 ⟨rfl, hb2⟩;clear cF';go_wp2_with (first | (go_at_call 69; with_reducible refine (cT _).mono ?_; rintro e w3 ⟨rfl, hb3⟩) | (at_builtin; refine wpList_append_own_at _ rfl _ _ 56 rfl w0.heap.size 77 i31 (.agg #[.int .i64 0, .string ⟨#[]⟩, .int .i64 0]) 3 32 Tryz.underlying56 hi31 hz0 hz1 hz2 rfl (by decide) _ pre.length (tkV pre) rfl ?ra0 ⟨w3.heap.size, 0, none⟩ 1 1 [.int .i64 (kind : Int), .string ⟨tx.toArray⟩, .int .i64 (k : Int)] rfl rfl (zi6 _ _ _ _ _) (by simp [Value.oneCell']) ?ra1 ?ra2 ?ra3 ?_))
         case ra0 => exact (zhe (zhe HR.out hb2) hb3).alloc _
         case ra1 => unfold maxLen; omega
         case ra2 => omega
         case ra3 => have := hb2.size; have := hb3.size; simp; omega
         intro v1 W1 hown hg _ _;have hbX : Below w0.heap.size w0 (w3.alloc (.cells #[.int .i64 (kind : Int), .string ⟨tx.toArray⟩, .int .i64 (k : Int)] 77)) := ((hB.trans (hb2.mono hBs)).trans (hb3.mono (by have := hb2.size; omega))).alloc (by have := hb2.size; have := hb3.size; omega) _;have hbW1 : Below w0.heap.size w0 W1 := hbX.grown hg hbX.size (fun g hg => ((zhe (zhe HR.out hb2) hb3).lt g hg).1);have HO : Hid (W1.ownsRow w0.heap.size 77 3 v1 (pre ++ [(kind, tx, k)]).length (tkV (pre ++ [(kind, tx, k)]))) := zJv (by rw [hs0, zlz, zK5]; exact hown);clear hown hg hbX cT;go_wp2_with (first | (go_at_call 67; with_reducible refine (cK' _).mono ?_; rintro e w' ⟨rfl, rfl⟩))
         go_roundw
         case rel => exact ⟨k', pre ++ [(kind, tx, k)], hk'2, by simp; omega, rfl, HS2, HO, hbW1⟩
         case measure => simp [intOf]; omega
      · obtain rfl : k = l.length := by omega
        have hnil : l.drop l.length = [] := List.drop_eq_nil_of_le (zJw _);have hA : lexA l = .ok (pre ++ [(0, [], l.length)]) := HOK.out _ (by rw [HS.out.1, hnil, zaz [] _ (by rw [zax]; rfl), zax]; rfl);have HA := zJv hA;clear hA hnil HS;go_wp2_with (at_builtin; refine wpList_append_own_at _ rfl _ _ 56 rfl w0.heap.size 77 i31 (.agg #[.int .i64 0, .string ⟨#[]⟩, .int .i64 0]) 3 32 Tryz.underlying56 hi31 hz0 hz1 hz2 rfl (by decide) _ pre.length (tkV pre) rfl ?rb0 ⟨wr.heap.size, 0, none⟩ 1 1 [.int .i64 0, .string ⟨#[]⟩, .int .i64 (l.length : Int)] rfl rfl (zi6 _ _ _ _ _) (by simp [Value.oneCell']) ?rb1 ?rb2 ?rb3 ?_)
        case rb0 => exact HR.out.alloc _
        case rb1 => unfold maxLen; omega
        case rb2 => omega
        case rb3 => simp; omega
        intro v1 W1 hown hg _ _;have hbX : Below w0.heap.size w0 (wr.alloc (.cells #[.int .i64 0, .string ⟨#[]⟩, .int .i64 (l.length : Int)] 77)) := hB.alloc hBs _;have hbW1 : Below w0.heap.size w0 W1 := hbX.grown hg hbX.size (fun g hg => (HR.out.lt g hg).1);have hR1 : ResAt w.heap.size W1 := zle ((hbW1.block w.heap.size (by omega)).trans hc0);have HO : Hid (W1.ownsRow (w.heap.size + 1) 77 3 v1 (pre ++ [(0, [], l.length)]).length (tkV (pre ++ [(0, [], l.length)]))) := zJv (by rw [zlz, zK5, ← hs0]; exact hs0 ▸ hown);obtain ⟨x0, x1, x2, f0, f1, f2⟩ := hR1;clear hown hg hbX;go_wp2_with fail
        obtain ⟨r0, r1, r2⟩ := zh1 ⟨x0, x1, x2, f0, f1, f2⟩ (.int .i64 0) (.int .i64 0) (.string ⟨#[]⟩);have hbY := zgt (hb0.trans (hbW1.mono (by omega))) (zJw _) (.int .i64 0) (.int .i64 0) (.string ⟨#[]⟩);have hrow := zwf (Nat.lt_succ_self _) HO.out (.int .i64 0) (.int .i64 0) (.string ⟨#[]⟩);unfold zeq at r0 r1 r2 hbY hrow;refine bodyPost_ret (v := .tuple #[v1, .agg #[.int .i64 0, .int .i64 0, .string ⟨#[]⟩]]) (by simp [results, Tryz.results35, go_sem, r0, r1, r2]) rfl ?_;unfold zc5;rw [HA.out];exact ⟨⟨v1, rfl, zDi (by omega) hrow⟩, hbY⟩
   · have hle : bd l 0 < l.length := by
      have := bd_le l.length l 0 (zJw _);omega
     have hbo : badOf l = (bd l 0 : Nat) := by unfold badOf; rw [if_neg hbd]
     rw [hbo] at cB;have HA : Hid (lexA l = .error (2, bd l 0)) := zJv (by unfold lexA; rw [if_neg hlong, if_pos hle]);obtain ⟨q, hq⟩ : ∃ q, bd l 0 = q := ⟨_, rfl⟩;rw [hq] at cB HA
     have cB' : Calls Tryz.prog 66 #[.slice a l.length cap] w0 fun e W' => e = .returned (.int .i64 (q : Int)) ∧ Below w0.heap.size w0 W' ∧ ResAt w.heap.size W' :=
      cB.mono fun e W' ⟨h1, h2⟩ => ⟨h1, h2, zle ((h2.block w.heap.size (by omega)).trans hc0)⟩
     clear hbo hbd hle hq cB;go_enter Tryz.func35, Tryz.ntmps35
     go_wp2_with fail
     with_reducible refine cB'.mono ?_
     rintro e w1 ⟨rfl, hb1, x0, x1, x2, f0, f1, f2⟩;have hs1 := hb1.size;go_wp2_with fail
     obtain ⟨r0, r1, r2⟩ := zh1 ⟨x0, x1, x2, f0, f1, f2⟩ (.int .i64 2) (.int .i64 (q : Int)) (.string ⟨#[]⟩);have hbX := zgt (hb0.trans (hb1.mono (by omega))) (zJw _) (.int .i64 2) (.int .i64 (q : Int)) (.string ⟨#[]⟩);unfold zeq at r0 r1 r2 hbX;refine bodyPost_ret (v := .tuple #[.slice none 0 0, .agg #[.int .i64 2, .int .i64 (q : Int), .string ⟨#[]⟩]]) (by simp [results, Tryz.results35, go_sem, r0, r1, r2]) rfl ?_;unfold zc5;rw [HA.out];exact ⟨rfl, hbX⟩
end Go.Proofs.YtidmeodmkcomlaaGreatDoor
