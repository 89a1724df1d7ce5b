/- The chapter's example: what is read of it. The chapter's example holds: the walk, over the whole parser. parse.Type at every text. ParseTypes: the law's walk. -/
import Derived.Lib.SlBytesConst
import Derived.Test.YtidmeodmkcomlaaGreatDoorK52
import Derived.Test.YtidmeodmkcomlaaGreatDoorCards
import Derived.Test.YtidmeodmkcomlaaGreatDoorTie
import Derived.ProofKit
import Derived.OpenShut
import Derived.LaidMore
import Derived.Lay
import Derived.PinnedBridge
import Derived.Lib.LaidU8T
import Derived.Stop.Joined
import Derived.Stop.LaidErr
set_option linter.unusedSimpArgs false
set_option linter.unusedVariables false
namespace Go.Proofs.YtidmeodmkcomlaaGreatDoor
open Go Go.Proofs Go.RowKit
theorem zbr (c : UInt8) (r : List UInt8) (k : Nat) (t : Nat × List UInt8) (n : Nat) (h : zc3 c = false) (hn : noteB (c :: r) = false) (ht : tok (c :: r) = some (t, n)) :
 lexR (c :: r) k = prep [(t.1, t.2, k)] (lexR ((c :: r).drop n) (k + n)) := by
 have hz := zcx c r h hn;have := zbw (c :: r) k t n (by rw [hz]; exact ht);rw [hz] at this;simpa using this
theorem zg3 : ∀ (l : List UInt8), (∀ c ∈ l, c.toNat < 128) → bd l 0 = l.length
 | [], _ => zcw [] 0 rfl
 | c :: r, h => by rw [zgy c r (h c (by simp)), zg3 r (fun x hx => h x (by simp [hx]))]; rfl
def exL : List UInt8 := [102, 32, 120, 46, 97]
def exT : List Tk := [(1, [102], 0), (1, [120], 2), (8, [46], 3), (1, [97], 4), (0, [], 5)]
theorem exLex : lexA exL = .ok exT := by
 have h : lexR exL 0 = .ok exT := by
  unfold exL;rw [zbr 102 _ 0 (1, [102]) 1 (by decide) (by decide) (by decide)];dsimp only [List.drop];rw [zbf 32 _ _ (by decide), zbr 120 _ _ (1, [120]) 1 (by decide) (by decide) (by decide)];dsimp only [List.drop];rw [zbr 46 _ _ (8, [46]) 1 (by decide) (by decide) (by decide)];dsimp only [List.drop];rw [zbr 97 _ _ (1, [97]) 1 (by decide) (by decide) (by decide)];dsimp only [List.drop];rw [zaz [] _ (by rw [zax]; rfl), zax];rfl
 unfold lexA;rw [if_neg (by decide), zg3 exL (by decide), if_neg (by decide), h]
def exTree : List TermD := [⟨0, 0, bs [102], 0, 0, [], [], []⟩, ⟨0, 2, bs [120], 0, 0, [], [], []⟩, ⟨13, 3, bs [97], 0, 0, [], [1], []⟩, ⟨6, 2, bs [], 0, 0, [], [0, 2], []⟩]
theorem zna : textM exT 257 St.zero = .ok () ⟨4, 0, exTree, [], [], []⟩ := by rfl
theorem zr5 (n₀ : Nat) (w : World) (cs : Array Value) (fz : Nat × Nat) (l : List UInt8) (hc : cs = (zai l).toArray) (h : w.heap.size < n₀) : TextAt n₀ (w.alloc (.cells cs 5 fz)) (.slice (some ⟨w.heap.size, 0, none⟩) l.length l.length) l := by
 subst hc;refine .inr ⟨w.heap.size, 0, l.length, rfl, h, zJw _, ?_⟩;intro j hj;have hn := World.alloc_heap_new w (.cells (zai l).toArray 5 fz);simp only [World.cell?, hn];simp [zai, zK3, zK1 hj]
set_option maxHeartbeats 8000000
theorem exPl : Pl exT := by
 intro k x hx
 match k with
 | 0 | 1 | 2 | 3 | 4 =>
  simp only [zKf, zKn, or_false] at hx;rcases hx with rfl | rfl | rfl | rfl | rfl | rfl | rfl <;> rfl
 | k + 5 => rfl
theorem zPw (a : Option Addr) (len cap : Nat) (w : World) (hl : exL.length = len) (hEnv : Env w) (hI : TextAt w.heap.size w (.slice a len cap) exL) : Calls Tryz.prog 9 #[.slice a len cap] w (zfo w (.ok ⟨exTree, [], []⟩)) := by
 have hT := zc8 exLex (by decide);exact zIh exLex hT (by decide) _ (fun B W s hB hP hk hu => zos hT exPl 257 hB hP hk hu) zna rfl (by decide) a len cap w hl hEnv hI
theorem exFew : zb1 ⟨exTree, [], []⟩ := by
 refine ⟨fun x hx => ?_, fun x hx => by simp at hx, fun x hx => by simp at hx, by simp, by simp [exTree], by simp⟩;simp only [exTree, zKf, zKn, or_false] at hx;rcases hx with rfl | rfl | rfl | rfl
 all_goals simp [zbb, bs]
 all_goals simp [ByteArray.size]
theorem znp : zbq ⟨exTree, [], []⟩ = true := by kernel_rfl
set_option maxRecDepth 100000 in
theorem zjm (w : World) (hE : Env w) : Calls Tryz.prog 8 #[] w fun e W' => e = .returned (.bool true) ∧ Below w.heap.size w W' := by
 obtain ⟨w0, hw0⟩ : ∃ w0, w.alloc (.cells #[.int .u8 102, .int .u8 32, .int .u8 120, .int .u8 46, .int .u8 97] 5 (5, 6)) = w0 := ⟨_, rfl⟩;have hb0 : Below w.heap.size w w0 := by rw [← hw0]; exact (zJx _ w).alloc (zJw _) _
 have hs0 : w0.heap.size = w.heap.size + 1 := by rw [← hw0]; simp
 have hT : TextAt w0.heap.size w0 (.slice (some ⟨w.heap.size, 0, none⟩) 5 5) exL := by
  rw [← hw0];exact zr5 _ w _ (5, 6) exL rfl (by simp)
 have cL := zPw (some ⟨w.heap.size, 0, none⟩) 5 5 w0 rfl (hE.on hb0) hT;have kc := fun (w : World) (C : Array Value) (n c : Nat) => Lib.run_convert_bytes_const (P := Tryz.prog) w 33 5 C n c Tryz.underlying33 Tryz.underlying5;clear hT;go_enter Tryz.func8, Tryz.ntmps8
 go_wp2_with fail
 refine cL.mono ?_;rintro e w1 ⟨p, rfl, hTA, hb1⟩;go_wp2_with fail
 obtain ⟨W2, hW2⟩ : ∃ W2, w1.alloc (.cells #[.slice p.a1 exTree.length p.c1, .slice p.a2 0 p.c2, .slice p.a3 0 p.c3] 27) = W2 := ⟨_, rfl⟩;obtain ⟨W3, hW3⟩ : ∃ W3, W2.alloc (.cells #[.int .i64 0, .int .i64 0, .string ⟨#[]⟩] 30) = W3 := ⟨_, rfl⟩;rw [hW2, hW3];have hb2 : Below w1.heap.size w1 W2 := by rw [← hW2]; exact (zJx _ _).alloc (zJw _) _
 have hb3 : Below W2.heap.size W2 W3 := by rw [← hW3]; exact (zJx _ _).alloc (zJw _) _
 have hX2 : Blk W2 w1.heap.size 27 #[.slice p.a1 exTree.length p.c1, .slice p.a2 0 p.c2, .slice p.a3 0 p.c3] := by rw [← hW2]; exact Blk.new w1 27 _
 have hX3 := hX2.below hb3 hX2.lt;have hb13 : Below w1.heap.size w1 W3 := hb2.trans (hb3.mono hb2.size);have hTA3 : TreeAt (Lt W3.heap.size) W3 ⟨exTree, [], []⟩ p := (hTA.keep (fun b o hb => hb13.cell (p := ⟨b, o, none⟩) hb.2)).imp (fun b hb => zJy hb.2 hb13.size)
 have cR := zhc ⟨exTree, [], []⟩ p W3 hTA3 exFew (fun x hx => by
  simp only [exTree, zKf, zKn, or_false] at hx;rcases hx with rfl | rfl | rfl | rfl
  all_goals decide)
 rw [znp] at cR;obtain ⟨b, off, hpa, hbb, hcell⟩ := hTA3.1 (by decide);obtain ⟨q, _, hq⟩ := hcell 3 _ rfl;have f0 := hq 0 _ rfl;have f1 := hq 1 _ rfl;have hbw : Below w.heap.size w W3 := hb0.trans ((hb1.trans (hb13.mono hb1.size)).mono hb0.size);have HBW := zJv hbw;have hexl : exTree.length = 4 := rfl;clear hTA hTA3 hcell hq hb0 hb1 hb2 hb3 hb13 hbw cL kc hX2;refine cR.mono ?_;rintro e w4 ⟨rfl, hb4⟩;have hX4 := hX3.below hb4 hX3.lt;have x0 := hX4.cell 0;simp only [gA, gB] at x0;have g0 := (hb4.cell (p := ⟨b, off + 3 * 8 + 0, none⟩) hbb).trans f0;have g1 := (hb4.cell (p := ⟨b, off + 3 * 8 + 1, none⟩) hbb).trans f1;rw [hpa, hexl] at x0;have HB4 := zJv hb4;clear hb4 cR f0 f1 hX3 hX4 hW2 hW3;go_wp2_with fail
 go_ret;exact ⟨rfl, HBW.out.trans (HB4.out.mono HBW.out.size)⟩
theorem zJ9 (l : List UInt8) (hs : l.length ≤ 16000) (a : Option Addr) (len cap : Nat) (w : World) (hl : l.length = len) (hEnv : Env w) (hI : TextAt w.heap.size w (.slice a len cap) l) : Calls Tryz.prog 10 #[.slice a len cap] w (zfo w (typeR l)) :=
 zzm (fun _ hT T => zgq hT T) l hs a len cap w hl hEnv hI
set_option maxHeartbeats 4000000
set_option maxRecDepth 100000 in
theorem zOe (a : Option Addr) (len cap : Nat) (w : World) (h3 : 600 < len) (hE : Env w) : Calls Tryz.prog 5 #[.slice a len cap] w fun e w' => e = .returned (.bool true) ∧ Below w.heap.size w w' := by
 have cV := zjm w hE;have hd : decide ((600 : Int) < (len : Int)) = true := by rw [zKq]; omega
 go_enter Tryz.func5, Tryz.ntmps5
 go_wp2_with fail
 refine cV.mono ?_;rintro e w1 ⟨rfl, hb1⟩;have cW := zjm w1 (hE.on hb1);have HB1 := zJv hb1;clear cV hb1;go_wp2_with fail
 refine cW.mono ?_;rintro e w2 ⟨rfl, hb2⟩;have HB2 := zJv (HB1.out.trans (hb2.mono HB1.out.size));clear cW hb2;go_wp2_with fail
 go_ret;exact ⟨rfl, HB2.out⟩
set_option maxRecDepth 100000 in
theorem zNw (l : List UInt8) (hl6 : l.length ≤ 600) (a : Option Addr) (len cap : Nat) (w : World) (hl : l.length = len) (hE : Env w) (hI : TextAt w.heap.size w (.slice a len cap) l) {c p : Nat} (hc : c ≠ 0) (hR : typeR l = .error (c, p))
 (cD : ∀ W, Env W → TextAt W.heap.size W (.slice a len cap) l → Calls Tryz.prog 13 #[.slice a len cap] W fun e w' => e = .returned (.tuple #[zNm, diagV c p]) ∧ Below W.heap.size W w') :
 Calls Tryz.prog 5 #[.slice a len cap] w fun e w' => e = .returned (.bool true) ∧ Below w.heap.size w w' := by
 have cV := zjm w hE;have hd : decide ((600 : Int) < (len : Int)) = false := by rw [zKs]; omega
 have hcb : ((c : Int) != 0) = true := by rw [bne_iff_ne]; omega
 go_enter Tryz.func5, Tryz.ntmps5
 go_wp2_with fail
 refine cV.mono ?_;rintro e w1 ⟨rfl, hb1⟩;have hE1 := hE.on hb1;have hI1 : TextAt w1.heap.size w1 (.slice a len cap) l := (hI.below hb1).more hb1.size;have cT := zJ9 l (by omega) a len cap w1 hl hE1 hI1;rw [hR] at cT;have HB1 := zJv hb1;have HE1 := zJv hE1;have HI1 := zJv hI1;have HCD := zJv cD;clear cV hb1 hE1 hI1 hE hI cD;go_wp2_with fail
 refine cT.mono ?_;rintro e w2 ⟨rfl, hb2⟩;have HB2 := zJv hb2;clear cT hb2;go_wp2_with fail
 obtain ⟨W5, hW5⟩ : ∃ W5, (w2.alloc (.cells #[.slice none 0 0, .slice none 0 0, .slice none 0 0] 27)).alloc (.cells #[.int .i64 (c : Int), .int .i64 (p : Int), .string ⟨#[]⟩] 30) = W5 := ⟨_, rfl⟩;rw [hW5];have b25 : Below w2.heap.size w2 W5 := by rw [← hW5]; exact ((zJx _ _).alloc (zJw _) _).alloc (by simp) _
 have hX0 : Blk W5 w2.heap.size 27 #[.slice none 0 0, .slice none 0 0, .slice none 0 0] := by rw [← hW5]; exact (Blk.new w2 27 _).alloc _
 have hX1 : Blk W5 (w2.heap.size + 1) 30 #[.int .i64 (c : Int), .int .i64 (p : Int), .string ⟨#[]⟩] := by
  rw [← hW5];have := Blk.new (w2.alloc (.cells #[.slice none 0 0, .slice none 0 0, .slice none 0 0] 27)) 30 #[.int .i64 (c : Int), .int .i64 (p : Int), .string ⟨#[]⟩];rwa [zKh] at this
 have b15 : Below w1.heap.size w1 W5 := HB2.out.trans (b25.mono HB2.out.size);have cR := HCD.out W5 (HE1.out.on b15) ((HI1.out.below b15).more b15.size);have H0 := zJv hX0;have H1 := zJv hX1;have B5 := zJv (HB1.out.trans (b15.mono HB1.out.size));clear b25 b15 hX0 hX1 hW5 HCD;refine cR.mono ?_;rintro e w6 ⟨rfl, hb6⟩;have Z0 := H0.out.below hb6 H0.out.lt;have Z1 := H1.out.below hb6 H1.out.lt;have p0 := Z0.cell 0;have p1 := Z0.cell 1;have p2 := Z0.cell 2;have q0 := Z1.cell 0;have q1 := Z1.cell 1;have q2 := Z1.cell 2;simp only [gA, gB, gC] at p0 p1 p2 q0 q1 q2;have lz0 := Z0.lt;have lz1 := Z1.lt;have B6 := zJv (B5.out.trans (hb6.mono B5.out.size));clear cR hb6 Z0 Z1;go_wp2_with fail
 go_ret;exact ⟨rfl, (B6.out.alloc B6.out.size _).alloc (by simp only [zKh]; have := B6.out.size; omega) _⟩
set_option maxRecDepth 100000 in
theorem zPt (l : List UInt8) (hl6 : l.length ≤ 600) (a : Option Addr) (len cap : Nat) (w : World) (hl : l.length = len) (hE : Env w) (hI : TextAt w.heap.size w (.slice a len cap) l) {tt : List TypD} (hR : typeR l = .ok ⟨[], tt, []⟩) (hD : DwnY ⟨[], tt, []⟩) (h0 : 0 < tt.length)
 (cD : ∀ W, Env W → TextAt W.heap.size W (.slice a len cap) l → Calls Tryz.prog 13 #[.slice a len cap] W fun e w' => Below W.heap.size W w' ∧ ∃ A c, e = .returned (.tuple #[.agg #[.slice none 0 0, .slice A tt.length c, .slice none 0 0], diagV 0 0]) ∧ TypsAt (fun b => W.heap.size ≤ b ∧ b < w'.heap.size) w' A tt) :
 Calls Tryz.prog 5 #[.slice a len cap] w fun e w' => e = .returned (.bool true) ∧ Below w.heap.size w w' := by
 have cV := zjm w hE;have hd : decide ((600 : Int) < (len : Int)) = false := by rw [zKs]; omega
 go_enter Tryz.func5, Tryz.ntmps5
 go_wp2_with fail
 refine cV.mono ?_;rintro e w1 ⟨rfl, hb1⟩;have hE1 := hE.on hb1;have hI1 : TextAt w1.heap.size w1 (.slice a len cap) l := (hI.below hb1).more hb1.size;have cT := zJ9 l (by omega) a len cap w1 hl hE1 hI1;rw [hR] at cT;have HB1 := zJv hb1;have HE1 := zJv hE1;have HI1 := zJv hI1;have HCD := zJv cD;have HD := zJv hD;have H0n := zJv h0;clear cV hb1 hE1 hI1 hE hI cD hD h0;go_wp2_with fail
 refine cT.mono ?_;rintro e w2 ⟨p, rfl, hTA, hb2⟩;obtain ⟨a1, c1, a2, c2, a3, c3⟩ := p;have HB2 := zJv hb2;have HTA := zJv hTA;clear cT hb2 hTA;go_wp2_with fail
 obtain ⟨W5, hW5⟩ : ∃ W5, (w2.alloc (.cells #[.slice a1 0 c1, .slice a2 tt.length c2, .slice a3 0 c3] 27)).alloc (.cells #[.int .i64 0, .int .i64 0, .string ⟨#[]⟩] 30) = W5 := ⟨_, rfl⟩;rw [hW5];have b25 : Below w2.heap.size w2 W5 := by rw [← hW5]; exact ((zJx _ _).alloc (zJw _) _).alloc (by simp) _
 have hX0 : Blk W5 w2.heap.size 27 #[.slice a1 0 c1, .slice a2 tt.length c2, .slice a3 0 c3] := by rw [← hW5]; exact (Blk.new w2 27 _).alloc _
 have hX1 : Blk W5 (w2.heap.size + 1) 30 #[.int .i64 0, .int .i64 0, .string ⟨#[]⟩] := by
  rw [← hW5];have := Blk.new (w2.alloc (.cells #[.slice a1 0 c1, .slice a2 tt.length c2, .slice a3 0 c3] 27)) 30 #[.int .i64 0, .int .i64 0, .string ⟨#[]⟩];rwa [zKh] at this
 have b15 : Below w1.heap.size w1 W5 := HB2.out.trans (b25.mono HB2.out.size);have cR := HCD.out W5 (HE1.out.on b15) ((HI1.out.below b15).more b15.size);have H0 := zJv hX0;have H1 := zJv hX1;have B5 := zJv (HB1.out.trans (b15.mono HB1.out.size));have HT5 : Hid (TreeAt (Lt W5.heap.size) W5 ⟨[], tt, []⟩ ⟨a1, c1, a2, c2, a3, c3⟩) := zJv ((HTA.out.keep (fun b o hb => b25.cell (p := ⟨b, o, none⟩) hb.2)).imp (fun b hb => zJy hb.2 b25.size));clear b25 b15 hX0 hX1 hW5 HCD;refine cR.mono ?_;rintro e w6 ⟨hb6, A, c6, rfl, hty⟩;have HT6 : Hid (TreeAt (Lt w6.heap.size) w6 ⟨[], tt, []⟩ ⟨a1, c1, a2, c2, a3, c3⟩) := zJv ((HT5.out.keep (fun b o hb => hb6.cell (p := ⟨b, o, none⟩) hb)).imp (fun b hb => zJy hb hb6.size));have HU6 : Hid (TreeAt (Lt w6.heap.size) w6 ⟨[], tt, []⟩ ⟨none, 0, A, c6, none, 0⟩) := zJv ⟨fun h => by simp at h, hty.imp (fun b q => q.2), fun h => by simp at h⟩;have Z0 := H0.out.below hb6 H0.out.lt;have Z1 := H1.out.below hb6 H1.out.lt;have p0 := Z0.cell 0;have p1 := Z0.cell 1;have p2 := Z0.cell 2;have q0 := Z1.cell 0;have q1 := Z1.cell 1;have q2 := Z1.cell 2;simp only [gA, gB, gC] at p0 p1 p2 q0 q1 q2;have lz0 := Z0.lt;have lz1 := Z1.lt;have B6 := zJv (B5.out.trans (hb6.mono B5.out.size));have B56 := zJv hb6;clear cR hb6 Z0 Z1 hty;have hn1 : tt.length ≤ 1000000 := HD.out.n2;have hn0 : 0 < tt.length := H0n.out;go_wp2_with fail
 obtain ⟨W8, hW8⟩ : ∃ W8, (w6.alloc (.cells #[.slice none 0 0, .slice A tt.length c6, .slice none 0 0] 27)).alloc (.cells #[.int .i64 0, .int .i64 0, .string ⟨#[]⟩] 30) = W8 := ⟨_, rfl⟩;rw [hW8];have b68 : Below w6.heap.size w6 W8 := by rw [← hW8]; exact ((zJx _ _).alloc (zJw _) _).alloc (by simp) _
 have hX8 : Blk W8 w6.heap.size 27 #[.slice none 0 0, .slice A tt.length c6, .slice none 0 0] := by rw [← hW8]; exact (Blk.new w6 27 _).alloc _
 have e1 : ((tt.length : Int) - 1) = ((tt.length - 1 : Nat) : Int) := by omega
 have hT8 : TreeAt (Lt W8.heap.size) W8 ⟨[], tt, []⟩ ⟨a1, c1, a2, c2, a3, c3⟩ := (HT6.out.keep (fun b o hb => b68.cell (p := ⟨b, o, none⟩) hb)).imp (fun b hb => zJy hb b68.size);have hU8 : TreeAt (Lt W8.heap.size) W8 ⟨[], tt, []⟩ ⟨none, 0, A, c6, none, 0⟩ := (HU6.out.keep (fun b o hb => b68.cell (p := ⟨b, o, none⟩) hb)).imp (fun b hb => zJy hb b68.size);have cS := zOr ⟨[], tt, []⟩ ⟨[], tt, []⟩ ⟨a1, c1, a2, c2, a3, c3⟩ ⟨none, 0, A, c6, none, 0⟩ HD.out HD.out tt.length (tt.length - 1) (tt.length - 1) (by omega) (by show tt.length - 1 < tt.length; omega) (by show tt.length - 1 < tt.length; omega) W8 hT8 hU8;rw [zOt ⟨[], tt, []⟩ HD.out tt.length (tt.length - 1) (by omega) (by show tt.length - 1 < tt.length; omega), ← e1] at cS;have b58 := B56.out.trans (b68.mono B56.out.size);have Z0 := H0.out.below b58 H0.out.lt;have HZ := zJv Z0;have HX8 := zJv hX8;have HT8 := zJv hT8;have HU8 := zJv hU8;have B8 := zJv (B6.out.trans (b68.mono B6.out.size));have hl6 := b68.size;clear b68 b58 Z0 hX8 hT8 hU8 hW8 p0 p1 p2 q0 q1 q2;refine cS.mono ?_;rintro e w9 ⟨rfl, hb9⟩;have Z0 := HZ.out.below hb9 HZ.out.lt;have Z8 := HX8.out.below hb9 HX8.out.lt;have p0 := Z0.cell 0;have p1 := Z0.cell 1;have p2 := Z0.cell 2;have q0 := Z8.cell 0;have q1 := Z8.cell 1;have q2 := Z8.cell 2;simp only [gA, gB, gC] at p0 p1 p2 q0 q1 q2;have lz0 := Z0.lt;have lz8 := Z8.lt;have cU := zig ⟨[], tt, []⟩ ⟨a1, c1, a2, c2, a3, c3⟩ ⟨none, 0, A, c6, none, 0⟩ HD.out.kid (fun x hx => (HD.out.few x hx).2) HD.out.n2 HD.out.n1 HD.out.n3 tt.length (tt.length - 1) (by omega) (by show tt.length - 1 < tt.length; omega) w9 ((HT8.out.keep (fun b o hb => hb9.cell (p := ⟨b, o, none⟩) hb)).imp (fun b hb => zJy hb hb9.size)) ((HU8.out.keep (fun b o hb => hb9.cell (p := ⟨b, o, none⟩) hb)).imp (fun b hb => zJy hb hb9.size));rw [← e1] at cU;have B9 := zJv (B8.out.trans (hb9.mono B8.out.size));clear cS Z0 Z8 hb9 e1;go_wp2_with fail
 refine cU.mono ?_;rintro e w10 ⟨rfl, hb10⟩;have B10 := zJv (B9.out.trans (hb10.mono B9.out.size));clear cU hb10;go_wp2_with fail
 go_ret;exact ⟨rfl, B10.out⟩
theorem zOy (l : List UInt8) (a : Option Addr) (len cap : Nat) (w : World) (hl : l.length = len) (hE : Env w) (hI : TextAt w.heap.size w (.slice a len cap) l) : Calls Tryz.prog 5 #[.slice a len cap] w fun e w' => e = .returned (.bool true) ∧ Below w.heap.size w w' := by
 by_cases h6 : 600 < len
 · exact zOe a len cap w h6 hE
 have hl6 : l.length ≤ 600 := by omega
 have cd := fun (W : World) (h1 : Env W) (h2 : TextAt W.heap.size W (.slice a len cap) l) => zPv l (by omega) a len cap W hl h1 h2;unfold zNn at cd
 cases hA : lexA l with
 | error e =>
  obtain ⟨c, p⟩ := e;rw [hA] at cd;exact zNw l hl6 a len cap w hl hE hI (ziu hA) (by unfold typeR readM; rw [hA]) (fun W h1 h2 => (cd W h1 h2).mono (fun e w' h => ⟨h.2, h.1⟩))
 | ok ts =>
  rw [hA] at cd;obtain ⟨s, hs, ⟨hb, hR⟩ | ⟨hb, hc, hp, hR, hD, h0⟩⟩ := zO7 (by omega) hA
  · refine zNw l hl6 a len cap w hl hE hI (by simpa [Dst.bad] using hb) hR (fun W h1 h2 => (cd W h1 h2).mono (fun e w' h => ⟨?_, h.1⟩))
    have := h.2 s hs;rwa [hb, if_pos rfl] at this
  · refine zPt l hl6 a len cap w hl hE hI hR hD h0 (fun W h1 h2 => (cd W h1 h2).mono (fun e w' h => ⟨h.1, ?_⟩))
    have := h.2 s hs;rwa [hb, if_neg (by simp), hc, hp] at this
end Go.Proofs.YtidmeodmkcomlaaGreatDoor
namespace Go.Proofs.YtidmeodmkcomlaaGreatDoor
open Go Go.Proofs Go.RowKit Go.Shelf Go.Lib
open Go.ChangeShapes Go.WideShapes Go.ChangeAt
theorem own : ownKnob Tryz.prog.godebug = none := by kernel_rfl
theorem zJg : laidOutB Tryz.prog = true := by kernel_rfl
def laid2 : List (String × DataW Unit) := Rows.parseRowsRow.laid
def zr2 : Ren := ⟨fun n => n, fun | 5 => 5 | 119 => 160 | 138 => 162 | 139 => 163 | n => n, fun | 3 => 0 | 4 => 1 | n => n⟩
theorem zD9 : U8Types Tryz.prog zr2 := ⟨by kernel_rfl, by kernel_rfl, by kernel_rfl, by kernel_rfl⟩
theorem zBn : U8Extra Tryz.prog zr2 := ⟨by kernel_rfl, by kernel_rfl, by kernel_rfl, by kernel_rfl, by kernel_rfl, by kernel_rfl, by kernel_rfl⟩
theorem zzp : (Rows.laid_unicode_utf8_acceptRanges : DataW Unit) = acceptData := by kernel_rfl
theorem zDq : Rows.laid_unicode_utf8_first = firstData := Pinned.utf8First_eq
theorem gER : Tryz.prog.globalNamed "strconv.ErrRange" = some 5 := by kernel_rfl
theorem zGd : (Tryz.prog.globals[5]?).map (·.type) = some 145 := by kernel_rfl
theorem zJ3 : Tryz.prog.cellsOf 182 = 1 := by kernel_rfl
theorem zIw : Tryz.prog.cellsOf 9 = 1 := by kernel_rfl
def nmES : String := match (Rows.laid_strconv_ErrRange : DataW Unit) with
 | .iface n _ => n
 | _ => ""
theorem rowE (u : TypeId) (h : Tryz.prog.typeName? 3 u = some nmES) : u = 180 :=
 typeName_ptr_named (nm := "errors.errorString") (by kernel_rfl) (by kernel_rfl) (by decide) u (h.trans (congrArg some (by kernel_rfl)))
theorem zkh {W : World} (h : laidMetH Tryz.prog laid2 W) : Env W := by
 rw [MakeChecks.laidMetH_plain _ _ _ (by kernel_rfl)] at h;have hT : Lib.Utf8Tabs 0 1 W := utf8Tabs_of_readsT (ρ := zr2) zD9 zBn (zDq ▸ Lib.laidMet.reads h (.tail _ (.tail _ (.tail _ (.tail _ (.tail _ (.tail _ (.head _)))))))) (zzp ▸ Lib.laidMet.reads h (.tail _ (.tail _ (.tail _ (.head _)))));obtain ⟨a, s, hv, _⟩ := laid_sentinel (h.tail.tail.tail.tail) gER zGd Tryz.underlying145 rowE Tryz.underlying180 Tryz.underlying182 rfl rfl Tryz.underlying9 zJ3 zIw
 have hc : W.cell? ⟨5, 0, none⟩ = some (.iface 180 (.pointer (some a))) := by
  have := World.var?_cell gER hv 0;simpa using this
 exact ⟨hT, ⟨180, _, hc⟩, by have := block_lt_of_cell hc; dsimp only at this; omega⟩
def IsRow (w : World) (a : Option Addr) (len cap : Nat) (zs : List Int) : Prop :=
 (a = none ∧ len = 0 ∧ cap = 0 ∧ zs = []) ∨
 ∃ x, a = some x ∧ len ≤ cap ∧ cap ≤ maxLen ∧ zs.length = cap ∧ (∀ i, i < zs.length → w.cell? (x.add i) = some (.int .u8 (zs.getD i 0))) ∧ ∀ n ∈ zs, (Lit.int .u8 n).wf = true
theorem zJ4 {w : World} {a : Option Addr} {len cap : Nat} {zs : List Int} (h : IsRow w a len cap zs) : ∃ l : List UInt8, l.length = len ∧ TextAt w.heap.size w (.slice a len cap) l := by
 rcases h with ⟨rfl, rfl, rfl, _⟩ | ⟨x, rfl, hlc, _, hz, hc, hw⟩
 · exact ⟨[], rfl, .inl ⟨none, 0, fun _ => rfl, rfl, rfl⟩⟩
 · by_cases h0 : len = 0
   · subst h0
     exact ⟨[], rfl, .inl ⟨some x, cap, (fun e => by cases e), rfl, rfl⟩⟩
   · obtain ⟨b, off, rfl, hcell⟩ := ints_at hc (by omega)
     have hlen : ((zs.take len).map fun n => UInt8.ofNat n.toNat).length = len := by simp; omega
     refine ⟨(zs.take len).map fun n => UInt8.ofNat n.toNat, hlen, .inr ⟨b, off, cap, by rw [hlen], ?_, by omega, ?_⟩⟩
     · have := block_lt_of_cell (hcell 0 (by omega))
       simpa using this
     · intro j hj
       rw [hlen] at hj;have hjz : j < zs.length := by omega
       rw [hcell j hjz];have hm : zs[j] ∈ zs := zKe hjz;have hb := hw _ hm;have hb' : 0 ≤ zs[j] ∧ zs[j] ≤ 255 := by simpa [Lit.wf, IntKind.min, IntKind.max, IntKind.signed, IntKind.bits] using hb
       simp [hj, hjz]
       omega
end Go.Proofs.YtidmeodmkcomlaaGreatDoor
