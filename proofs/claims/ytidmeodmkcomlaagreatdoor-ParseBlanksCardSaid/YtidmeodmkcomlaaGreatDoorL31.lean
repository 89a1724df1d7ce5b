/- Parse's answer lies in blocks of its -/
import Derived.Test.YtidmeodmkcomlaaGreatDoorL30
namespace Go.Proofs.YtidmeodmkcomlaaGreatDoor
open Go Go.Proofs Go.RowKit
set_option maxHeartbeats 8000000
def Part3 (w : World) (lo : Nat) (v1 v2 v3 : Value) : Nat → Prop := fun b => lo ≤ b ∧ b < w.heap.size ∧ v1.ownBlock ≠ some b ∧ v2.ownBlock ≠ some b ∧ v3.ownBlock ≠ some b
structure OwnTree (lo : Nat) (w : World) (t : TreeD) (p : Ptr6) (r1 : List (TermD × Ptr3)) (r2 : List (TypD × Ptr2)) : Prop where
 e1 : r1.map (·.1) = t.nodes
 e2 : r2.map (·.1) = t.types
 o1 : w.ownsRow lo 38 8 (.slice p.a1 t.nodes.length p.c1) t.nodes.length (zf2 r1)
 o2 : w.ownsRow lo 40 6 (.slice p.a2 t.types.length p.c2) t.types.length (zar r2)
 o3 : w.ownsRow lo 44 3 (.slice p.a3 t.aliases.length p.c3) t.aliases.length (zd2 t.aliases)
 k1 : ∀ x ∈ r1, TermOk (Part3 w lo (.slice p.a1 t.nodes.length p.c1) (.slice p.a2 t.types.length p.c2) (.slice p.a3 t.aliases.length p.c3)) w x.1 x.2
 k2 : ∀ x ∈ r2, TypOk (Part3 w lo (.slice p.a1 t.nodes.length p.c1) (.slice p.a2 t.types.length p.c2) (.slice p.a3 t.aliases.length p.c3)) w x.1 x.2
def OwnTr (lo : Nat) (w : World) (t : TreeD) (p : Ptr6) : Prop := ∃ r1 r2, OwnTree lo w t p r1 r2
theorem zsx {w w' : World} {base base' : Nat} {e : TypeId} {s : Nat} {v : Value} {n : Nat} {xs : List Value} (h : w.ownsRow base e s v n xs) (hk : ∀ b, base ≤ b → w'.heap[b]? = w.heap[b]?) (hl : base' ≤ base) : w'.ownsRow base' e s v n xs := by
 refine ⟨h.1, ?_⟩;rcases h.2 with h0 | ⟨g, cap, cur, hv, hb, hg, hr⟩
 · exact .inl h0
 · exact .inr ⟨g, cap, cur, hv, zK4 hl hb, (hk g hb).trans hg, hr⟩
theorem OwnTr.on {lo lo' : Nat} {w w' : World} {t : TreeD} {p : Ptr6} (h : OwnTr lo w t p) (hs : w'.heap.size = w.heap.size) (hk : ∀ b, lo ≤ b → w'.heap[b]? = w.heap[b]?) (hl : lo' ≤ lo) : OwnTr lo' w' t p := by
 obtain ⟨r1, r2, h⟩ := h;refine ⟨r1, r2, h.e1, h.e2, zsx h.o1 hk hl, zsx h.o2 hk hl, zsx h.o3 hk hl, fun x hx => ?_, fun x hx => ?_⟩
 · exact ((h.k1 x hx).keep (fun b o k => zKb (a := ⟨b, o, none⟩) (hk b k.1))).imp (fun b k => ⟨zK4 hl k.1, by rw [hs]; exact k.2.1, k.2.2⟩)
 · exact ((h.k2 x hx).keep (fun b o k => zKb (a := ⟨b, o, none⟩) (hk b k.1))).imp (fun b k => ⟨zK4 hl k.1, by rw [hs]; exact k.2.1, k.2.2⟩)
theorem OwnTr.below {lo : Nat} {w w' : World} {t : TreeD} {p : Ptr6} (h : OwnTr lo w t p) (hb : Below w.heap.size w w') : OwnTr lo w' t p := by
 obtain ⟨r1, r2, h⟩ := h;refine ⟨r1, r2, h.e1, h.e2, zaj h.o1 hb, zaj h.o2 hb, zaj h.o3 hb, fun x hx => ?_, fun x hx => ?_⟩
 · exact ((h.k1 x hx).keep (fun b o k => hb.cell (p := ⟨b, o, none⟩) k.2.1)).imp (fun b k => ⟨k.1, zJy k.2.1 hb.size, k.2.2⟩)
 · exact ((h.k2 x hx).keep (fun b o k => hb.cell (p := ⟨b, o, none⟩) k.2.1)).imp (fun b k => ⟨k.1, zJy k.2.1 hb.size, k.2.2⟩)
theorem OwnTree.at_ {lo : Nat} {w : World} {t : TreeD} {p : Ptr6} {r1 : List (TermD × Ptr3)} {r2 : List (TypD × Ptr2)} (h : OwnTree lo w t p r1 r2) : TreeAt (fun b => lo ≤ b ∧ b < w.heap.size) w t p := by
 have l1 : r1.length = t.nodes.length := by rw [← h.e1, zKd]
 have l2 : r2.length = t.types.length := by rw [← h.e2, zKd]
 refine ⟨fun hl => ?_, fun hl => ?_, fun hl => ?_⟩
 · obtain ⟨g, hA, hb, hg, hc⟩ := zi4 (fun x : TermD × Ptr3 => za1 x.1 x.2) 8 (by decide) (fun a => rfl) l1 h.o1 (by omega)
   refine ⟨g, 0, hA, ⟨hb, hg⟩, fun i t ht => ?_⟩;rw [← h.e1] at ht;simp only [tac, zKg] at ht;obtain ⟨x, hx, rfl⟩ := ht;exact ⟨x.2, (h.k1 x (List.mem_of_getElem? hx)).imp (fun b k => ⟨k.1, k.2.1⟩), hc i x hx⟩
 · obtain ⟨g, hA, hb, hg, hc⟩ := zi4 (fun x : TypD × Ptr2 => za4 x.1 x.2) 6 (by decide) (fun a => rfl) l2 h.o2 (by omega)
   refine ⟨g, 0, hA, ⟨hb, hg⟩, fun i t ht => ?_⟩;rw [← h.e2] at ht;simp only [tac, zKg] at ht;obtain ⟨x, hx, rfl⟩ := ht;exact ⟨x.2, (h.k2 x (List.mem_of_getElem? hx)).imp (fun b k => ⟨k.1, k.2.1⟩), hc i x hx⟩
 · obtain ⟨g, hA, hb, hg, hc⟩ := zi4 zco 3 (by decide) (fun a => rfl) rfl h.o3 (by omega)
   exact ⟨g, 0, hA, ⟨hb, hg⟩, fun i t ht => hc i t ht⟩
theorem TreeOwn.ownT {w : World} {base cb : Nat} {ty : TypeId} {v1 v2 v3 : Value} {r1 : List (TermD × Ptr3)} {r2 : List (TypD × Ptr2)} {r3 : List AliD} (h : TreeOwn w base cb ty v1 v2 v3 r1 r2 r3) :
 ∃ p : Ptr6, v1 = .slice p.a1 r1.length p.c1 ∧ v2 = .slice p.a2 r2.length p.c2 ∧ v3 = .slice p.a3 r3.length p.c3 ∧ OwnTr base w ⟨r1.map (·.1), r2.map (·.1), r3⟩ p := by
 obtain ⟨A1, c1, rfl⟩ := za8 h.o1;obtain ⟨A2, c2, rfl⟩ := za8 h.o2;obtain ⟨A3, c3, rfl⟩ := za8 h.o3;refine ⟨⟨A1, c1, A2, c2, A3, c3⟩, rfl, rfl, rfl, r1, r2, rfl, rfl, ?_, ?_, h.o3, ?_, ?_⟩
 · simpa using h.o1
 · simpa using h.o2
 · intro x hx
   simpa using (h.k1 x hx).imp (Qb := Part3 w base (.slice A1 r1.length c1) (.slice A2 r2.length c2) (.slice A3 r3.length c3)) (fun b k => ⟨k.1, k.2.1, k.2.2.2⟩)
 · intro x hx
   simpa using (h.k2 x hx).imp (Qb := Part3 w base (.slice A1 r1.length c1) (.slice A2 r2.length c2) (.slice A3 r3.length c3)) (fun b k => ⟨k.1, k.2.1, k.2.2.2⟩)
def zmx (w : World) (t : TreeD) (e : Ending) (w' : World) : Prop := ∃ p, e = .returned (treeV t p) ∧ OwnTr w.heap.size w' t p ∧ Below w.heap.size w w'
set_option maxRecDepth 100000 in
theorem zy9 (t : TreeD) (p : Ptr6) (w : World) (hT : TreeAt (Lt w.heap.size) w t p) (n1 : t.nodes.length ≤ 65536) (n2 : t.types.length ≤ 65536) (n3 : t.aliases.length ≤ 65536)
 (hF1 : ∀ x ∈ t.nodes, x.names.length ≤ 65536 ∧ x.kids.length ≤ 65536 ∧ x.types.length ≤ 65536) (hF2 : ∀ x ∈ t.types, x.names.length ≤ 65536 ∧ x.kids.length ≤ 65536) :
 Calls Tryz.prog 72 #[treeV t p] w (zmx w t) := by
 obtain ⟨nodes, types, aliases⟩ := t;obtain ⟨a1, c1, a2, c2, a3, c3⟩ := p;obtain ⟨hN1, hN2, hN3⟩ := hT;obtain ⟨i1, hi1, hz11, hz12, hz13⟩ := info_parts zr6;obtain ⟨i2, hi2, hz21, hz22, hz23⟩ := info_parts zrd;dsimp only at *;obtain ⟨W1, hW1⟩ : ∃ W1, (w.alloc (.cells #[.slice a1 nodes.length c1, .slice a2 types.length c2, .slice a3 aliases.length c3] 27)).alloc (.cells #[.slice none 0 0, .slice none 0 0, .slice none 0 0] 27) = W1 := ⟨_, rfl⟩;have hB1 : Below w.heap.size w W1 := by rw [← hW1]; exact ((zJx _ _).alloc (zJw _) _).alloc (by simp) _
 have hX : Blk W1 w.heap.size 27 #[.slice a1 nodes.length c1, .slice a2 types.length c2, .slice a3 aliases.length c3] := by rw [← hW1]; exact (Blk.new w 27 _).alloc _
 have hY : Blk W1 (w.heap.size + 1) 27 #[.slice none 0 0, .slice none 0 0, .slice none 0 0] := by
  rw [← hW1];have := Blk.new (w.alloc (.cells #[.slice a1 nodes.length c1, .slice a2 types.length c2, .slice a3 aliases.length c3] 27)) 27 #[.slice none 0 0, .slice none 0 0, .slice none 0 0];rwa [zKh] at this
 have hs1 : W1.heap.size = w.heap.size + 2 := by rw [← hW1]; simp only [zKh]
 have kA := zo7 a3 c3 aliases W1 (zte (hN3.keep (zaa hB1))) n3;have x0 := hX.cell 0;have x1 := hX.cell 1;have x2 := hX.cell 2;simp only [gA, gB, gC] at x0 x1 x2;have HS1 := zJv hs1;have HX := zJv hX;have HY := zJv hY;clear hs1 hX hY;go_enter Tryz.func72, Tryz.ntmps72
 go_wp2_with fail
 clear hW1;refine kA.mono ?_;rintro e w2 ⟨v3, rfl, ho3, hb2⟩;obtain ⟨A3, d3, rfl⟩ := za8 ho3;clear kA;have hz2 := hb2.size;rw [HS1.out] at hb2 hz2 ho3;have hX2 := HX.out.below hb2 (by omega);have hY2 := HY.out.below hb2 (by omega);have hB2 : Below w.heap.size w w2 := hB1.trans (hb2.mono (by omega));have y0 := hX2.cell 0;have y1 := hX2.cell 1;have y2 := hX2.cell 2;simp only [gA, gB, gC] at y0 y1 y2;have l2 : w.heap.size < w2.heap.size := by omega
 have HX2 := zJv hX2;have HY2 := zJv hY2;have HO3 := zJv ho3;clear hX2 hY2 x0 x1 x2 HX HY hb2 ho3;go_wp2
 obtain ⟨W3, hW3⟩ : ∃ W3, w2.alloc (.cells #[.slice none 0 0, .slice none 0 0, .slice A3 aliases.length d3] 27) = W3 := ⟨_, rfl⟩
 have hT3 : TreeOwn W3 (w.heap.size + 2) w2.heap.size 27 (.slice none 0 0) (.slice none 0 0) (.slice A3 aliases.length d3) [] [] aliases := by
  rw [← hW3];exact ⟨Blk.new w2 27 _, .inl rfl, by omega, tal _ _ _ _, tal _ _ _ _, HO3.out.alloc _, fun _ h => by simp at h, fun _ h => by simp at h⟩
 have hB3 : Below w.heap.size w W3 := by rw [← hW3]; exact hB2.alloc (by omega) _
 have hX3 : Blk W3 w.heap.size 27 #[.slice a1 nodes.length c1, .slice a2 types.length c2, .slice a3 aliases.length c3] := by rw [← hW3]; exact HX2.out.alloc _
 have hY3 : Blk W3 (w.heap.size + 1) 27 #[.slice none 0 0, .slice none 0 0, .slice none 0 0] := by rw [← hW3]; exact HY2.out.alloc _
 have hs3 : W3.heap.size = w2.heap.size + 1 := by rw [← hW3]; simp only [zKh]
 rw [hW3];obtain ⟨cb, hcb⟩ : ∃ cb, w2.heap.size = cb := ⟨_, rfl⟩;rw [hcb] at hT3 hs3 hz2 ⊢;have HS3 := zJv hs3;have HX3 := zJv hX3;have HY3 := zJv hY3;have HT3 := zJv hT3;clear hW3 hs3 hX3 hY3 hT3 HX2 HY2 HO3 y0 y1 y2 l2 hB2 hcb;go_loopw [5, 15] (fun _ i wr => ∃ (k : Nat) (r1 : List (TermD × Ptr3)) (v1 : Value), k ≤ nodes.length ∧ i = .int .i64 k ∧ Hid (r1.map (·.1) = nodes.take k) ∧ Hid (TreeOwn wr (w.heap.size + 2) cb 27 v1 (.slice none 0 0) (.slice A3 aliases.length d3) r1 [] aliases) ∧ Below (w.heap.size + 2) W3 wr) (fun _ i _ => nodes.length - (intOf i).toNat)
 case atStart => exact ⟨0, [], .slice none 0 0, zK8 _, rfl, zJv (by simp), HT3, zJx _ _⟩
 case round =>
  obtain ⟨k, r1, v1, hk, rfl, HR, HT, hB⟩ := hrel;have hzr := hB.size;have hzc := HT.out.blk.lt;have hBw : Below w.heap.size w wr := hB3.trans (hB.mono (by omega));have hrl : r1.length = k := by have := congrArg List.length HR.out; simp at this; omega
  by_cases hlt : k < nodes.length
  · obtain ⟨b, off, rfl, hb, hcell⟩ := hN1 (by omega)
    obtain ⟨q, hq, hcq⟩ := hcell k nodes[k] (zK1 hlt);have hfew := hF1 _ (zKe hlt);have htk : nodes.take (k + 1) = nodes.take k ++ [nodes[k]] := zK9 hlt;obtain ⟨x, hx⟩ : ∃ x, nodes[k] = x := ⟨_, rfl⟩;rw [hx] at hq hcq hfew htk;clear hx hcell;have e0 := (hBw.cell (p := ⟨b, off + k * 8, none⟩) hb).trans (hcq 0 _ rfl);have e1 := (hBw.cell (p := ⟨b, off + k * 8 + 1, none⟩) hb).trans (hcq 1 _ rfl);have e2 := (hBw.cell (p := ⟨b, off + k * 8 + 2, none⟩) hb).trans (hcq 2 _ rfl);have e3 := (hBw.cell (p := ⟨b, off + k * 8 + 3, none⟩) hb).trans (hcq 3 _ rfl);have e4 := (hBw.cell (p := ⟨b, off + k * 8 + 4, none⟩) hb).trans (hcq 4 _ rfl);have e5 := (hBw.cell (p := ⟨b, off + k * 8 + 5, none⟩) hb).trans (hcq 5 _ rfl);have e6 := (hBw.cell (p := ⟨b, off + k * 8 + 6, none⟩) hb).trans (hcq 6 _ rfl);have e7 := (hBw.cell (p := ⟨b, off + k * 8 + 7, none⟩) hb).trans (hcq 7 _ rfl);clear hcq;have HTK := zJv htk;have HRL := zJv hrl;clear htk hrl;go_wp2_with fail
    obtain ⟨Wn, hWn⟩ : ∃ Wn, wr.alloc (.cells #[.int .i64 x.kind, .int .i64 x.pos, .string x.name, .int .i64 x.int, .int .u64 (x.bits : Int), .slice q.a5 x.names.length q.c5, .slice q.a6 x.kids.length q.c6, .slice q.a7 x.types.length q.c7] 38) = Wn := ⟨_, rfl⟩;have hBn : Below wr.heap.size wr Wn := by rw [← hWn]; exact (zJx _ _).alloc (zJw _) _
    have hXn : Blk Wn wr.heap.size 38 (za1 x q).toArray := by rw [← hWn]; exact Blk.new wr 38 _
    rw [hWn];clear hWn e0 e1 e2 e3 e4 e5 e6 e7;have hzn := hXn.lt;have hTn := HT.out.below hBn;have k32 := fun W (hW : TermOk (Lt W.heap.size) W x q) => zg8 x q W hW hfew.1 hfew.2.1 hfew.2.2;have c0 := hTn.blk.cell 0;have g0 := hTn.blk.frozen 0;have p0 := hXn.cell 0;have p1 := hXn.cell 1;have p2 := hXn.cell 2;have p3 := hXn.cell 3;have p4 := hXn.cell 4;have p5 := hXn.cell 5;have p6 := hXn.cell 6;have p7 := hXn.cell 7;unfold za1 at p0 p1 p2 p3 p4 p5 p6 p7;simp only [gA, gB, gC] at c0 p0 p1 p2 p3 p4 p5 p6 p7;have hqn : TermOk (Lt Wn.heap.size) Wn x q := ((hq.keep (zaa hBw)).keep (fun b o hb => hBn.cell (p := ⟨b, o, none⟩) (zJy hb (by omega)))).imp (zc6 (by have := hBn.size; omega));unfold za1 at k32;have HTN := zJv hTn;have hczn : cb < Wn.heap.size := hTn.blk.lt;clear hTn hXn;have hne1 : v1.ownBlock ≠ some cb := za3 HT.out.o1 HT.out.blk (by decide)
    go_region_law (first
     | (refine zdy _ rfl _ _ 23 rfl (w.heap.size + 2) 38 i1 _ 8 120 Tryz.underlying23 hi1 hz11 hz12 hz13 rfl (by decide) v1 r1.length (zf2 r1) (by simp [Act.eval]) ((HTN.out.below hb5).o1.alloc _) (some ⟨w4.heap.size, 0, none⟩) 1 1 (za1 x p') (by simp [Act.eval]) rfl (zgx w4 (za1 x p') 38) (by intro u hu; simp [za1] at hu; rcases hu with rfl | rfl | rfl | rfl | rfl | rfl | rfl | rfl <;> rfl) (by unfold maxLen; have := HRL.out; omega) (by have := HRL.out; omega) (by simp only [zKh]; have := hb5.size; have := hBn.size; omega) ?_; intro v' w5 hown5 hgrow5 hloc5; have c5 := (zdm (off := 0) hgrow5 l4 hne1).trans c4; have g5 := (zdv (off := 0) hgrow5 l4 hne1).trans g4; obtain ⟨A5, d5, rfl⟩ := za8 hown5)
     | (rw [if_pos (by simp [Region.wanted])]; go_simp; go_at_call 112; refine (k32 _ (by exact hqn)).mono ?_; rintro e w4 ⟨p', rfl, hok, hb4⟩; simp only [za1]; have hb5 : Below Wn.heap.size Wn w4 := ((zJx _ Wn).drew).trans hb4; have l4 : cb < w4.heap.size := zJy hczn hb5.size; have c4 := (hb4.cell (p := ⟨cb, 0, none⟩) hczn).trans c0; have g4 := (hb4.frozen (p := ⟨cb, 0, none⟩) hczn).trans g0; go_simp))
    all_goals
     have hpush := TreeOwn.pushTerm HTN.out x p' hb5 hok ((zJx w4.heap.size w4).alloc (zJw _) (.cells (za1 x p').toArray 38)) (by simpa using hown5) hgrow5 hloc5;have HP := zJv hpush.1;have hbp := hpush.2 (w.heap.size + 2) (zJw _) (by have := hBn.size; omega);have hbf : Below (w.heap.size + 2) W3 (w5.setCell ⟨cb, 0, none⟩ (.slice A5 (r1.length + 1) d5)) := hB.trans ((hBn.mono (by omega)).trans hbp);clear hpush hbp hok hown5 hgrow5 hloc5 hb4 hb5 c5 g5 c4 g4 k32 c0 g0 p0 p1 p2 p3 p4 p5 p6 p7;go_wp2
     go_roundw
     case rel => exact ⟨k + 1, r1 ++ [(x, p')], .slice A5 (r1.length + 1) d5, by omega, by go_num, zJv (by rw [taz, HR.out, HTK.out]; rfl), HP, hbf⟩
     case measure => simp [intOf]; omega
  · obtain rfl : k = nodes.length := by omega
    have hX4 := HX3.out.below hB (by omega);have hY4 := HY3.out.below hB (by omega);have y0 := hX4.cell 0;have y1 := hX4.cell 1;simp only [gA, gB, gC] at y0 y1;have HX4 := zJv hX4;have HY4 := zJv hY4;have HRF : Hid (r1.map (·.1) = nodes) := zJv (by rw [HR.out, tap]);have hBE := hBw;have HTE := HT;clear hX4 hY4 HR HT hBw hB hrl;go_wp2
    obtain ⟨WE, rfl⟩ : ∃ WE, WE = wr := ⟨wr, rfl⟩;skip
    go_loopw [7, 30] (fun _ i wr => ∃ (k : Nat) (r2 : List (TypD × Ptr2)) (v2 : Value), k ≤ types.length ∧ i = .int .i64 k ∧ Hid (r2.map (·.1) = types.take k) ∧ Hid (TreeOwn wr (w.heap.size + 2) cb 27 v1 v2 (.slice A3 aliases.length d3) r1 r2 aliases) ∧ Below (w.heap.size + 2) WE wr) (fun _ i _ => types.length - (intOf i).toNat)
    case atStart => exact ⟨0, [], .slice none 0 0, zK8 _, rfl, zJv (by simp), HTE, zJx _ _⟩
    case round =>
     obtain ⟨k, r2, v2, hk, rfl, HR, HT, hB⟩ := hrel;have hzr := hB.size;have hzc := HT.out.blk.lt;have hBw : Below w.heap.size w wr := hBE.trans (hB.mono (by omega));have hrl : r2.length = k := by have := congrArg List.length HR.out; simp at this; omega
     by_cases hlt : k < types.length
     · obtain ⟨b, off, rfl, hb, hcell⟩ := hN2 (by omega)
       obtain ⟨q, hq, hcq⟩ := hcell k types[k] (zK1 hlt);have hfew := hF2 _ (zKe hlt);have htk : types.take (k + 1) = types.take k ++ [types[k]] := zK9 hlt;obtain ⟨x, hx⟩ : ∃ x, types[k] = x := ⟨_, rfl⟩;rw [hx] at hq hcq hfew htk;clear hx hcell;have e0 := (hBw.cell (p := ⟨b, off + k * 6, none⟩) hb).trans (hcq 0 _ rfl);have e1 := (hBw.cell (p := ⟨b, off + k * 6 + 1, none⟩) hb).trans (hcq 1 _ rfl);have e2 := (hBw.cell (p := ⟨b, off + k * 6 + 2, none⟩) hb).trans (hcq 2 _ rfl);have e3 := (hBw.cell (p := ⟨b, off + k * 6 + 3, none⟩) hb).trans (hcq 3 _ rfl);have e4 := (hBw.cell (p := ⟨b, off + k * 6 + 4, none⟩) hb).trans (hcq 4 _ rfl);have e5 := (hBw.cell (p := ⟨b, off + k * 6 + 5, none⟩) hb).trans (hcq 5 _ rfl);clear hcq;have HTK := zJv htk;have HRL := zJv hrl;clear htk hrl;go_wp2_with fail
       obtain ⟨Wn, hWn⟩ : ∃ Wn, wr.alloc (.cells #[.int .i64 x.kind, .int .i64 x.pos, .string x.name, .slice q.a3 x.names.length q.c3, .slice q.a4 x.kids.length q.c4, .bool x.opn] 40) = Wn := ⟨_, rfl⟩;have hBn : Below wr.heap.size wr Wn := by rw [← hWn]; exact (zJx _ _).alloc (zJw _) _
       have hXn : Blk Wn wr.heap.size 40 (za4 x q).toArray := by rw [← hWn]; exact Blk.new wr 40 _
       rw [hWn];clear hWn e0 e1 e2 e3 e4 e5;have hzn := hXn.lt;have hTn := HT.out.below hBn;have k32 := fun W (hW : TypOk (Lt W.heap.size) W x q) => zg6 x q W hW hfew.1 hfew.2;have c0 := hTn.blk.cell 1;have g0 := hTn.blk.frozen 1;have p0 := hXn.cell 0;have p1 := hXn.cell 1;have p2 := hXn.cell 2;have p3 := hXn.cell 3;have p4 := hXn.cell 4;have p5 := hXn.cell 5;unfold za4 at p0 p1 p2 p3 p4 p5;simp only [gA, gB, gC] at c0 p0 p1 p2 p3 p4 p5;have hqn : TypOk (Lt Wn.heap.size) Wn x q := ((hq.keep (zaa hBw)).keep (fun b o hb => hBn.cell (p := ⟨b, o, none⟩) (zJy hb (by omega)))).imp (zc6 (by have := hBn.size; omega));unfold za4 at k32;have HTN := zJv hTn;have hczn : cb < Wn.heap.size := hTn.blk.lt;clear hTn hXn;have hne1 : v2.ownBlock ≠ some cb := za3 HT.out.o2 HT.out.blk (by decide)
       go_region_law (first
        | (refine zdy _ rfl _ _ 24 rfl (w.heap.size + 2) 40 i2 _ 6 88 Tryz.underlying24 hi2 hz21 hz22 hz23 rfl (by decide) v2 r2.length (zar r2) (by simp [Act.eval]) ((HTN.out.below hb5).o2.alloc _) (some ⟨w4.heap.size, 0, none⟩) 1 1 (za4 x p') (by simp [Act.eval]) rfl (zgx w4 (za4 x p') 40) (by intro u hu; simp [za4] at hu; rcases hu with rfl | rfl | rfl | rfl | rfl | rfl <;> rfl) (by unfold maxLen; have := HRL.out; omega) (by have := HRL.out; omega) (by simp only [zKh]; have := hb5.size; have := hBn.size; omega) ?_; intro v' w5 hown5 hgrow5 hloc5; have c5 := (zdm (off := 1) hgrow5 l4 hne1).trans c4; have g5 := (zdv (off := 1) hgrow5 l4 hne1).trans g4; obtain ⟨A5, d5, rfl⟩ := za8 hown5)
        | (rw [if_pos (by simp [Region.wanted])]; go_simp; go_at_call 113; refine (k32 _ (by exact hqn)).mono ?_; rintro e w4 ⟨p', rfl, hok, hb4⟩; simp only [za4]; have hb5 : Below Wn.heap.size Wn w4 := ((zJx _ Wn).drew).trans hb4; have l4 : cb < w4.heap.size := zJy hczn hb5.size; have c4 := (hb4.cell (p := ⟨cb, 1, none⟩) hczn).trans c0; have g4 := (hb4.frozen (p := ⟨cb, 1, none⟩) hczn).trans g0; go_simp))
       all_goals
        have hpush := TreeOwn.pushType HTN.out x p' hb5 hok ((zJx w4.heap.size w4).alloc (zJw _) (.cells (za4 x p').toArray 40)) (by simpa using hown5) hgrow5 hloc5;have HP := zJv hpush.1;have hbp := hpush.2 (w.heap.size + 2) (zJw _) (by have := hBn.size; omega);have hbf : Below (w.heap.size + 2) WE (w5.setCell ⟨cb, 1, none⟩ (.slice A5 (r2.length + 1) d5)) := hB.trans ((hBn.mono (by omega)).trans hbp);clear hpush hbp hok hown5 hgrow5 hloc5 hb4 hb5 c5 g5 c4 g4 k32 c0 g0 p0 p1 p2 p3 p4 p5;go_wp2
        go_roundw
        case rel => exact ⟨k + 1, r2 ++ [(x, p')], .slice A5 (r2.length + 1) d5, by omega, by go_num, zJv (by rw [taz, HR.out, HTK.out]; rfl), HP, hbf⟩
        case measure => simp [intOf]; omega
     · obtain rfl : k = types.length := by omega
       have hX5 := HX4.out.below hB (by omega);have hY5 := HY4.out.below hB (by omega);have HRF2 : Hid (r2.map (·.1) = types) := zJv (by rw [HR.out, tap]);have cc0 := HT.out.blk.cell 0;have cc1 := HT.out.blk.cell 1;have cc2 := HT.out.blk.cell 2;have z0 := hY5.cell 0;have z1 := hY5.cell 1;have z2 := hY5.cell 2;have u0 := hY5.frozen 0;have u1 := hY5.frozen 1;have u2 := hY5.frozen 2;simp only [gA, gB, gC] at cc0 cc1 cc2 z0 z1 z2;obtain ⟨P', hP1, hP2, hP3, hPT⟩ := HT.out.ownT;have hl1 : r1.length = nodes.length := by have := congrArg List.length HRF.out; simpa using this
       have hl2 : r2.length = types.length := by have := congrArg List.length HRF2.out; simpa using this
       rw [hl1] at hP1;rw [hl2] at hP2;rw [HRF.out, HRF2.out] at hPT;subst hP1;subst hP2;have hP3' := hP3;rw [hP3] at cc2;have HPT := zJv hPT;have HY5 := zJv hY5;clear hP3 hP3' hPT hX5 hY5 hl1 hl2 HT HR;go_wp2
       obtain ⟨WZ, hWZ⟩ : ∃ WZ, ((wr.setCell ⟨w.heap.size + 1, 0, none⟩ (.slice P'.a1 nodes.length P'.c1)).setCell ⟨w.heap.size + 1, 1, none⟩ (.slice P'.a2 types.length P'.c2)).setCell ⟨w.heap.size + 1, 2, none⟩ (.slice P'.a3 aliases.length P'.c3) = WZ := ⟨_, rfl⟩
       have hRZ : Blk WZ (w.heap.size + 1) 27 #[.slice P'.a1 nodes.length P'.c1, .slice P'.a2 types.length P'.c2, .slice P'.a3 aliases.length P'.c3] := by
        rw [← hWZ];have := ((HY5.out.set_ 0 (.slice P'.a1 nodes.length P'.c1)).set_ 1 (.slice P'.a2 types.length P'.c2)).set_ 2 (.slice P'.a3 aliases.length P'.c3);simpa using this
       have hBZ : Below w.heap.size w WZ := by
        rw [← hWZ];exact ((hBw.setCell (p := ⟨w.heap.size + 1, 0, none⟩) (ta2 _) _).setCell (p := ⟨w.heap.size + 1, 1, none⟩) (ta2 _) _).setCell (p := ⟨w.heap.size + 1, 2, none⟩) (ta2 _) _
       have hzZ : WZ.heap.size = wr.heap.size := by rw [← hWZ]; simp
       have hkZ : ∀ b o, w.heap.size + 2 ≤ b → WZ.cell? ⟨b, o, none⟩ = wr.cell? ⟨b, o, none⟩ := fun b o hb => by
        rw [← hWZ, zK0 _ _ _ _ (by intro e; injection e; omega), zK0 _ _ _ _ (by intro e; injection e; omega), zK0 _ _ _ _ (by intro e; injection e; omega)]
       have hhZ : ∀ b, w.heap.size + 2 ≤ b → WZ.heap[b]? = wr.heap[b]? := fun b hb => by
        rw [← hWZ, zKp _ _ _ _ (by dsimp only; omega), zKp _ _ _ _ (by dsimp only; omega), zKp _ _ _ _ (by dsimp only; omega)]
       rw [hWZ];clear hWZ cc0 cc1 cc2 z0 z1 z2 u0 u1 u2;have r0 := hRZ.cell 0;have r1' := hRZ.cell 1;have r2' := hRZ.cell 2;simp only [gA, gB, gC] at r0 r1' r2';refine bodyPost_ret (v := treeV ⟨nodes, types, aliases⟩ P') (by simp [results, Tryz.results72, go_sem, r0, r1', r2']) rfl ⟨_, rfl, ?_, hBZ⟩;refine HPT.out.on hzZ (fun b hb => hhZ b hb) (by omega)
theorem zEu (base cb : Nat) {v1 v2 v3 : Value} {r1 : List (TermD × Ptr3)} {r2 : List (TypD × Ptr2)} {r3 : List AliD} (w : World) (hT : TreeOwn w base cb 99 v1 v2 v3 r1 r2 r3) (n1 : r1.length ≤ 65536) (n2 : r2.length ≤ 65536) (n3 : r3.length ≤ 65536)
 (hF1 : ∀ x ∈ r1, x.1.names.length ≤ 65536 ∧ x.1.kids.length ≤ 65536 ∧ x.1.types.length ≤ 65536) (hF2 : ∀ x ∈ r2, x.1.names.length ≤ 65536 ∧ x.1.kids.length ≤ 65536) :
 Calls Tryz.prog 39 #[.pointer (some ⟨cb, 0, none⟩)] w (zmx w ⟨r1.map (·.1), r2.map (·.1), r3⟩) := by
 obtain ⟨P', hP1, hP2, hP3, hPT⟩ := hT.at_;obtain ⟨Wn, hWn⟩ : ∃ Wn, w.alloc (.cells #[.slice none 0 0, .slice none 0 0, .slice none 0 0] 27) = Wn := ⟨_, rfl⟩;have hBn : Below w.heap.size w Wn := by rw [← hWn]; exact (zJx _ _).alloc (zJw _) _
 have hXn : Blk Wn w.heap.size 27 #[.slice none 0 0, .slice none 0 0, .slice none 0 0] := by rw [← hWn]; exact Blk.new w 27 _
 have hzW : Wn.heap.size = w.heap.size + 1 := by rw [← hWn]; simp only [zKh]
 have hTn := hT.below hBn;have c0 := hTn.blk.cell 0;have c1 := hTn.blk.cell 1;have c2 := hTn.blk.cell 2;simp only [gA, gB, gC] at c0 c1 c2;rw [hP1] at c0;rw [hP2] at c1;rw [hP3] at c2
 have k33   := zy9 ⟨r1.map (·.1), r2.map (·.1), r3⟩ P' Wn ((hPT.keep (fun b o hb => hBn.cell (p := ⟨b, o, none⟩) hb.2)).imp (fun b hb => zJy hb.2 hBn.size)) (by simpa using n1) (by simpa using n2) n3
  (fun x hx => by obtain ⟨y, hy, rfl⟩ := List.mem_map.1 hx; exact hF1 y hy) (fun x hx => by obtain ⟨y, hy, rfl⟩ := List.mem_map.1 hx; exact hF2 y hy)
 have hm1 : (r1.map (·.1)).length = r1.length := zKd _;have hm2 : (r2.map (·.1)).length = r2.length := zKd _;unfold treeV at k33;dsimp only at k33;rw [hm1, hm2] at k33;have HBN := zJv hBn;have HXN := zJv hXn;have HZW := zJv hzW;clear hPT hP1 hP2 hP3 hT hTn hF1 hF2 hBn hXn hzW hm1 hm2;go_enter Tryz.func39, Tryz.ntmps39
 go_wp2_with fail
 refine k33.mono ?_;rintro e w2 ⟨p', rfl, hat, hb⟩;unfold treeV;dsimp only;have hm1 : (r1.map (·.1)).length = r1.length := zKd _;have hm2 : (r2.map (·.1)).length = r2.length := zKd _;have hX2 := HXN.out.below hb (by have := HXN.out.lt; omega);have x0 := hX2.cell 0;have x1 := hX2.cell 1;have x2 := hX2.cell 2;have y0 := hX2.frozen 0;have y1 := hX2.frozen 1;have y2 := hX2.frozen 2;simp only [gA, gB, gC] at x0 x1 x2;rw [hm1, hm2];have HX2 := zJv hX2;have HAT := zJv hat;have HM := zJv (And.intro hm1 hm2);have HB := zJv hb;clear hX2 hat hm1 hm2 k33 hb hWn;go_wp2
 obtain ⟨WZ, hWZ⟩ : ∃ WZ, ((w2.setCell ⟨w.heap.size, 0, none⟩ (.slice p'.a1 r1.length p'.c1)).setCell ⟨w.heap.size, 1, none⟩ (.slice p'.a2 r2.length p'.c2)).setCell ⟨w.heap.size, 2, none⟩ (.slice p'.a3 r3.length p'.c3) = WZ := ⟨_, rfl⟩
 have hRZ : Blk WZ w.heap.size 27 #[.slice p'.a1 r1.length p'.c1, .slice p'.a2 r2.length p'.c2, .slice p'.a3 r3.length p'.c3] := by
  rw [← hWZ];have := ((HX2.out.set_ 0 (.slice p'.a1 r1.length p'.c1)).set_ 1 (.slice p'.a2 r2.length p'.c2)).set_ 2 (.slice p'.a3 r3.length p'.c3);simpa using this
 have hBZ : Below w.heap.size w WZ := by
  rw [← hWZ];exact (((HBN.out.trans (HB.out.mono HBN.out.size)).setCell (p := ⟨w.heap.size, 0, none⟩) (zJw _) _).setCell (p := ⟨w.heap.size, 1, none⟩) (zJw _) _).setCell (p := ⟨w.heap.size, 2, none⟩) (zJw _) _
 have hzZ : WZ.heap.size = w2.heap.size := by rw [← hWZ]; simp
 have hkZ : ∀ b o, w.heap.size + 1 ≤ b → WZ.cell? ⟨b, o, none⟩ = w2.cell? ⟨b, o, none⟩ := fun b o hb => by
  rw [← hWZ, zK0 _ _ _ _ (by intro e; injection e; omega), zK0 _ _ _ _ (by intro e; injection e; omega), zK0 _ _ _ _ (by intro e; injection e; omega)]
 have hhZ : ∀ b, w.heap.size + 1 ≤ b → WZ.heap[b]? = w2.heap[b]? := fun b hb => by
  rw [← hWZ, zKp _ _ _ _ (by dsimp only; omega), zKp _ _ _ _ (by dsimp only; omega), zKp _ _ _ _ (by dsimp only; omega)]
 rw [hWZ];clear hWZ x0 x1 x2 y0 y1 y2;have q0 := hRZ.cell 0;have q1 := hRZ.cell 1;have q2 := hRZ.cell 2;simp only [gA, gB, gC] at q0 q1 q2;refine bodyPost_ret (v := .agg #[.slice p'.a1 r1.length p'.c1, .slice p'.a2 r2.length p'.c2, .slice p'.a3 r3.length p'.c3]) (by simp [results, Tryz.results39, go_sem, q0, q1, q2]) rfl ⟨p', by unfold treeV; dsimp only; rw [HM.out.1, HM.out.2], ?_, hBZ⟩;exact HAT.out.on hzZ (fun b hb => hhZ b (by have := HZW.out; omega)) (by have := HZW.out; omega)
set_option maxRecDepth 100000 in
theorem zEl {l : List UInt8} {ts : List Tk} {s' : St} (hA : lexA l = .ok ts) (hT : TsOk ts) (hlen : ts.length ≤ 2097152) (M : St → R3 Unit) (hR : Rule0 ts 19 M) (hM : M St.zero = .ok () s') (hE : (tkA ts s'.k).1 = 0) (hk' : s'.k < ts.length)
 (a : Option Addr) (len cap : Nat) (w : World) (hl : l.length = len) (hEnv : Env w) (hI : TextAt w.heap.size w (.slice a len cap) l) :
 Calls Tryz.prog 18 #[.slice a len cap, .func (.func 19) #[] #[]] w fun e w' => ∃ p', e = .returned (.tuple #[treeV ⟨s'.t1, s'.t2, s'.t3⟩ p', .agg #[.int .i64 0, .int .i64 0, .string ⟨#[]⟩]]) ∧ OwnTr w.heap.size w' ⟨s'.t1, s'.t2, s'.t3⟩ p' ∧ Below w.heap.size w w' := by
 obtain ⟨W0, hW0⟩ : ∃ W0, w.alloc (.cells #[.slice none 0 0, .slice none 0 0, .slice none 0 0] 27) = W0 := ⟨_, rfl⟩;obtain ⟨W1, hW1⟩ : ∃ W1, W0.alloc (.cells #[.int .i64 0, .int .i64 0, .string ⟨#[]⟩] 30) = W1 := ⟨_, rfl⟩;have hB0 : Below w.heap.size w W0 := by rw [← hW0]; exact (zJx _ _).alloc (zJw _) _
 have hB1 : Below W0.heap.size W0 W1 := by rw [← hW1]; exact (zJx _ _).alloc (zJw _) _
 have hX0 : Blk W0 w.heap.size 27 #[.slice none 0 0, .slice none 0 0, .slice none 0 0] := by rw [← hW0]; exact Blk.new w 27 _
 have hX1 : Blk W1 W0.heap.size 30 #[.int .i64 0, .int .i64 0, .string ⟨#[]⟩] := by rw [← hW1]; exact Blk.new W0 30 _
 have hB01 : Below w.heap.size w W1 := hB0.trans (hB1.mono hB0.size);have cL := zd8 a len cap l W1 (hEnv.on hB01) hl (TextAt.more hB01.size (hI.below hB01));have hmf : ∀ (fn : Fn) (first cap : Array Value) (w : World), (Instr.makeFunc fn first cap).run Tryz.prog w = .ok (.func fn first cap) w := fun _ _ _ _ => rfl;unfold zc5 at cL;rw [hA] at cL;dsimp only at cL;have hmm := @run_makeMap Tryz.prog;go_enter_defers Tryz.func18, Tryz.ntmps18
 go_wp2_with fail
 refine cL.mono ?_;rintro e w1 ⟨⟨v, rfl, hrow⟩, hb1⟩;obtain ⟨g, c, rfl, hg1, hg2, hg3, hgc⟩ := zcs hrow hT.pos;go_wp2_with fail
 obtain ⟨W2, hW2⟩ : ∃ W2, w1.alloc (.cells #[.int .i64 0, .int .i64 0, .string ⟨#[]⟩] 30) = W2 := ⟨_, rfl⟩;obtain ⟨W3, hW3⟩ : ∃ W3, W2.alloc (.map #[] 0) = W3 := ⟨_, rfl⟩;have hb2 : Below w1.heap.size w1 W2 := by rw [← hW2]; exact (zJx _ _).alloc (zJw _) _
 have hb3 : Below W2.heap.size W2 W3 := by rw [← hW3]; exact (zJx _ _).alloc (zJw _) _
 have hb13 : Below w1.heap.size w1 W3 := hb2.trans (hb3.mono hb2.size);have hb3' : Below W1.heap.size W1 W3 := hb1.trans (hb13.mono hb1.size);have cNew := ze5 W3;rw [hW2, hW3];clear cL hrow;refine cNew.mono ?_;rintro e w4 ⟨rfl, hTO, hb4⟩;have hz2 : W2.heap.size = w1.heap.size + 1 := by rw [← hW2]; simp
 rw [← hz2];clear hz2;obtain ⟨W5, hW5⟩ : ∃ W5, w4.alloc (.cells #[.slice (some ⟨g, 0, none⟩) ts.length c, .int .i64 0, .int .i64 0, .map (some W2.heap.size), .pointer (some ⟨W3.heap.size, 0, none⟩)] 75) = W5 := ⟨_, rfl⟩;have hb5 : Below w4.heap.size w4 W5 := by rw [← hW5]; exact (zJx _ _).alloc (zJw _) _
 have hX5 : Blk W5 w4.heap.size 75 #[.slice (some ⟨g, 0, none⟩) ts.length c, .int .i64 0, .int .i64 0, .map (some W2.heap.size), .pointer (some ⟨W3.heap.size, 0, none⟩)] := by rw [← hW5]; exact Blk.new w4 75 _
 have hb35 : Below W3.heap.size W3 W5 := hb4.trans (hb5.mono hb4.size);have hs1 := hB0.size;have hs2 := hB1.size;have hs3 := hb1.size;have hs4 := hb13.size;have hs5 := hb4.size;have hs6 := hb5.size;have hb15 : Below w1.heap.size w1 W5 := hb13.trans (hb35.mono hs4);have hbW5 : Below w.heap.size w W5 := (hB01.trans (hb1.mono hB01.size)).trans (hb15.mono (by omega));have hmp : MapAt W5 W2.heap.size [] := (show MapAt W3 W2.heap.size [] from by rw [← hW3]; exact MapAt.made W2).same (hb35.block _ (by rw [← hW3]; simp))
 have p5 : PS ⟨g, c, w4.heap.size, W3.heap.size, W2.heap.size, W2.heap.size, ts, fun _ => False⟩ W5 St.zero :=
  { env := hEnv.on hbW5
    blk := hX5
    tok := fun j u hu => (hb15.cell (p := ⟨g, j, none⟩) hg2).trans (hgc j u hu)
    gb := by show g < W2.heap.size; have := hb2.size; omega
    b6 := by show 6 ≤ W2.heap.size; have := hEnv.size; have := hb2.size; omega
    bw := by show W2.heap.size ≤ W5.heap.size; have := hb3.size; have := hb35.size; omega
    pbb := by show W2.heap.size ≤ w4.heap.size; have := hb3.size; omega
    cap := hg3
    built := ⟨_, _, _, [], [], [], ⟨(hTO.below hb5).based hb3.size, fun x hx => by simp at hx, fun x hx => by simp at hx⟩, rfl, rfl, rfl⟩
    n1 := by simp
    n2 := by simp
    f1 := fun x hx => by simp at hx
    f2 := fun x hx => by simp at hx
    kb := by simp
    ob := by simp
    lb := hlen
    ll := fun b hb => hb.elim
    mp := hmp
    mb := zJw _
    ml := fun hb => hb.elim
    mle := zK8 _
    n3 := zK8 _ }
 have cR := hR _ W5 _ rfl p5 hT.pos (by rw [hM]; simp);rw [hM] at cR;go_wp2_with fail
 obtain ⟨B, HBe⟩ : ∃ B : PE, Hid ((⟨g, c, w4.heap.size, W3.heap.size, W2.heap.size, W2.heap.size, ts, fun _ => False⟩ : PE) = B) := ⟨_, zJv rfl⟩;have HBts : Hid (B.ts = ts) := zJv (by rw [← HBe.out]);have HBpb : Hid (w4.heap.size = B.pb) := zJv (by rw [← HBe.out]);have hs7 := hb2.size;have hs8 := hb3.size;have HBb : Hid (W2.heap.size = B.base) := zJv (by rw [← HBe.out]);have HBcb : Hid (W3.heap.size = B.cb) := zJv (by rw [← HBe.out]);rw [HBe.out] at cR p5;unfold PE.ptr at cR;rw [← HBpb.out] at cR;have hX0' : Blk W5 w.heap.size 27 #[.slice none 0 0, .slice none 0 0, .slice none 0 0] := (((hX0.below hB1 hX0.lt).below hb1 (zJy hX0.lt hB1.size)).below hb15 (zJy (zJy hX0.lt hB1.size) hb1.size));have hX1' : Blk W5 W0.heap.size 30 #[.int .i64 0, .int .i64 0, .string ⟨#[]⟩] := (hX1.below hb1 hX1.lt).below hb15 (zJy hX1.lt hb1.size);have hl0 := hX0.lt;have hl1 := hX1.lt;refine cR.mono ?_;rintro e w6 ⟨rfl, a6⟩;have A6 := zJv a6;have P5 := zJv p5;have HX0' := zJv hX0';have HX1' := zJv hX1';have HbW5 := zJv hbW5;have HMM := zJv hmm
 have cK : Calls Tryz.prog 38 #[.pointer (some ⟨w4.heap.size, 0, none⟩), .int .i64 0] w6 fun e w' => e = .returned (tokV (tkA ts s'.k)) ∧ Aft B w6 (s'.on 1) w' := by
  have := zcf a6.ps (by rw [HBts.out]; exact hk') 0 (by rw [HBts.out]; exact hE);rw [HBts.out] at this;rw [HBpb.out];exact this
 go_wp2_with fail
 refine cK.mono ?_;rintro e w7 ⟨rfl, a7⟩;have a67 := a6.trans a7;obtain ⟨v1, v2, v3, r1, r2, r3, hBI, e1, e2, e9⟩ := a7.ps.built
 have cT := zEu B.base B.cb w7 hBI.tr (by have := a7.ps.n1; rw [← e1] at this; simpa using this) (by have := a7.ps.n2; rw [← e2] at this; simpa using this) (by have h3 := a7.ps.n3; rw [e9]; have h4 : (s'.on 1).k = s'.k + 1 := rfl; have h5 := hT.few; omega)
  (fun x hx => a7.ps.f1 _ (by rw [← e1]; exact tax hx)) (fun x hx => a7.ps.f2 _ (by rw [← e2]; exact tax hx))
 rw [e1, e2, e9] at cT;have c4 := a7.ps.blk.cell 4;simp only [PE.cells, gA, gB, gC] at c4;rw [← HBpb.out] at c4;have hX0'' := hX0'.below a67.bel (by rw [← HBb.out]; omega);have hX1'' := hX1'.below a67.bel (by rw [← HBb.out]; omega);have hbW7 : Below w.heap.size w w7 := hbW5.trans (a67.bel.mono (by rw [← HBb.out]; omega));have l7 := a67.bel.size;clear cK cR a6 a7 hBI e1 e2 e9;go_wp2_with fail
 refine cT.mono ?_;rintro e w8 ⟨p', rfl, hTA, hb8⟩;have hX0a := hX0''.below hb8 (by omega);have hX1a := hX1''.below hb8 (by omega);have x0 := hX0a.cell 0;have x1 := hX0a.cell 1;have x2 := hX0a.cell 2;have y0 := hX0a.frozen 0;have y1 := hX0a.frozen 1;have y2 := hX0a.frozen 2;have x3 := hX1a.cell 0;have x4 := hX1a.cell 1;have x5 := hX1a.cell 2;have y3 := hX1a.frozen 0;have y4 := hX1a.frozen 1;have y5 := hX1a.frozen 2;simp only [gA, gB, gC] at x0 x1 x2 x3 x4 x5;have hne1 : (w.heap.size = W0.heap.size) = False := eq_false (by omega);have hne2 : (W0.heap.size = w.heap.size) = False := eq_false (by omega);have HX0 := zJv hX0a;have HX1 := zJv hX1a;have HB7 := zJv hbW7;have HB8 := zJv hb8;have HTA := zJv hTA;have HP7 := zJv a67.ps;clear cT hX0 hX1 hX0' hX1' hX0'' hX1'' hX0a hX1a hb8 hbW7 hTA a67 p5 hb35 hb15 hbW5 hb13 hb3' hb3 hb2 hb1 hb4 hb5 hB01 hB0 hB1 hW0 hW1 hW2 hW3 hW5 hX5 hTO hgc;go_wp2_with fail
 have hZ0 := (((HX0.out.set_ 0 (.slice p'.a1 s'.t1.length p'.c1)).set_ 1 (.slice p'.a2 s'.t2.length p'.c2)).set_ 2 (.slice p'.a3 s'.t3.length p'.c3)).far (p := ⟨W0.heap.size, 0, none⟩) (by dsimp only; omega) (.int .i64 0) |>.far (p := ⟨W0.heap.size, 1, none⟩) (by dsimp only; omega) (.int .i64 0) |>.far (p := ⟨W0.heap.size, 2, none⟩) (by dsimp only; omega) (.string ⟨#[]⟩);have hZ1 := ((((((HX1.out.far (p := ⟨w.heap.size, 0, none⟩) (by dsimp only; omega) (.slice p'.a1 s'.t1.length p'.c1)).far (p := ⟨w.heap.size, 1, none⟩) (by dsimp only; omega) (.slice p'.a2 s'.t2.length p'.c2)).far (p := ⟨w.heap.size, 2, none⟩) (by dsimp only; omega) (.slice p'.a3 s'.t3.length p'.c3)).set_ 0 (.int .i64 0)).set_ 1 (.int .i64 0)).set_ 2 (.string ⟨#[]⟩));have q0 := hZ0.cell 0;have q1 := hZ0.cell 1;have q2 := hZ0.cell 2;have q3 := hZ1.cell 0;have q4 := hZ1.cell 1;have q5 := hZ1.cell 2;simp only [sA, sB, sC, gA, gB, gC] at q0 q1 q2 q3 q4 q5;refine leaves_cons (f := 36) (args := #[.pointer (some ⟨W0.heap.size, 0, none⟩)]) (by simp) (by simp [go_sem]) ?_;refine (zem ⟨W0.heap.size, 0, none⟩ _).mono ?_;rintro e u' w9 ⟨rfl, rfl, rfl⟩;refine ⟨.tuple #[treeV ⟨s'.t1, s'.t2, s'.t3⟩ p', .agg #[.int .i64 0, .int .i64 0, .string ⟨#[]⟩]], by simp [results, Tryz.results18, go_sem, St.on, q0, q1, q2, q3, q4, q5], p', rfl, ?_, ?_⟩
 · have hw8 := HB8.out.size
   refine HTA.out.on (by simp) (fun b hb => ?_) (by omega);rw [zKp _ _ _ _ (by dsimp only; omega), zKp _ _ _ _ (by dsimp only; omega), zKp _ _ _ _ (by dsimp only; omega), zKp _ _ _ _ (by dsimp only; omega), zKp _ _ _ _ (by dsimp only; omega), zKp _ _ _ _ (by dsimp only; omega)]
 · have h0 : w.heap.size ≤ w.heap.size := zJw _
   exact ((((((HB7.out.trans (HB8.out.mono (by omega))).setCell (p := ⟨w.heap.size, 0, none⟩) h0 _).setCell (p := ⟨w.heap.size, 1, none⟩) h0 _).setCell (p := ⟨w.heap.size, 2, none⟩) h0 _).setCell (p := ⟨W0.heap.size, 0, none⟩) hs1 _).setCell (p := ⟨W0.heap.size, 1, none⟩) hs1 _).setCell (p := ⟨W0.heap.size, 2, none⟩) hs1 _
set_option maxRecDepth 100000 in
theorem zL8 {l : List UInt8} {ts : List Tk} {s' : St} (hA : lexA l = .ok ts) (hT : TsOk ts) (hlen : ts.length ≤ 2097152) (M : St → R3 Unit) (hR : Rule0 ts 19 M) (hM : M St.zero = .ok () s') (hE : (tkA ts s'.k).1 = 0) (hk' : s'.k < ts.length)
 (a : Option Addr) (len cap : Nat) (w : World) (hl : l.length = len) (hEnv : Env w) (hI : TextAt w.heap.size w (.slice a len cap) l) :
 Calls Tryz.prog 9 #[.slice a len cap] w fun e w' => ∃ p', e = .returned (.tuple #[treeV ⟨s'.t1, s'.t2, s'.t3⟩ p', .agg #[.int .i64 0, .int .i64 0, .string ⟨#[]⟩]]) ∧ OwnTr w.heap.size w' ⟨s'.t1, s'.t2, s'.t3⟩ p' ∧ Below w.heap.size w w' := by
 obtain ⟨W0, hW0⟩ : ∃ W0, w.alloc (.cells #[.slice none 0 0, .slice none 0 0, .slice none 0 0] 27) = W0 := ⟨_, rfl⟩;obtain ⟨W1, hW1⟩ : ∃ W1, W0.alloc (.cells #[.int .i64 0, .int .i64 0, .string ⟨#[]⟩] 30) = W1 := ⟨_, rfl⟩;have hB0 : Below w.heap.size w W0 := by rw [← hW0]; exact (zJx _ _).alloc (zJw _) _
 have hB1 : Below W0.heap.size W0 W1 := by rw [← hW1]; exact (zJx _ _).alloc (zJw _) _
 have hX0 : Blk W0 w.heap.size 27 #[.slice none 0 0, .slice none 0 0, .slice none 0 0] := by rw [← hW0]; exact Blk.new w 27 _
 have hX1 : Blk W1 W0.heap.size 30 #[.int .i64 0, .int .i64 0, .string ⟨#[]⟩] := by rw [← hW1]; exact Blk.new W0 30 _
 have hB01 : Below w.heap.size w W1 := hB0.trans (hB1.mono hB0.size);have cP := zEl hA hT hlen M hR hM hE hk' a len cap W1 hl (hEnv.on hB01) (TextAt.more hB01.size (hI.below hB01));have hl0 := hX0.lt;have hl1 := hX1.lt;have hs1 := hB0.size;have hs2 := hB1.size;have HX0 := zJv (hX0.below hB1 hl0);have HX1 := zJv hX1;have HB01 := zJv hB01;clear hA hT hR hM hE hk' hI hB0 hB1 hX0 hX1 hB01;go_enter Tryz.func9, Tryz.ntmps9
 go_wp2_with fail
 refine cP.mono ?_;rintro e w8 ⟨p', rfl, hTA, hb8⟩;have hX0a := HX0.out.below hb8 (by omega);have hX1a := HX1.out.below hb8 hl1;have x0 := hX0a.cell 0;have x1 := hX0a.cell 1;have x2 := hX0a.cell 2;have y0 := hX0a.frozen 0;have y1 := hX0a.frozen 1;have y2 := hX0a.frozen 2;have x3 := hX1a.cell 0;have x4 := hX1a.cell 1;have x5 := hX1a.cell 2;have y3 := hX1a.frozen 0;have y4 := hX1a.frozen 1;have y5 := hX1a.frozen 2;simp only [gA, gB, gC] at x0 x1 x2 x3 x4 x5;have hne1 : (w.heap.size = W0.heap.size) = False := eq_false (by omega);have hne2 : (W0.heap.size = w.heap.size) = False := eq_false (by omega);have HX0a := zJv hX0a;have HX1a := zJv hX1a;have HB8 := zJv hb8;have HTA := zJv hTA;clear hX0a hX1a hb8 hTA cP hW0 hW1;go_wp2_with fail
 have hZ0 := (((HX0a.out.set_ 0 (.slice p'.a1 s'.t1.length p'.c1)).set_ 1 (.slice p'.a2 s'.t2.length p'.c2)).set_ 2 (.slice p'.a3 s'.t3.length p'.c3)).far (p := ⟨W0.heap.size, 0, none⟩) (by dsimp only; omega) (.int .i64 0) |>.far (p := ⟨W0.heap.size, 1, none⟩) (by dsimp only; omega) (.int .i64 0) |>.far (p := ⟨W0.heap.size, 2, none⟩) (by dsimp only; omega) (.string ⟨#[]⟩);have hZ1 := ((((((HX1a.out.far (p := ⟨w.heap.size, 0, none⟩) (by dsimp only; omega) (.slice p'.a1 s'.t1.length p'.c1)).far (p := ⟨w.heap.size, 1, none⟩) (by dsimp only; omega) (.slice p'.a2 s'.t2.length p'.c2)).far (p := ⟨w.heap.size, 2, none⟩) (by dsimp only; omega) (.slice p'.a3 s'.t3.length p'.c3)).set_ 0 (.int .i64 0)).set_ 1 (.int .i64 0)).set_ 2 (.string ⟨#[]⟩));have q0 := hZ0.cell 0;have q1 := hZ0.cell 1;have q2 := hZ0.cell 2;have q3 := hZ1.cell 0;have q4 := hZ1.cell 1;have q5 := hZ1.cell 2;simp only [sA, sB, sC, gA, gB, gC] at q0 q1 q2 q3 q4 q5;refine bodyPost_ret (v := .tuple #[treeV ⟨s'.t1, s'.t2, s'.t3⟩ p', .agg #[.int .i64 0, .int .i64 0, .string ⟨#[]⟩]]) (by simp [results, Tryz.results9, go_sem, q0, q1, q2, q3, q4, q5]) rfl ⟨p', rfl, ?_, ?_⟩
 · have hw8 := HB8.out.size
   refine HTA.out.on (by simp) (fun b hb => ?_) (by omega);rw [zKp _ _ _ _ (by dsimp only; omega), zKp _ _ _ _ (by dsimp only; omega), zKp _ _ _ _ (by dsimp only; omega), zKp _ _ _ _ (by dsimp only; omega), zKp _ _ _ _ (by dsimp only; omega), zKp _ _ _ _ (by dsimp only; omega)]
 · have h0 : w.heap.size ≤ w.heap.size := zJw _
   exact ((((((HB01.out.trans (HB8.out.mono (by omega))).setCell (p := ⟨w.heap.size, 0, none⟩) h0 _).setCell (p := ⟨w.heap.size, 1, none⟩) h0 _).setCell (p := ⟨w.heap.size, 2, none⟩) h0 _).setCell (p := ⟨W0.heap.size, 0, none⟩) hs1 _).setCell (p := ⟨W0.heap.size, 1, none⟩) hs1 _).setCell (p := ⟨W0.heap.size, 2, none⟩) hs1 _
def zjp (w : World) (r : Except (Nat × Nat) TreeD) (e : Ending) (w' : World) : Prop :=
 match r with
 | .ok t => ∃ p', e = .returned (.tuple #[treeV t p', .agg #[.int .i64 0, .int .i64 0, .string ⟨#[]⟩]]) ∧ OwnTr w.heap.size w' t p' ∧ Below w.heap.size w w'
 | .error (c, q) => e = .returned (.tuple #[.agg #[.slice none 0 0, .slice none 0 0, .slice none 0 0], zao c q]) ∧ Below w.heap.size w w'
theorem zAr (hV : ∀ ts, TsOk ts → ∀ T : St → R3 Nat, Rule3 ts 21 T → Prog3 ts T → VRule ts T) (l : List UInt8) (hs : l.length ≤ 16000) (a : Option Addr) (len cap : Nat) (w : World) (hl : l.length = len) (hEnv : Env w) (hI : TextAt w.heap.size w (.slice a len cap) l) :
 Calls Tryz.prog 9 #[.slice a len cap] w (zjp w (textR l)) := by
 unfold textR readM zjp
 cases hA : lexA l with
 | error e =>
  obtain ⟨c, q⟩ := e;exact zi1 a len cap w hl hEnv hI (fun W hE hI2 => zoc hA (ziu hA) a len cap W hl hE hI2)
 | ok ts =>
  have hT := zc8 hA hs;have hR : Rule0 ts 19 (fun s => textM ts 257 s) := fun B W s hB hP hk hu => zos hT (hV ts hT) 257 hB hP hk hu;have hlen : ts.length ≤ 2097152 := by have := hT.few; omega
  have hg := zgg (q := False) hT 257 (.inr (zJw _)) St.zero hT.pos rfl;dsimp only
  cases hM : textM ts 257 St.zero with
  | un => rw [hM] at hg; exact hg.elim
  | bad c q => exact zi1 a len cap w hl hEnv hI (fun W hE hI2 => zoa hA hT hlen _ hR hM a len cap W hl hE hI2)
  | ok u s' =>
   rw [hM] at hg;dsimp only;by_cases hE : (tkA ts s'.k).1 = 0
   · rw [if_pos hE]
     exact zL8 hA hT hlen _ hR hM hE hg.2.1 a len cap w hl hEnv hI
   · rw [if_neg hE]
     exact zi1 a len cap w hl hEnv hI (fun W hE2 hI2 => zpl rfl hA hT hlen _ hR hM hE hg.2.1 a len cap W hl hE2 hI2)
theorem zLe (l : List UInt8) (hs : l.length ≤ 16000) (a : Option Addr) (len cap : Nat) (w : World) (hl : l.length = len) (hEnv : Env w) (hI : TextAt w.heap.size w (.slice a len cap) l) : Calls Tryz.prog 9 #[.slice a len cap] w (zjp w (textR l)) :=
 zAr (fun _ hT T => zgq hT T) l hs a len cap w hl hEnv hI
theorem OwnTr.at_ {lo : Nat} {w : World} {t : TreeD} {p : Ptr6} (h : OwnTr lo w t p) : TreeAt (fun b => lo ≤ b ∧ b < w.heap.size) w t p := by
 obtain ⟨r1, r2, h⟩ := h;exact h.at_
theorem zLv {w : World} {r : Except (Nat × Nat) TreeD} {e : Ending} {w' : World} (h : zjp w r e w') : zfo w r e w' := by
 unfold zjp at h;unfold zfo
 cases r with
 | error x => exact h
 | ok t =>
  obtain ⟨p, e, hO, hb⟩ := h;exact ⟨p, e, hO.at_, hb⟩
theorem zvp (l : List UInt8) (hs : l.length ≤ 16000) (a : Option Addr) (len cap : Nat) (w : World) (hl : l.length = len) (hEnv : Env w) (hI : TextAt w.heap.size w (.slice a len cap) l) : Calls Tryz.prog 9 #[.slice a len cap] w (zfo w (textR l)) :=
 (zLe l hs a len cap w hl hEnv hI).mono (fun _ _ h => zLv h)
end Go.Proofs.YtidmeodmkcomlaaGreatDoor
