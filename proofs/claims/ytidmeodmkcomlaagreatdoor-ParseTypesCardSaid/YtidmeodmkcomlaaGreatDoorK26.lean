/- What the document asks of a tree, as counts: the mathematics. -/
import Derived.Test.YtidmeodmkcomlaaGreatDoorK25
import Derived.ChangeAlike
import Derived.Laws.MakeOwn
set_option linter.unusedSimpArgs false
set_option linter.unusedVariables false
namespace Go.Proofs.YtidmeodmkcomlaaGreatDoor
open Go Go.Proofs Go.RowKit
theorem zdc : ∀ (ks us : List Int) (e : Int), (takeF us ks e).2.length = us.length
 | [], us, e => rfl
 | k :: ks, us, e => by
  unfold takeF;split
  · rfl
  · split
    · simp
    · rw [zdc ks]; simp
theorem zdh : ∀ (ks us : List Int) (e : Int), Bits01 us → (takeF us ks e).1 = true → Bits01 (takeF us ks e).2
 | [], us, e, h, _ => h
 | k :: ks, us, e, h, ht => by
  unfold takeF at ht ⊢;split at ht
  · cases ht
  · rename_i h1
    rw [if_neg h1];split at ht
    · cases ht
    · rename_i h2
      rw [if_neg h2];refine zdh ks _ e (h.set _ ?_) ht;by_cases hl : k.toNat < us.length
      · have := h _ (zKe hl)
        have hg : us.getD k.toNat 0 = us[k.toNat] := by simp [zK3, hl]
        rw [hg] at h2 ⊢;omega
      · have hg : us.getD k.toNat 0 = 0 := by simp [zK3, Nat.not_lt.1 hl]
        rw [hg]; omega
def zch (nt : Int) : Nat → List TermD → List Int → List Int → Bool × List Int × List Int
 | _, [], us, ts => (true, us, ts)
 | i, n :: ns, us, ts =>
  if (takeF us n.kids i).1 then
   if (takeF ts n.types nt).1 then
    if termB n then zch nt (i + 1) ns (takeF us n.kids i).2 (takeF ts n.types nt).2
    else (false, [], [])
   else (false, [], [])
  else (false, [], [])
end Go.Proofs.YtidmeodmkcomlaaGreatDoor
namespace Go.Proofs.YtidmeodmkcomlaaGreatDoor
open Go Go.Proofs Go.RowKit
def typsF : Nat → List TypD → List Int → Bool × List Int
 | _, [], us => (true, us)
 | i, n :: ns, us => if (takeF us n.kids i).1 then if typB n then typsF (i + 1) ns (takeF us n.kids i).2 else (false, []) else (false, [])
def alisF (nt : Int) : List AliD → List Int → Bool × List Int
 | [], us => (true, us)
 | a :: al, us => if zbo (tl a.name) then if (takeF us [a.type] nt).1 then alisF nt al (takeF us [a.type] nt).2 else (false, []) else (false, [])
def KeepBut (h : Nat) (w w' : World) : Prop := ∀ g cs, g ≠ h → Blk w g 3 cs → Blk w' g 3 cs
theorem KeepBut.refl (h : Nat) (w : World) : KeepBut h w w := fun _ _ _ hb => hb
theorem KeepBut.alloc {h : Nat} {w w' : World} (k : KeepBut h w w') (o : Obj) : KeepBut h w (w'.alloc o) := fun g cs hg hb => (k g cs hg hb).alloc o
theorem KeepBut.only {h : Nat} {w w' w2 : World} (k : KeepBut h w w') (hg : w'.grownBy w2 (some h)) : KeepBut h w w2 := fun g cs hne hb => (k g cs hne hb).grown hg (fun e => by injection e with e; exact hne e)
theorem KeepBut.below {h : Nat} {w w' w2 : World} (k : KeepBut h w w') (hb : Below w'.heap.size w' w2) : KeepBut h w w2 := fun g cs hne h1 => (k g cs hne h1).below hb (k g cs hne h1).lt
end Go.Proofs.YtidmeodmkcomlaaGreatDoor
namespace Go.Proofs.YtidmeodmkcomlaaGreatDoor
open Go Go.Proofs Go.RowKit
theorem zmk (nt : Int) : ∀ (ns : List TermD) (i : Nat) (us ts : List Int), (zch nt i ns us ts).1 = true → (zch nt i ns us ts).2.1.length = us.length ∧ (zch nt i ns us ts).2.2.length = ts.length
 | [], _, us, ts, _ => ⟨rfl, rfl⟩
 | n :: ns, i, us, ts, h => by
  unfold zch at h ⊢;split at h
  · rename_i h1
    rw [if_pos h1];split at h
    · rename_i h2
      rw [if_pos h2];split at h
      · rename_i h3
        rw [if_pos h3];have := zmk nt ns _ _ _ h;rw [zdc, zdc] at this;exact this
      · cases h
    · cases h
  · cases h
theorem zko (nt : Int) : ∀ (ns : List TermD) (i : Nat) (us ts : List Int), Bits01 us → Bits01 ts → (zch nt i ns us ts).1 = true → Bits01 (zch nt i ns us ts).2.1 ∧ Bits01 (zch nt i ns us ts).2.2
 | [], _, us, ts, h1, h2, _ => ⟨h1, h2⟩
 | n :: ns, i, us, ts, hu, ht, h => by
  unfold zch at h ⊢;split at h
  · rename_i h1
    rw [if_pos h1];split at h
    · rename_i h2
      rw [if_pos h2];split at h
      · rename_i h3
        rw [if_pos h3];exact zko nt ns _ _ _ (zdh _ _ _ hu h1) (zdh _ _ _ ht h2) h
      · cases h
    · cases h
  · cases h
theorem zp3 : ∀ (ns : List TypD) (i : Nat) (us : List Int), (typsF i ns us).1 = true → (typsF i ns us).2.length = us.length
 | [], _, us, _ => rfl
 | n :: ns, i, us, h => by
  unfold typsF at h ⊢;split at h
  · rename_i h1
    rw [if_pos h1];split at h
    · rename_i h2
      rw [if_pos h2];have := zp3 ns _ _ h;rw [zdc] at this;exact this
    · cases h
  · cases h
theorem zms : ∀ (ns : List TypD) (i : Nat) (us : List Int), Bits01 us → (typsF i ns us).1 = true → Bits01 (typsF i ns us).2
 | [], _, us, h1, _ => h1
 | n :: ns, i, us, hu, h => by
  unfold typsF at h ⊢;split at h
  · rename_i h1
    rw [if_pos h1];split at h
    · rename_i h2
      rw [if_pos h2];exact zms ns _ _ (zdh _ _ _ hu h1) h
    · cases h
  · cases h
theorem zph (nt : Int) : ∀ (ns : List AliD) (us : List Int), (alisF nt ns us).1 = true → (alisF nt ns us).2.length = us.length
 | [], us, _ => rfl
 | n :: ns, us, h => by
  unfold alisF at h ⊢;split at h
  · rename_i h1
    rw [if_pos h1];split at h
    · rename_i h2
      rw [if_pos h2];have := zph nt ns _ h;rw [zdc] at this;exact this
    · cases h
  · cases h
def zbq (t : TreeD) : Bool :=
 decide (1 ≤ t.nodes.length ∧ t.nodes.length ≤ 65536 ∧ t.types.length ≤ 65536) &&
  (let F := zch t.types.length 0 t.nodes (List.replicate t.nodes.length 0) (List.replicate t.types.length 0)
   F.1 && (let G := typsF 0 t.types F.2.2
    G.1 && (let H := alisF t.types.length t.aliases G.2
     H.1 && (!decide (0 ∈ F.2.1.take (t.nodes.length - 1)) && !decide (0 ∈ H.2.take t.types.length)))))
def zb1 (t : TreeD) : Prop := (∀ x ∈ t.nodes, zbb x) ∧ (∀ x ∈ t.types, zfg x) ∧ (∀ x ∈ t.aliases, x.name.size ≤ 1000) ∧ t.aliases.length ≤ 1000 ∧ t.nodes.length ≤ 1000 ∧ t.types.length ≤ 1000
theorem zE8 (n : Nat) : madeCells #[.int .i64 0] n = ivs (List.replicate n 0) := by
 apply Array.ext
 · simp [size_madeCells, ivs]
 · intro i h1 h2
   simp [madeCells, ivs, Nat.mod_one]
end Go.Proofs.YtidmeodmkcomlaaGreatDoor
namespace Go.Proofs.YtidmeodmkcomlaaGreatDoor
open Go Go.Proofs Go.RowKit
theorem zeo : ∀ (ks us : List Int) (e : Int), (takeF us ks e).1 = true → ∀ k ∈ ks, 0 ≤ k ∧ k < e
 | [], _, _, _ => by simp
 | k :: ks, us, e, h => by
  unfold takeF at h;split at h
  · cases h
  · rename_i h1
    split at h
    · cases h
    · intro x hx
      rcases List.mem_cons.1 hx with rfl | hx
      · omega
      · exact zeo ks _ e h x hx
theorem zj7 (nt : Int) : ∀ (ns : List TermD) (i : Nat) (us ts : List Int), (zch nt i ns us ts).1 = true → ∀ j (x : TermD), ns[j]? = some x → (∀ k ∈ x.kids, 0 ≤ k ∧ k < ((i + j : Nat) : Int)) ∧ (∀ k ∈ x.types, 0 ≤ k ∧ k < nt) ∧ termB x = true
 | [], _, _, _, _ => by simp
 | n :: ns, i, us, ts, h => by
  unfold zch at h;split at h
  · rename_i h1
    split at h
    · rename_i h2
      split at h
      · rename_i h3
        intro j x hx
        cases j with
        | zero =>
         simp only [gB, zKt] at hx;subst hx;exact ⟨zeo _ _ _ h1, zeo _ _ _ h2, h3⟩
        | succ j =>
         simp only [gC] at hx;have := zj7 nt ns (i + 1) _ _ h j x hx;rw [show i + (j + 1) = i + 1 + j by omega];exact this
      · cases h
    · cases h
  · cases h
theorem zks : ∀ (ns : List TypD) (i : Nat) (us : List Int), (typsF i ns us).1 = true → ∀ j (x : TypD), ns[j]? = some x → (∀ k ∈ x.kids, 0 ≤ k ∧ k < ((i + j : Nat) : Int)) ∧ typB x = true
 | [], _, _, _ => by simp
 | n :: ns, i, us, h => by
  unfold typsF at h;split at h
  · rename_i h1
    split at h
    · rename_i h2
      intro j x hx
      cases j with
      | zero =>
       simp only [gB, zKt] at hx;subst hx;exact ⟨zeo _ _ _ h1, h2⟩
      | succ j =>
       simp only [gC] at hx;have := zks ns (i + 1) _ h j x hx;rw [show i + (j + 1) = i + 1 + j by omega];exact this
    · cases h
  · cases h
theorem zkq (nt : Int) : ∀ (ns : List AliD) (us : List Int), (alisF nt ns us).1 = true → ∀ x ∈ ns, 0 ≤ x.type ∧ x.type < nt ∧ zbo (tl x.name) = true
 | [], _, _ => by simp
 | n :: ns, us, h => by
  unfold alisF at h;split at h
  · rename_i h1
    split at h
    · rename_i h2
      intro x hx;rcases List.mem_cons.1 hx with rfl | hx
      · have := zeo _ _ _ h2 x.type (by simp)
        exact ⟨this.1, this.2, h1⟩
      · exact zkq nt ns _ h x hx
    · cases h
  · cases h
structure Rng (t : TreeD) : Prop where
 one : 1 ≤ t.nodes.length
 nod : ∀ (j : Nat) (x : TermD), t.nodes[j]? = some x → (∀ k ∈ x.kids, 0 ≤ k ∧ k < (j : Int)) ∧ (∀ k ∈ x.types, 0 ≤ k ∧ k < (t.types.length : Int)) ∧ termB x = true
 typ : ∀ (j : Nat) (x : TypD), t.types[j]? = some x → (∀ k ∈ x.kids, 0 ≤ k ∧ k < (j : Int)) ∧ typB x = true
 ali : ∀ x ∈ t.aliases, 0 ≤ x.type ∧ x.type < (t.types.length : Int) ∧ zbo (tl x.name) = true
theorem Rng.of {t : TreeD} (h : zbq t = true) : Rng t := by
 unfold zbq at h;simp only [zK6, zKq] at h;obtain ⟨⟨h1, h2, h3⟩, h4, h5, h6, _⟩ := h;exact ⟨h1, fun j x hx => by have := zj7 _ _ _ _ _ h4 j x hx; rwa [Nat.zero_add] at this, fun j x hx => by have := zks _ _ _ h5 j x hx; rwa [Nat.zero_add] at this, zkq _ _ _ h6⟩
def tyK (t : TreeD) (i : Nat) : List Nat := match t.types[i]? with | some x => x.kids.map Int.toNat | none => []
theorem Rng.dnT {t : TreeD} (h : Rng t) : Dn (tyK t) t.types.length := fun i hi k hk => by
 unfold tyK at hk;rw [zK1 hi] at hk;obtain ⟨z, hz, rfl⟩ := List.mem_map.1 hk;have := (h.typ i _ (zK1 hi)).1 z hz;omega
end Go.Proofs.YtidmeodmkcomlaaGreatDoor
namespace Go.Proofs.YtidmeodmkcomlaaGreatDoor
open Go Go.Proofs Go.RowKit
def nats (l : List Int) : List Nat := l.map Int.toNat
theorem zb6 (a b : List Int) : nats (a ++ b) = nats a ++ nats b := List.map_append
def Fresh (us ks : List Int) : Prop := (nats ks).Nodup ∧ ∀ k ∈ ks, us.getD k.toNat 0 = 0
def Cnt (us ks us' : List Int) : Prop := ∀ j, us'.getD j 0 = if j ∈ nats ks then 1 else us.getD j 0
def InR (ks : List Int) (e : Int) : Prop := ∀ k ∈ ks, 0 ≤ k ∧ k < e
theorem Fresh.nil (us : List Int) : Fresh us [] := ⟨List.nodup_nil, fun _ h => by simp at h⟩
theorem Cnt.nil (us : List Int) : Cnt us [] us := fun j => by simp [nats]
theorem zc1 {us us' a b : List Int} (h : Cnt us a us') : Fresh us (a ++ b) ↔ Fresh us a ∧ Fresh us' b := by
 unfold Fresh;rw [zb6, List.nodup_append];constructor
 · rintro ⟨⟨h1, h2, h3⟩, h4⟩
   refine ⟨⟨h1, fun k hk => h4 k (by simp [hk])⟩, h2, fun k hk => ?_⟩;rw [h k.toNat, if_neg]
   · exact h4 k (by simp [hk])
   · intro hm
     exact h3 _ hm _ (List.mem_map_of_mem hk) rfl
 · rintro ⟨⟨h1, h2⟩, h3, h4⟩
   have hdis : ∀ x ∈ nats a, ∀ y ∈ nats b, x ≠ y := by
    intro x hx y hy e;subst e;obtain ⟨k, hk, rfl⟩ := List.mem_map.1 hy;have := h4 k hk;rw [h k.toNat, if_pos hx] at this;omega
   refine ⟨⟨h1, h3, hdis⟩, fun k hk => ?_⟩;rcases List.mem_append.1 hk with hk | hk
   · exact h2 k hk
   · have := h4 k hk
     rwa [h k.toNat, if_neg (fun hm => hdis _ hm _ (List.mem_map_of_mem hk) rfl)] at this
theorem Cnt.append {us us' us'' a b : List Int} (h : Cnt us a us') (h' : Cnt us' b us'') : Cnt us (a ++ b) us'' := fun j => by
 rw [h' j, h j, zb6];by_cases h1 : j ∈ nats b <;> by_cases h2 : j ∈ nats a <;> simp [h1, h2]
theorem zDb (us : List Int) (i j : Nat) (u : Int) (hi : i < us.length) : (us.set i u).getD j 0 = if j = i then u else us.getD j 0 := by
 simp only [zK3, List.getElem?_set];by_cases h : j = i
 · subst h; simp [hi]
 · rw [if_neg (by omega), if_neg h]
theorem zfx : ∀ (ks us : List Int) (e : Int), Bits01 us → e ≤ us.length → ((takeF us ks e).1 = true ↔ InR ks e ∧ Fresh us ks) ∧ ((takeF us ks e).1 = true → Cnt us ks (takeF us ks e).2)
 | [], us, e, _, _ => by
  refine ⟨⟨fun _ => ⟨fun _ h => by simp at h, Fresh.nil us⟩, fun _ => rfl⟩, fun _ => Cnt.nil us⟩
 | k :: ks, us, e, hb, he => by
  unfold takeF;by_cases h1 : k < 0 ∨ e ≤ k
  · rw [if_pos h1]
    refine ⟨⟨fun h => by simp at h, fun h => ?_⟩, fun h => by simp at h⟩;have := h.1 k (by simp);omega
  · rw [if_neg h1]
    have hl : k.toNat < us.length := by omega
    have hg : us.getD k.toNat 0 = us[k.toNat] := by simp [zK3, hl]
    have hbk := hb _ (zKe hl);by_cases h2 : 0 < us.getD k.toNat 0
    · rw [if_pos h2]
      refine ⟨⟨fun h => by simp at h, fun h => ?_⟩, fun h => by simp at h⟩;have := h.2.2 k (by simp);omega
    · rw [if_neg h2]
      have h0 : us.getD k.toNat 0 = 0 := by omega
      rw [h0];have ih := zfx ks (us.set k.toNat (0 + 1)) e (hb.set _ (by omega)) (by simpa using he)
      have hc : Cnt us [k] (us.set k.toNat (0 + 1)) := fun j => by
       rw [zDb us _ _ _ hl];simp only [nats, List.map_cons, List.map_nil, zK7];rfl
      have hf : Fresh us [k] := ⟨by simp [nats], fun x hx => by simp only [zK7] at hx; subst hx; exact h0⟩;have hap := zc1 (b := ks) hc;refine ⟨⟨fun h => ?_, fun h => ?_⟩, fun h => ?_⟩
      · obtain ⟨i1, i2⟩ := ih.1.1 h
        refine ⟨fun x hx => ?_, hap.2 ⟨hf, i2⟩⟩;rcases List.mem_cons.1 hx with rfl | hx
        · omega
        · exact i1 x hx
      · exact ih.1.2 ⟨fun x hx => h.1 x (by simp [hx]), (hap.1 h.2).2⟩
      · exact hc.append (ih.2 h)
theorem zfc {us a b : List Int} (h : Fresh us (a ++ b)) : Fresh us a := by
 refine ⟨?_, fun k hk => h.2 k (by simp [hk])⟩;have := h.1;rw [zb6, List.nodup_append] at this;exact this.1
theorem zmp (nt : Int) : ∀ (ns : List TermD) (i : Nat) (us ts : List Int), Bits01 us → Bits01 ts → i + ns.length ≤ us.length → nt ≤ ts.length →
 ((zch nt i ns us ts).1 = true ↔ (∀ (j : Nat) (x : TermD), ns[j]? = some x → InR x.kids ((i + j : Nat) : Int) ∧ InR x.types nt ∧ termB x = true) ∧ Fresh us (ns.flatMap (·.kids)) ∧ Fresh ts (ns.flatMap (·.types))) ∧
 ((zch nt i ns us ts).1 = true → Cnt us (ns.flatMap (·.kids)) (zch nt i ns us ts).2.1 ∧ Cnt ts (ns.flatMap (·.types)) (zch nt i ns us ts).2.2)
 | [], i, us, ts, _, _, _, _ => by
  refine ⟨⟨fun _ => ⟨fun j x h => by simp at h, Fresh.nil us, Fresh.nil ts⟩, fun _ => rfl⟩, fun _ => ⟨Cnt.nil us, Cnt.nil ts⟩⟩
 | n :: ns, i, us, ts, hu, ht, hl, hn => by
  have hl' : i + ns.length + 1 ≤ us.length := by simpa [Nat.add_assoc] using hl
  obtain ⟨k1, k2⟩ := zfx n.kids us i hu (by omega);obtain ⟨t1, t2⟩ := zfx n.types ts nt ht hn;unfold zch;simp only [List.flatMap_cons];by_cases h1 : (takeF us n.kids i).1 = true
  · rw [if_pos h1]
    by_cases h2 : (takeF ts n.types nt).1 = true
    · rw [if_pos h2]
      by_cases h3 : termB n = true
      · rw [if_pos h3]
        have ih := zmp nt ns (i + 1) (takeF us n.kids i).2 (takeF ts n.types nt).2 (zdh _ _ _ hu h1) (zdh _ _ _ ht h2) (by rw [zdc]; omega) (by rw [zdc]; exact hn);have ha := zc1 (b := ns.flatMap (·.kids)) (k2 h1);have hb := zc1 (b := ns.flatMap (·.types)) (t2 h2);refine ⟨⟨fun h => ?_, fun h => ?_⟩, fun h => ⟨(k2 h1).append (ih.2 h).1, (t2 h2).append (ih.2 h).2⟩⟩
        · obtain ⟨i1, i2, i3⟩ := ih.1.1 h
          refine ⟨fun j x hx => ?_, ha.2 ⟨(k1.1 h1).2, i2⟩, hb.2 ⟨(t1.1 h2).2, i3⟩⟩
          cases j with
          | zero =>
           simp only [gB, zKt] at hx;subst hx;exact ⟨(k1.1 h1).1, (t1.1 h2).1, h3⟩
          | succ j =>
           simp only [gC] at hx;have := i1 j x hx;rw [show i + (j + 1) = i + 1 + j by omega];exact this
        · refine ih.1.2 ⟨fun j x hx => ?_, (ha.1 h.2.1).2, (hb.1 h.2.2).2⟩
          have := h.1 (j + 1) x (by simpa using hx);rw [show i + (j + 1) = i + 1 + j by omega] at this;exact this
      · rw [if_neg h3]
        refine ⟨⟨fun h => by simp at h, fun h => absurd (h.1 0 n rfl).2.2 h3⟩, fun h => by simp at h⟩
    · rw [if_neg h2]
      refine ⟨⟨fun h => by simp at h, fun h => absurd (t1.2 ⟨(h.1 0 n rfl).2.1, zfc h.2.2⟩) h2⟩, fun h => by simp at h⟩
  · rw [if_neg h1]
    refine ⟨⟨fun h => by simp at h, fun h => absurd (k1.2 ⟨(h.1 0 n rfl).1, zfc h.2.1⟩) h1⟩, fun h => by simp at h⟩
theorem zol : ∀ (ns : List TypD) (i : Nat) (us : List Int), Bits01 us → i + ns.length ≤ us.length →
 ((typsF i ns us).1 = true ↔ (∀ (j : Nat) (x : TypD), ns[j]? = some x → InR x.kids ((i + j : Nat) : Int) ∧ typB x = true) ∧ Fresh us (ns.flatMap (·.kids))) ∧
 ((typsF i ns us).1 = true → Cnt us (ns.flatMap (·.kids)) (typsF i ns us).2)
 | [], i, us, _, _ => by
  refine ⟨⟨fun _ => ⟨fun j x h => by simp at h, Fresh.nil us⟩, fun _ => rfl⟩, fun _ => Cnt.nil us⟩
 | n :: ns, i, us, hu, hl => by
  have hl' : i + ns.length + 1 ≤ us.length := by simpa [Nat.add_assoc] using hl
  obtain ⟨k1, k2⟩ := zfx n.kids us i hu (by omega);unfold typsF;simp only [List.flatMap_cons];by_cases h1 : (takeF us n.kids i).1 = true
  · rw [if_pos h1]
    by_cases h3 : typB n = true
    · rw [if_pos h3]
      have ih := zol ns (i + 1) (takeF us n.kids i).2 (zdh _ _ _ hu h1) (by rw [zdc]; omega);have ha := zc1 (b := ns.flatMap (·.kids)) (k2 h1);refine ⟨⟨fun h => ?_, fun h => ?_⟩, fun h => (k2 h1).append (ih.2 h)⟩
      · obtain ⟨i1, i2⟩ := ih.1.1 h
        refine ⟨fun j x hx => ?_, ha.2 ⟨(k1.1 h1).2, i2⟩⟩
        cases j with
        | zero =>
         simp only [gB, zKt] at hx;subst hx;exact ⟨(k1.1 h1).1, h3⟩
        | succ j =>
         simp only [gC] at hx;have := i1 j x hx;rw [show i + (j + 1) = i + 1 + j by omega];exact this
      · refine ih.1.2 ⟨fun j x hx => ?_, (ha.1 h.2).2⟩
        have := h.1 (j + 1) x (by simpa using hx);rw [show i + (j + 1) = i + 1 + j by omega] at this;exact this
    · rw [if_neg h3]
      exact ⟨⟨fun h => by simp at h, fun h => absurd (h.1 0 n rfl).2 h3⟩, fun h => by simp at h⟩
  · rw [if_neg h1]
    exact ⟨⟨fun h => by simp at h, fun h => absurd (k1.2 ⟨(h.1 0 n rfl).1, zfc h.2⟩) h1⟩, fun h => by simp at h⟩
theorem zoh (nt : Int) : ∀ (ns : List AliD) (us : List Int), Bits01 us → nt ≤ us.length →
 ((alisF nt ns us).1 = true ↔ (∀ x ∈ ns, 0 ≤ x.type ∧ x.type < nt ∧ zbo (tl x.name) = true) ∧ Fresh us (ns.map (·.type))) ∧
 ((alisF nt ns us).1 = true → Cnt us (ns.map (·.type)) (alisF nt ns us).2)
 | [], us, _, _ => by
  refine ⟨⟨fun _ => ⟨fun x h => by simp at h, Fresh.nil us⟩, fun _ => rfl⟩, fun _ => Cnt.nil us⟩
 | n :: ns, us, hu, hl => by
  obtain ⟨k1, k2⟩ := zfx [n.type] us nt hu hl;unfold alisF;simp only [List.map_cons];by_cases h3 : zbo (tl n.name) = true
  · rw [if_pos h3]
    by_cases h1 : (takeF us [n.type] nt).1 = true
    · rw [if_pos h1]
      have ih := zoh nt ns (takeF us [n.type] nt).2 (zdh _ _ _ hu h1) (by rw [zdc]; exact hl);have ha := zc1 (b := ns.map (·.type)) (k2 h1);refine ⟨⟨fun h => ?_, fun h => ?_⟩, fun h => (k2 h1).append (ih.2 h)⟩
      · obtain ⟨i1, i2⟩ := ih.1.1 h
        refine ⟨fun x hx => ?_, ha.2 ⟨(k1.1 h1).2, i2⟩⟩;rcases List.mem_cons.1 hx with rfl | hx
        · have := (k1.1 h1).1 x.type (by simp)
          exact ⟨this.1, this.2, h3⟩
        · exact i1 x hx
      · exact ih.1.2 ⟨fun x hx => h.1 x (by simp [hx]), (ha.1 h.2).2⟩
    · rw [if_neg h1]
      refine ⟨⟨fun h => by simp at h, fun h => absurd (k1.2 ⟨fun x hx => ?_, zfc (a := [n.type]) h.2⟩) h1⟩, fun h => by simp at h⟩;simp only [zK7] at hx;subst hx;have := h.1 n (by simp);exact ⟨this.1, this.2.1⟩
  · rw [if_neg h3]
    exact ⟨⟨fun h => by simp at h, fun h => absurd (h.1 n (by simp)).2.2 h3⟩, fun h => by simp at h⟩
def zcb (t : TreeD) : List Int := t.nodes.flatMap (·.kids)
def zbn (t : TreeD) : List Int := t.nodes.flatMap (·.types) ++ (t.types.flatMap (·.kids) ++ t.aliases.map (·.type))
structure Whole (t : TreeD) : Prop where
 rng : Rng t
 big : t.nodes.length ≤ 65536
 bigT : t.types.length ≤ 65536
 onceN : (nats (zcb t)).Nodup
 onceT : (nats (zbn t)).Nodup
 allN : ∀ j, j < t.nodes.length - 1 → j ∈ nats (zcb t)
 allT : ∀ j, j < t.types.length → j ∈ nats (zbn t)
theorem bits0 (n : Nat) : Bits01 (List.replicate n 0) := fun u hu => by rw [List.eq_of_mem_replicate hu]; omega
theorem get0 (n j : Nat) : (List.replicate n (0 : Int)).getD j 0 = 0 := by
 simp only [zK3, List.getElem?_replicate];split <;> rfl
theorem zlk (n : Nat) (ks : List Int) : Fresh (List.replicate n 0) ks ↔ (nats ks).Nodup := ⟨fun h => h.1, fun h => ⟨h, fun _ _ => get0 n _⟩⟩
theorem zuu {us ks : List Int} {n m : Nat} (hl : us.length = n) (hc : Cnt (List.replicate n 0) ks us) (hm : m ≤ n) : 0 ∉ us.take m ↔ ∀ j, j < m → j ∈ nats ks := by
 constructor
 · intro h j hj
   refine Decidable.byContradiction fun hn => h ?_;have := hc j;rw [if_neg hn, get0] at this;have hjl : j < us.length := by omega
   rw [zK3, zK1 hjl] at this;have e : us[j] = 0 := this;rw [← e];exact List.mem_iff_getElem.2 ⟨j, by simp; omega, by simp⟩
 · intro h hm0
   obtain ⟨j, hj, e⟩ := List.mem_iff_getElem.1 hm0;simp only [zKi] at hj;rw [List.getElem_take] at e;have := hc j;rw [if_pos (h j (by omega)), zK3, zK1 (by omega)] at this;have e' : us[j]'(by omega) = 1 := this;omega
theorem ze0 (t : TreeD) : zbq t = true ↔ Whole t := by
 have bN := bits0 t.nodes.length;have bT := bits0 t.types.length;obtain ⟨n1, n2⟩ := zmp t.types.length t.nodes 0 (List.replicate t.nodes.length 0) (List.replicate t.types.length 0) bN bT (by simp) (by simp);have nl := zmk t.types.length t.nodes 0 (List.replicate t.nodes.length 0) (List.replicate t.types.length 0);have nb := zko t.types.length t.nodes 0 (List.replicate t.nodes.length 0) (List.replicate t.types.length 0) bN bT;unfold zbq;dsimp only;obtain ⟨F, hF⟩ : ∃ F, zch t.types.length 0 t.nodes (List.replicate t.nodes.length 0) (List.replicate t.types.length 0) = F := ⟨_, rfl⟩;rw [hF] at n1 n2 nl nb ⊢;obtain ⟨f, us, ts⟩ := F;dsimp only at *;clear hF
 cases f with
 | false =>
  simp only [Bool.false_and, Bool.and_false, Bool.false_eq_true, false_iff];intro h;have := n1.2 ⟨fun j x hx => by have := h.rng.nod j x hx; rw [Nat.zero_add]; exact this, (zlk _ _).2 h.onceN, (zlk _ _).2 (by have := h.onceT; unfold zbn at this; rw [zb6, List.nodup_append] at this; exact this.1)⟩;cases this
 | true =>
  obtain ⟨m1, m2⟩ := n1.1 rfl;obtain ⟨c1, c2⟩ := n2 rfl;obtain ⟨l1, l2⟩ := nl rfl;obtain ⟨b1, b2⟩ := nb rfl;rw [List.length_replicate] at l1 l2;obtain ⟨p1, p2⟩ := zol t.types 0 ts b2 (by omega);have pl := zp3 t.types 0 ts;have pb := zms t.types 0 ts b2;obtain ⟨G, hG⟩ : ∃ G, typsF 0 t.types ts = G := ⟨_, rfl⟩;rw [hG] at p1 p2 pl pb ⊢;obtain ⟨f, ts'⟩ := G;dsimp only at *;clear hG
  cases f with
  | false =>
   simp only [Bool.false_and, Bool.and_false, Bool.false_eq_true, false_iff];intro h;have hT := (zlk t.types.length _).2 h.onceT;have := p1.2 ⟨fun j x hx => by have := h.rng.typ j x hx; rw [Nat.zero_add]; exact this, zfc ((zc1 c2).1 hT).2⟩;cases this
  | true =>
   obtain ⟨q1, q2⟩ := p1.1 rfl;have d2 := p2 rfl;have l3 := pl rfl;have b3 := pb rfl;obtain ⟨r1, r2⟩ := zoh t.types.length t.aliases ts' b3 (by omega);have rl := zph t.types.length t.aliases ts';obtain ⟨H, hH⟩ : ∃ H, alisF t.types.length t.aliases ts' = H := ⟨_, rfl⟩;rw [hH] at r1 r2 rl ⊢;obtain ⟨f, tz⟩ := H;dsimp only at *;clear hH
   cases f with
   | false =>
    simp only [Bool.false_and, Bool.and_false, Bool.false_eq_true, false_iff];intro h;have hT := (zlk t.types.length _).2 h.onceT;have := r1.2 ⟨h.rng.ali, ((zc1 d2).1 ((zc1 c2).1 hT).2).2⟩;cases this
   | true =>
    obtain ⟨s1, s2⟩ := r1.1 rfl;have e2 := r2 rfl;have l4 := rl rfl;have hc : Cnt (List.replicate t.types.length 0) (zbn t) tz := c2.append (d2.append e2);have hz1 := zuu (n := t.nodes.length) (m := t.nodes.length - 1) l1 c1 (by omega);have hz2 := zuu (n := t.types.length) (m := t.types.length) (by omega) hc (zJw _);have hfr : Fresh (List.replicate t.types.length 0) (zbn t) := (zc1 c2).2 ⟨m2.2, (zc1 d2).2 ⟨q2, s2⟩⟩;simp only [Bool.true_and, zK6, zKq, Bool.not_eq_true', zKs];constructor
    · rintro ⟨⟨g1, g2, g3⟩, g4, g5⟩
      exact ⟨⟨g1, fun j x hx => by have := m1 j x hx; rwa [Nat.zero_add] at this, fun j x hx => by have := q1 j x hx; rwa [Nat.zero_add] at this, s1⟩, g2, g3, m2.1.1, hfr.1, hz1.1 g4, hz2.1 g5⟩
    · intro h
      exact ⟨⟨h.rng.one, h.big, h.bigT⟩, hz1.2 h.allN, hz2.2 h.allT⟩
end Go.Proofs.YtidmeodmkcomlaaGreatDoor
