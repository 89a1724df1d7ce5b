/- Whether two trees are the same, as the -/
import Derived.Test.YtidmeodmkcomlaaGreatDoorL43
namespace Go.Proofs.YtidmeodmkcomlaaGreatDoor
open Go Go.Proofs Go.RowKit
def rT (a b : TreeD) (i j : Nat) : Bool := atT a b i j && all2 (same (atY a b) (tyK a) (tyK b)) (tmT a i) (tmT b j)
theorem zl4 {α β : Type} {r s : α → β → Bool} : ∀ {l : List α} {m : List β}, (∀ a ∈ l, ∀ b ∈ m, r a b = true → s a b = true) → all2 r l m = true → all2 s l m = true
 | [], [], _, _ => rfl
 | a :: l, b :: m, h, hr => by
  simp only [all2, zK6] at hr ⊢;exact ⟨h a (by simp) b (by simp) hr.1, zl4 (fun a ha b hb => h a (by simp [ha]) b (by simp [hb])) hr.2⟩
 | [], _ :: _, _, hr => by simp [all2] at hr
 | _ :: _, [], _, hr => by simp [all2] at hr
theorem zmj {α β : Type} : ∀ {l : List α} {m : List β}, l.length = m.length → all2 (fun _ _ => true) l m = true
 | [], [], _ => rfl
 | _ :: l, _ :: m, h => by
  simp only [all2, Bool.true_and];exact zmj (by simpa using h)
 | [], _ :: _, h => by simp at h
 | _ :: _, [], h => by simp at h
theorem zau {M K R T n : Int} {kl tl : Nat} {b0 b1 b2 : Bool} (h : za6 M K R T n kl tl b0 b1 b2 = true) : K ≤ kl ∧ (kl : Int) ≤ K + R ∧ (tl : Int) = T := by
 unfold za6 at h;simp only [zK6, zKq] at h;exact ⟨h.1.2.2.1, h.1.2.2.2.1, h.1.2.2.2.2⟩
theorem zsv {x y : TermD} (hx : termB x = true) (hy : termB y = true) (hk : x.kind = y.kind) : x.types.length = y.types.length := by
 have key : ∀ z : TermD, termB z = true → (z.types.length : Int) = if z.kind = 15 then 1 else if z.kind = 16 then 2 else 0 := by
  intro z hz;unfold termB at hz;by_cases k0 : z.kind = 0
  · rw [if_pos k0] at hz
    rw [if_neg (by omega), if_neg (by omega)];exact (zau hz).2.2
  rw [if_neg k0] at hz;by_cases k1 : z.kind = 1
  · rw [if_pos k1] at hz
    rw [if_neg (by omega), if_neg (by omega)];exact (zau hz).2.2
  rw [if_neg k1] at hz;by_cases k2 : z.kind = 2
  · rw [if_pos k2] at hz
    rw [if_neg (by omega), if_neg (by omega)];exact (zau hz).2.2
  rw [if_neg k2] at hz;by_cases k3 : z.kind = 3
  · rw [if_pos k3] at hz
    rw [if_neg (by omega), if_neg (by omega)];exact (zau hz).2.2
  rw [if_neg k3] at hz;by_cases k4 : z.kind = 4
  · rw [if_pos k4] at hz
    rw [if_neg (by omega), if_neg (by omega)];exact (zau hz).2.2
  rw [if_neg k4] at hz;by_cases k5 : z.kind = 5 ∨ z.kind = 13
  · rw [if_pos k5] at hz
    rw [if_neg (by omega), if_neg (by omega)];exact (zau hz).2.2
  rw [if_neg k5] at hz;by_cases k6 : z.kind = 6
  · rw [if_pos k6] at hz
    rw [if_neg (by omega), if_neg (by omega)];exact (zau hz).2.2
  rw [if_neg k6] at hz;by_cases k7 : z.kind = 7 ∨ z.kind = 8
  · rw [if_pos k7] at hz
    rw [if_neg (by omega), if_neg (by omega)];exact (zau hz).2.2
  rw [if_neg k7] at hz;by_cases k8 : z.kind = 9
  · rw [if_pos k8] at hz
    rw [if_neg (by omega), if_neg (by omega)];exact (zau hz).2.2
  rw [if_neg k8] at hz;by_cases k9 : z.kind = 10
  · rw [if_pos k9] at hz
    rw [if_neg (by omega), if_neg (by omega)];exact (zau hz).2.2
  rw [if_neg k9] at hz;by_cases k10 : z.kind = 11
  · rw [if_pos k10] at hz
    rw [if_neg (by omega), if_neg (by omega)];exact (zau hz).2.2
  rw [if_neg k10] at hz;by_cases k11 : z.kind = 12
  · rw [if_pos k11] at hz
    rw [if_neg (by omega), if_neg (by omega)];exact (zau hz).2.2
  rw [if_neg k11] at hz;by_cases k12 : z.kind = 14
  · rw [if_pos k12] at hz
    rw [if_neg (by omega), if_neg (by omega)];exact (zau hz).2.2
  rw [if_neg k12] at hz;by_cases k13 : z.kind = 15
  · rw [if_pos k13] at hz
    rw [if_pos k13];exact (zau hz).2.2
  rw [if_neg k13] at hz;by_cases k14 : z.kind = 16
  · rw [if_pos k14] at hz
    rw [if_neg (by omega), if_pos k14];exact (zau hz).2.2
  rw [if_neg k14] at hz;cases hz
 have h1 := key x hx;have h2 := key y hy;rw [hk] at h1;omega
theorem zxf {x y : TypD} (hx : typB x = true) (hy : typB y = true) (hk : x.kind = y.kind) (hn : x.names = y.names) : x.kids.length = y.kids.length := by
 have key : ∀ z : TypD, typB z = true → (z.kids.length : Int) = if z.kind = 7 then 2 else if z.kind = 8 ∨ z.kind = 9 then (z.names.length : Int) else 0 := by
  intro z hz;unfold typB at hz;by_cases k0 : 0 ≤ z.kind ∧ z.kind ≤ 6
  · rw [if_pos k0] at hz
    rw [zK6] at hz;have h := zau hz.1;rw [if_neg (by omega), if_neg (by omega)];omega
  rw [if_neg k0] at hz;by_cases k1 : z.kind = 7
  · rw [if_pos k1] at hz
    rw [zK6] at hz;have h := zau hz.1;rw [if_pos k1];omega
  rw [if_neg k1] at hz;by_cases k2 : z.kind = 8
  · rw [if_pos k2] at hz
    rw [zK6] at hz;have h := zau hz.1;rw [if_neg (by omega), if_pos (by omega)];omega
  rw [if_neg k2] at hz;by_cases k3 : z.kind = 9
  · rw [if_pos k3] at hz
    have h := zau hz;rw [if_neg (by omega), if_pos (by omega)];omega
  rw [if_neg k3] at hz;by_cases k4 : z.kind = 10
  · rw [if_pos k4] at hz
    rw [zK6] at hz;have h := zau hz.1;rw [if_neg (by omega), if_neg (by omega)];omega
  rw [if_neg k4] at hz;cases hz
 have h1 := key x hx;have h2 := key y hy;rw [hk, hn] at h1;omega
theorem zjn (t : TreeD) (i : Nat) : nats (zd5 t i) = tmT t i := by
 unfold zd5 tmT;cases t.nodes[i]? <;> rfl
theorem zFt {a b : TreeD} {i j : Nat} (h : atT a b i j = true) : (tmK a i).length = (tmK b j).length := by
 unfold atT at h;split at h
 · rename_i x y hx hy
   unfold tmK;rw [hx, hy];simp only [zKd];unfold smT at h;simp only [zKq] at h;exact h.2.2.2.2.2
 · cases h
theorem zxs {a b : TreeD} (ha : Rng a) (hb : Rng b) {i j : Nat} (h : atT a b i j = true) : (tmT a i).length = (tmT b j).length := by
 unfold atT at h;split at h
 · rename_i x y hx hy
   unfold tmT;rw [hx, hy];simp only [zKd];unfold smT at h;simp only [zKq] at h;exact zsv (ha.nod i x hx).2.2 (hb.nod j y hy).2.2 h.1
 · cases h
theorem zCi {a b : TreeD} (ha : Rng a) (hb : Rng b) {i j : Nat} (h : atY a b i j = true) : (tyK a i).length = (tyK b j).length := by
 unfold atY at h;split at h
 · rename_i x y hx hy
   unfold tyK;rw [hx, hy];simp only [zKd];unfold smY at h;simp only [zKq] at h;exact zxf (ha.typ i x hx).2 (hb.typ j y hy).2 h.1 h.2.2.2
 · cases h
theorem zye {a b : TreeD} (hA : Whole a) (hB : Whole b) :
 sameB a b = (all2 (fun x y => smA x y && same (atY a b) (tyK a) (tyK b) x.type.toNat y.type.toNat) a.aliases b.aliases && same (rT a b) (tmK a) (tmK b) (a.nodes.length - 1) (b.nodes.length - 1)) := by
 have ra := hA.rng;have rb := hB.rng;have na : a.nodes.length - 1 < a.nodes.length := by have := ra.one; omega
 have nb : b.nodes.length - 1 < b.nodes.length := by have := rb.one; omega
 have e1 : same (rT a b) (tmK a) (tmK b) (a.nodes.length - 1) (b.nodes.length - 1) = (all2 (atT a b) (zam a) (zam b) && all2 (fun i j => all2 (same (atY a b) (tyK a) (tyK b)) (tmT a i) (tmT b j)) (zam a) (zam b)) := by
  rw [← zw6 ra.dnN rb.dnN (fun i j _ _ h => zFt (by unfold rT at h; rw [zK6] at h; exact h.1)) na nb];exact zla
 rw [e1, zla];unfold sameB;rw [(ze0 a).2 hA, (ze0 b).2 hB];simp only [Bool.true_and]
 cases hP : all2 (atT a b) (zam a) (zam b) with
 | false => simp
 | true =>
  cases hQ : all2 smA a.aliases b.aliases with
  | false => simp
  | true =>
   have hal := zep hQ;have htl := zep hP;have hlen : all2 (fun i j => decide ((tmT a i).length = (tmT b j).length)) (zam a) (zam b) = true := zl4 (fun i _ j _ h => by rw [zKq]; exact zxs ra rb h) hP;have hf := zjj (r := same (atY a b) (tyK a) (tyK b)) htl hlen
   have eA : nats (zdi a (zam a)) = (zam a).flatMap (tmT a) ++ a.aliases.map (fun x => x.type.toNat) := by
    unfold zdi;rw [zb6, zhj, show (fun i => nats (zd5 a i)) = tmT a from funext fun i => zjn a i];unfold nats;rw [List.map_map];rfl
   have eB : nats (zdi b (zam b)) = (zam b).flatMap (tmT b) ++ b.aliases.map (fun x => x.type.toNat) := by
    unfold zdi;rw [zb6, zhj, show (fun i => nats (zd5 b i)) = tmT b from funext fun i => zjn b i];unfold nats;rw [List.map_map];rfl
   have hfl : ((zam a).flatMap (tmT a)).length = ((zam b).flatMap (tmT b)).length := by
    have h := zep (r := fun (_ _ : Nat) => true) (l := (zam a).flatMap (tmT a)) (m := (zam b).flatMap (tmT b)) (by
     rw [zjj htl hlen];refine zl4 (fun i _ j _ h => ?_) hlen;rw [zKq] at h
     exact zmj h)
    exact h
   have hY : all2 (atY a b) (zcr a (zam a)) (zcr b (zam b)) = (all2 (fun i j => all2 (same (atY a b) (tyK a) (tyK b)) (tmT a i) (tmT b j)) (zam a) (zam b) && all2 (fun x y => same (atY a b) (tyK a) (tyK b) x.type.toNat y.type.toNat) a.aliases b.aliases) := by
    unfold zcr
    rw [zlw ra.dnT rb.dnT (fun i j _ _ h => zCi ra rb h) _ _ (fun k hk => by
     obtain ⟨z, hz, rfl⟩ := List.mem_map.1 hk;have := zho ra _ z hz
     omega) (fun k hk => by
     obtain ⟨z, hz, rfl⟩ := List.mem_map.1 hk;have := zho rb _ z hz
     omega) (by rw [eA, eB, zK5, zK5, zKd, zKd, hfl, hal]), eA, eB, zfv hfl, hf, zs8]
   rw [hY];simp only [Bool.true_and];exact Bool.and_comm _ _
end Go.Proofs.YtidmeodmkcomlaaGreatDoor
