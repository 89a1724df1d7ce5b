/- Types of one tree that lies twice in memory are the same, and at the same places. Terms of one tree that lies twice in memory are at the same places. A tree -/
import Derived.Test.YtidmeodmkcomlaaGreatDoorK01
import Derived.Test.YtidmeodmkcomlaaGreatDoorK52
import Derived.BigRegion
import Derived.Deep.CutRange
import Derived.Test.YtidmeodmkcomlaaGreatDoorK47
import Derived.Test.YtidmeodmkcomlaaGreatDoorK51
import Derived.Test.YtidmeodmkcomlaaGreatDoorK31
import Derived.Test.YtidmeodmkcomlaaGreatDoorK43
import Derived.Test.YtidmeodmkcomlaaGreatDoorK46
import Derived.Lib.SlBytesRow
import Derived.Test.YtidmeodmkcomlaaGreatDoorK06
import Derived.Test.YtidmeodmkcomlaaGreatDoorCards
import Derived.Test.YtidmeodmkcomlaaGreatDoorTie
import Derived.ProofKit
import Derived.OpenShut
import Derived.LaidMore
import Derived.Lay
import Derived.PinnedBridge
import Derived.Lib.LaidU8T
import Derived.Stop.Joined
import Derived.SevenTiedAt
import Derived.Stop.LaidErr
namespace Go.Proofs.YtidmeodmkcomlaaGreatDoor
open Go Go.Proofs Go.RowKit
set_option maxHeartbeats 8000000
set_option maxHeartbeats 8000000
structure Dwn (t : TreeD) : Prop where
 typ : ∀ (j : Nat) (x : TypD), t.types[j]? = some x → ∀ k ∈ x.kids, 0 ≤ k ∧ k < (j : Int)
 nod : ∀ (j : Nat) (x : TermD), t.nodes[j]? = some x → (∀ k ∈ x.kids, 0 ≤ k ∧ k < (j : Int)) ∧ ∀ k ∈ x.types, 0 ≤ k ∧ k < (t.types.length : Int)
 kty : ∀ x ∈ t.types, x.kids.length ≤ 1000000
 kno : ∀ x ∈ t.nodes, x.kids.length ≤ 1000000 ∧ x.types.length ≤ 1000000
 len : t.nodes.length ≤ 1000000 ∧ t.types.length ≤ 1000000 ∧ t.aliases.length ≤ 1000000
theorem zI2 {d : Nat} {t : TreeD} {j : Nat} {x : TermD} (h : (t.sh d).nodes[j]? = some x) : ∃ y, t.nodes[j]? = some y ∧ x = shT d y := by
 have h : (t.nodes.map (shT d))[j]? = some x := h;rw [List.getElem?_map, zKg] at h;obtain ⟨y, hy, e⟩ := h;exact ⟨y, hy, e.symm⟩
theorem zIp {d : Nat} {t : TreeD} {j : Nat} {x : TypD} (h : (t.sh d).types[j]? = some x) : ∃ y, t.types[j]? = some y ∧ x = shY d y := by
 have h : (t.types.map (shY d))[j]? = some x := h;rw [List.getElem?_map, zKg] at h;obtain ⟨y, hy, e⟩ := h;exact ⟨y, hy, e.symm⟩
theorem zs2 (d : Nat) (t : TreeD) : (t.sh d).nodes.length = t.nodes.length ∧ (t.sh d).types.length = t.types.length ∧ (t.sh d).aliases.length = t.aliases.length := ⟨zKd _, zKd _, zKd _⟩
theorem zmg (d : Nat) (t : TreeD) : zcb (t.sh d) = zcb t := by
 show (t.nodes.map (shT d)).flatMap (·.kids) = t.nodes.flatMap (·.kids)
 rw [List.flatMap_map]; rfl
theorem zm4 (d : Nat) (t : TreeD) : zbn (t.sh d) = zbn t := by
 show (t.nodes.map (shT d)).flatMap (·.types) ++ ((t.types.map (shY d)).flatMap (·.kids) ++ (t.aliases.map (shA d)).map (·.type)) = _
 rw [List.flatMap_map, List.flatMap_map, List.map_map]; rfl
theorem zqz {t : TreeD} (h : Whole t) (d : Nat) : Whole (t.sh d) := by
 obtain ⟨l1, l2, _⟩ := zs2 d t;refine ⟨⟨by rw [l1]; exact h.rng.one, fun j x hx => ?_, fun j x hx => ?_, fun x hx => ?_⟩, by rw [l1]; exact h.big, by rw [l2]; exact h.bigT, by rw [zmg]; exact h.onceN, by rw [zm4]; exact h.onceT, by rw [l1, zmg]; exact h.allN, by rw [l2, zm4]; exact h.allT⟩
 · obtain ⟨y, hy, rfl⟩ := zI2 hx
   rw [l2];exact h.rng.nod j y hy
 · obtain ⟨y, hy, rfl⟩ := zIp hx
   exact h.rng.typ j y hy
 · obtain ⟨y, hy, rfl⟩ := List.mem_map.1 hx
   rw [l2];exact h.rng.ali y hy
theorem zIb {t : TreeD} (h : zb1 t) (d : Nat) : zb1 (t.sh d) := by
 obtain ⟨l1, l2, l3⟩ := zs2 d t;refine ⟨fun x hx => ?_, fun x hx => ?_, fun x hx => ?_, by rw [l3]; exact h.2.2.2.1, by rw [l1]; exact h.2.2.2.2.1, by rw [l2]; exact h.2.2.2.2.2⟩
 · obtain ⟨y, hy, rfl⟩ := List.mem_map.1 hx
   exact h.1 y hy
 · obtain ⟨y, hy, rfl⟩ := List.mem_map.1 hx
   exact h.2.1 y hy
 · obtain ⟨y, hy, rfl⟩ := List.mem_map.1 hx
   exact h.2.2.1 y hy
theorem zIj (d : Nat) (t : TreeD) : tmK (t.sh d) = tmK t := by
 funext i
 unfold tmK;show (match (t.nodes.map (shT d))[i]? with | some x => x.kids.map Int.toNat | none => []) = _
 rw [List.getElem?_map];cases t.nodes[i]? <;> rfl
theorem zIa (d : Nat) (t : TreeD) : tyK (t.sh d) = tyK t := by
 funext i
 unfold tyK;show (match (t.types.map (shY d))[i]? with | some x => x.kids.map Int.toNat | none => []) = _
 rw [List.getElem?_map];cases t.types[i]? <;> rfl
theorem zvr (d : Nat) (t : TreeD) : zd5 (t.sh d) = zd5 t := by
 funext i
 unfold zd5;show (match (t.nodes.map (shT d))[i]? with | some x => x.types | none => []) = _
 rw [List.getElem?_map];cases t.nodes[i]? <;> rfl
theorem zA0 (d : Nat) (t : TreeD) : zam (t.sh d) = zam t := by
 unfold zam;rw [zIj, (zs2 d t).1]
theorem zyp (d : Nat) (t : TreeD) (l : List Nat) : zcr (t.sh d) l = zcr t l := by
 unfold zcr zdi;rw [zIa, zvr, show (t.sh d).aliases.map (·.type) = t.aliases.map (·.type) from by show (t.aliases.map (shA d)).map _ = _; rw [List.map_map]; rfl]
theorem zH1 {t : TreeD} (h : Whole t) (d : Nat) : sameB t (t.sh d) = true := by
 have hw := zqz h d;unfold sameB;rw [(ze0 t).2 h, (ze0 (t.sh d)).2 hw, zA0, zyp];simp only [Bool.true_and, zK6];have htm := zp2 h.rng;refine ⟨zec (fun i hi => ?_), ?_, zec (fun i hi => ?_)⟩
 · have hi := htm i hi
   unfold atT;show (match t.nodes[i]?, (t.nodes.map (shT d))[i]? with | some x, some y => smT x y | _, _ => false) = true
   rw [List.getElem?_map, zK1 hi];exact zrg _
 · show all2 smA t.aliases (t.aliases.map (shA d)) = true
   have : ∀ l : List AliD, all2 smA l (l.map (shA d)) = true := by
    intro l
    induction l with
    | nil => rfl
    | cons a l ih => simp only [List.map_cons, all2, zK6]; exact ⟨zrt _, ih⟩
   exact this _
 · have hi : i < t.types.length := by
    unfold zcr at hi;obtain ⟨k, hk, hi⟩ := List.mem_flatMap.1 hi;obtain ⟨z, hz, rfl⟩ := List.mem_map.1 hk
    have hz2 : 0 ≤ z ∧ z < (t.types.length : Int) := by
     unfold zdi at hz;rcases List.mem_append.1 hz with hz | hz
     · obtain ⟨j, _, hz⟩ := List.mem_flatMap.1 hz
       exact zmm h.rng j z hz
     · obtain ⟨x, hx, rfl⟩ := List.mem_map.1 hz
       exact ⟨(h.rng.ali x hx).1, (h.rng.ali x hx).2.1⟩
    exact zn3 h.rng.dnT (by omega) i hi
   unfold atY;show (match t.types[i]?, (t.types.map (shY d))[i]? with | some x, some y => smY x y | _, _ => false) = true
   rw [List.getElem?_map, zK1 hi];exact zqx _
theorem zc2 {M K R T n : Int} {kl tl : Nat} {b0 b1 b2 : Bool} (h : za6 M K R T n kl tl b0 b1 b2 = true) : n ≤ M := by
 unfold za6 at h;simp only [zK6, zKq] at h;exact h.1.2.1
theorem zIr {x : TermD} (h : termB x = true) : x.int ≤ 9223372036854775807 := by
 unfold termB at h;by_cases hc : x.kind = 0
 · rw [if_pos hc] at h; have := zc2 h; omega
 rw [if_neg hc] at h;clear hc;by_cases hc : x.kind = 1
 · rw [if_pos hc] at h; have := zc2 h; omega
 rw [if_neg hc] at h;clear hc;by_cases hc : x.kind = 2
 · rw [if_pos hc] at h; have := zc2 h; omega
 rw [if_neg hc] at h;clear hc;by_cases hc : x.kind = 3
 · rw [if_pos hc] at h; have := zc2 h; omega
 rw [if_neg hc] at h;clear hc;by_cases hc : x.kind = 4
 · rw [if_pos hc] at h; have := zc2 h; omega
 rw [if_neg hc] at h;clear hc;by_cases hc : x.kind = 5 ∨ x.kind = 13
 · rw [if_pos hc] at h; have := zc2 h; omega
 rw [if_neg hc] at h;clear hc;by_cases hc : x.kind = 6
 · rw [if_pos hc] at h; have := zc2 h; omega
 rw [if_neg hc] at h;clear hc;by_cases hc : x.kind = 7 ∨ x.kind = 8
 · rw [if_pos hc] at h; have := zc2 h; omega
 rw [if_neg hc] at h;clear hc;by_cases hc : x.kind = 9
 · rw [if_pos hc] at h; have := zc2 h; omega
 rw [if_neg hc] at h;clear hc;by_cases hc : x.kind = 10
 · rw [if_pos hc] at h; have := zc2 h; omega
 rw [if_neg hc] at h;clear hc;by_cases hc : x.kind = 11
 · rw [if_pos hc] at h; have := zc2 h; omega
 rw [if_neg hc] at h;clear hc;by_cases hc : x.kind = 12
 · rw [if_pos hc] at h; have := zc2 h; omega
 rw [if_neg hc] at h;clear hc;by_cases hc : x.kind = 14
 · rw [if_pos hc] at h; have := zc2 h; omega
 rw [if_neg hc] at h;clear hc;by_cases hc : x.kind = 15
 · rw [if_pos hc] at h; have := zc2 h; omega
 rw [if_neg hc] at h;clear hc;by_cases hc : x.kind = 16
 · rw [if_pos hc] at h; have := zc2 h; omega
 rw [if_neg hc] at h;clear hc;cases h
theorem zox {t : TreeD} (h : Whole t) : ∀ x ∈ t.nodes, x.int ≤ 9223372036854775807 := fun x hx => by
 obtain ⟨j, hj, rfl⟩ := zKo hx;exact zIr (h.rng.nod j _ (zK1 hj)).2.2
theorem zL0 (t : TreeD) (d : Nat) (p q : Ptr6) (hW : Whole t) (hF : zb1 t) (w : World) (hA : TreeAt (Lt w.heap.size) w t p) (hB : TreeAt (Lt w.heap.size) w (t.sh d) q) :
 Calls Tryz.prog 11 #[treeV t p, treeV (t.sh d) q] w fun e w' => e = .returned (.bool true) ∧ Below w.heap.size w w' := by
 have h := zyr t (t.sh d) p q w hA hB hF (zIb hF d) (zox hW) (zox (zqz hW d));rw [zH1 hW d] at h;exact h
def Nz {α : Type} : R3 α → Prop
 | .bad c _ => c ≠ 0
 | _ => True
section
variable {α β : Type} {ts : List Tk}
theorem Nz.bind {P : R3 α} {f : α → St → R3 β} (h : Nz P) (k : ∀ i s1, Nz (f i s1)) : Nz (P.bind f) := by
 cases P with
 | ok i s1 => exact k i s1
 | bad e p => exact h
 | un => trivial
theorem Nz.weak {P : R3 α} (h : Nz P) (_ : (0 : Nat) ≤ 0) : Nz P := h
theorem Nz.on {P : R3 α} (h : Nz P) : Nz P := h
theorem Nz.moved {P : R3 α} {s1 s : St} (h : Nz P) (_ : s1.k = s.k) (_ : s1.t1 = s.t1) (_ : s1.t2 = s.t2) : Nz P := h
theorem Nz.ok_ {s : St} {i : α} : Nz (.ok i s) := trivial
theorem nz_token {kind : Nat} {s : St} : Nz (zag ts kind s) := by
 unfold zag;split
 · trivial
 · exact (by decide : (4 : Nat) ≠ 0)
theorem nz_must {x : List UInt8} {s : St} : Nz (mustM ts x s) := by
 unfold mustM;split
 · trivial
 · exact (by decide : (4 : Nat) ≠ 0)
theorem nz_own {o kind : Nat} {s : St} : Nz (ownM ts o kind s) := by
 refine Nz.bind nz_token (fun t s1 => ?_);split
 · exact (by decide : (8 : Nat) ≠ 0)
 · trivial
theorem nz_newT {x : TermD} {s : St} : Nz (newT s x) := by
 unfold newT;split
 · trivial
 · exact (by decide : (6 : Nat) ≠ 0)
theorem nz_newY {x : TypD} {s : St} : Nz (newY s x) := by
 unfold newY;split
 · trivial
 · exact (by decide : (6 : Nat) ≠ 0)
def NzT (P : St → R3 Nat) : Prop := ∀ s, Nz (P s)
variable {P E T : St → R3 Nat}
theorem zx8 (hP : NzT P) (o : Nat) (sign : List UInt8) : ∀ (f : Nat) (ns : List (List UInt8)) (ks : List Int) (s : St), Nz (zbc ts P o sign f ns ks s) := by
 intro f
 induction f with
 | zero => intro ns ks s; trivial
 | succ f ih =>
  intro ns ks s;unfold zbc;refine Nz.weak  (nz_own.bind (fun x s1 => nz_must.bind (fun _ s2 => (hP s2).bind (fun i s3 => ?_)))) (by omega);split
  · exact (trivial : Nz (R3.ok _ _))
  · exact (nz_must.bind (fun _ s4 => ih _ _ s4))
theorem zom (hP : NzT P) (o : Nat) (sign : List UInt8) (s : St) : Nz (zan ts P o sign s) := by
 unfold zan;split
 · exact (trivial : Nz (R3.ok _ _))
 · exact zx8 hP o sign _ _ _ s
theorem zm9 (hT : NzT T) : NzT (zay ts T) := by
 intro s;unfold zay;split
 · exact Nz.weak (Nz.on ((hT (s.on 1)).bind (fun i s1 => nz_must.bind (fun _ s2 => Nz.ok_)))) (by omega)
 split
 · exact Nz.weak (Nz.on ((zom hT _ _ (s.on 1)).bind (fun x s1 => nz_newY))) (by omega)
 split
 · exact Nz.weak (Nz.on nz_newY) (by omega)
 · first | trivial | exact (by decide : (4 : Nat) ≠ 0) | exact (by decide : (5 : Nat) ≠ 0)
theorem zGf (x : Vr) (s : St) : Nz (itemM ts x s) := by
 unfold itemM;split
 · exact (trivial : Nz (R3.ok _ _))
 refine Nz.weak  (Nz.bind ?_ (fun _ s1 => ?_)) (by omega)
 · split
   · exact Nz.ok_
   · exact nz_must
 split
 · exact Nz.weak (Nz.on (nz_must.bind (fun _ s2 => Nz.ok_))) (by omega)
 · exact (nz_own.bind (fun n s2 => Nz.ok_))
theorem zsj (hT : NzT T) : ∀ (f : Nat) (x : Vr) (r : List Vr) (s : St), Nz (zaq ts T f x r s) := by
 intro f
 induction f with
 | zero => intro x r s; trivial
 | succ f ih =>
  intro x r s;unfold zaq;refine Nz.weak  ((zGf x s).bind (fun y s1 => ?_)) (by omega);split
  · refine Nz.weak  (nz_newY.bind (fun i s2 => ?_)) (by omega)
    split
    · exact Nz.ok_
    · exact (ih _ _ s2)
  · split
    · exact Nz.weak (Nz.on (ih _ _ (s1.on 1))) (by omega)
    · exact Nz.weak ((zm9 hT s1).bind (fun i s2 => ih _ _ s2)) (by omega)
theorem zyf (hT : NzT T) : NzT (zak ts T) := by
 intro s;unfold zak;split
 · unfold zbp
   exact Nz.weak (Nz.on (zsj hT _ _ _ (s.on 1))) (by omega)
 · exact zm9 hT s
theorem zut : ∀ f, NzT (typeM ts f) := by
 intro f
 induction f with
 | zero => intro s; trivial
 | succ f ih =>
  intro s;unfold typeM;split
  · first | trivial | exact (by decide : (4 : Nat) ≠ 0) | exact (by decide : (5 : Nat) ≠ 0)
  refine Nz.moved (s1 := s.up) (Nz.weak  ((zyf ih s.up).bind (fun i s1 => ?_)) (by omega)) rfl rfl rfl;split
  · refine Nz.weak (Nz.on ((ih (s1.on 1)).bind  (fun j s2 => nz_newY.bind (fun l s3 => ?_)))) (by omega)
    trivial
  · trivial
theorem zx7 (hE : NzT E) (hY : NzT T) (s : St) : Nz (zas ts E T s) := by
 unfold zas;refine Nz.weak (Nz.on ((hE (s.on 1)).bind  (fun i s1 => ?_))) (by omega);split
 · exact (trivial : Nz (R3.ok _ _))
 refine Nz.weak (nz_must.bind (fun _ s2 => (hY s2).bind  (fun j s3 => ?_))) (by omega);split
 · exact Nz.weak (Nz.on ((hY (s3.on 1)).bind (fun l s4 => nz_must.bind (fun _ s5 => nz_newT)))) (by omega)
 · exact Nz.weak (nz_must.bind (fun _ s5 => nz_newT)) (by omega)
theorem zHt (hE : NzT E) (hY : NzT T) : NzT (atomM ts E T) := by
 intro s;unfold atomM;split
 · exact zx7 hE hY s
 split
 · unfold zbu
   exact Nz.weak (Nz.on ((zom hE _ _ (s.on 1)).bind (fun x s1 => nz_newT))) (by omega)
 split
 · exact Nz.weak (Nz.on nz_newT) (by omega)
 · first | trivial | exact (by decide : (4 : Nat) ≠ 0) | exact (by decide : (5 : Nat) ≠ 0)
theorem zD7 : ∀ (f left : Nat) (s : St), Nz (postL ts f left s) := by
 intro f
 induction f with
 | zero => intro left s; trivial
 | succ f ih =>
  intro left s;unfold postL;split
  · exact Nz.weak (Nz.on (nz_token.bind (fun t s1 => nz_newT.bind (fun i s2 => ih i s2)))) (by omega)
  · exact Nz.ok_
theorem zug (hE : NzT E) (hY : NzT T) : NzT (postM ts E T) := fun s => ((zHt hE hY s).bind (fun i s1 => zD7 _ i s1))
theorem ztj (hE : NzT E) (hY : NzT T) : NzT (unitM ts E T) := by
 intro s;unfold unitM;split
 · exact Nz.weak (Nz.on ((zug hE hY (s.on 1)).bind (fun i s1 => nz_newT))) (by omega)
 · exact zug hE hY s
theorem zAe (hE : NzT E) (hY : NzT T) : ∀ (f left : Nat) (s : St), Nz (zat ts E T f left s) := by
 intro f
 induction f with
 | zero => intro left s; trivial
 | succ f ih =>
  intro left s;unfold zat;split
  · exact Nz.weak ((ztj hE hY s).bind (fun i s1 => nz_newT.bind (fun j s2 => ih j s2))) (by omega)
  · exact Nz.ok_
theorem zCa (hE : NzT E) (hY : NzT T) : NzT (zb0 ts E T) := fun s => ((ztj hE hY s).bind (fun i s1 => zAe hE hY _ i s1))
theorem nz_op (hP : NzT P) (left : Nat) (s : St) : Nz (opM ts P left s) := Nz.weak (Nz.on ((hP (s.on 1)).bind (fun i s1 => nz_newT))) (by omega)
theorem zF8 (hP : NzT P) (sg : List (List UInt8)) : ∀ (f left : Nat) (s : St), Nz (rowL ts P sg f left s) := by
 intro f
 induction f with
 | zero => intro left s; trivial
 | succ f ih =>
  intro left s;unfold rowL;split
  · exact Nz.weak ((nz_op hP left s).bind (fun i s1 => ih i s1)) (by omega)
  · exact Nz.ok_
theorem zrj (hP : NzT P) (sg : List (List UInt8)) : NzT (rowM ts P sg) := fun s => ((hP s).bind (fun i s1 => zF8 hP sg _ i s1))
theorem zul (hE : NzT E) (hY : NzT T) : NzT (joinM ts E T) := zrj (zrj (zrj (zCa hE hY) _) _) _
theorem zvz (hE : NzT E) (hY : NzT T) : NzT (zad ts E T) := by
 intro s;refine Nz.weak  ((zul hE hY s).bind (fun i s1 => ?_)) (by omega);split
 · exact nz_op (zul hE hY) i s1
 · exact Nz.ok_
theorem zAo (hE : NzT E) (o : Nat) : ∀ (f : Nat) (ns : List (List UInt8)) (ks : List Int) (s : St), Nz (zbz ts E o f ns ks s) := by
 intro f
 induction f with
 | zero => intro ns ks s; trivial
 | succ f ih =>
  intro ns ks s;unfold zbz;split
  · split
    · exact Nz.weak (Nz.on (nz_must.bind (fun _ s1 => (hE s1).bind (fun i s2 => Nz.ok_)))) (by omega)
    · exact Nz.weak (Nz.on (nz_own.bind (fun x s1 => nz_token.bind (fun t s2 => nz_must.bind (fun _ s3 => (hE s3).bind (fun i s4 => ih _ _ s4)))))) (by omega)
  · exact Nz.ok_
theorem zBz (hE : NzT E) (hY : NzT T) : NzT (zba ts E T) := by
 intro s;unfold zba;split
 · unfold funM
   exact Nz.weak (Nz.on (nz_token.bind (fun t s1 => nz_must.bind (fun _ s2 => (hE s2).bind (fun i s3 => nz_newT))))) (by omega)
 split
 · unfold letM
   dsimp only;split
   · exact Nz.weak (Nz.on (nz_token.bind (fun t s1 => nz_must.bind (fun _ s2 => (hE s2).bind (fun i s3 => nz_must.bind (fun _ s4 => (hE s4).bind (fun j s5 => nz_newT))))))) (by omega)
   · exact Nz.weak (Nz.on (nz_token.bind (fun t s1 => nz_must.bind (fun _ s2 => (hE s2).bind (fun i s3 => nz_must.bind (fun _ s4 => (hE s4).bind (fun j s5 => nz_newT))))))) (by omega)
 split
 · unfold zby
   exact Nz.weak (Nz.on ((hE (s.on 1)).bind (fun i s1 => nz_must.bind (fun _ s2 => (hE s2).bind (fun j s3 => nz_must.bind (fun _ s4 => (hE s4).bind (fun l s5 => nz_newT))))))) (by omega)
 split
 · unfold zci
   exact Nz.weak (Nz.on ((hE (s.on 1)).bind (fun i s1 => nz_must.bind (fun _ s2 => (zAo hE _ _ _ _ s2).bind (fun x s3 => nz_must.bind (fun _ s4 => nz_newT)))))) (by omega)
 exact zvz hE hY s
theorem zFg : ∀ f, NzT (termM ts f) := by
 intro f
 induction f with
 | zero => intro s; trivial
 | succ f ih =>
  intro s;unfold termM;split
  · first | trivial | exact (by decide : (4 : Nat) ≠ 0) | exact (by decide : (5 : Nat) ≠ 0)
  refine Nz.moved (s1 := s.up) (Nz.weak  ((zBz ih (zut f) s.up).bind (fun i s1 => ?_)) (by omega)) rfl rfl rfl;trivial
theorem zC6 (hY : NzT T) : ∀ (f : Nat) (s : St), Nz (zb7 ts T f s) := by
 intro f
 induction f with
 | zero => intro s; trivial
 | succ f ih =>
  intro s;unfold zb7;split
  · exact Nz.weak (Nz.on (nz_token.bind (fun t s1 => nz_must.bind (fun _ s2 => (hY s2).bind (fun i s3 => Nz.moved (s1 := s3.addA ⟨bs t.2.1, (i : Int), (t.2.2 : Nat)⟩) (nz_must.bind (fun _ s4 => ih s4)) rfl rfl rfl))))) (by omega)
  · exact Nz.ok_
theorem zFb (f : Nat) (s : St) : Nz (textM ts f s) := ((zC6 (zut f) _ s).bind (fun _ s1 => (zFg f s1).bind (fun _ _s2 => Nz.ok_)))
end
theorem zHl {l : List UInt8} {c q : Nat} (hl : l.length ≤ 15000) (h : textR l = .error (c, q)) : c ≠ 0 := by
 unfold textR readM at h
 cases hA : lexA l with
 | error e =>
  rw [hA] at h;obtain ⟨c', q'⟩ := e;injection h with h
  injection h with h1 h2
  subst h1;exact ziu hA
 | ok ts =>
  rw [hA] at h;dsimp only at h;have hT := zc8 hA (by omega);have hg := zgg (q := False) hT 257 (.inr (zJw _)) St.zero hT.pos rfl;have hz := zFb (ts := ts) 257 St.zero
  cases hM : textM ts 257 St.zero with
  | un => rw [hM] at hg; exact hg.elim
  | bad e p =>
   rw [hM] at h hz;injection h with h
   injection h with h1 h2
   subst h1;exact hz
  | ok u s' =>
   rw [hM] at h;dsimp only at h;split at h
   · cases h
   · injection h with h
     injection h with h1 h2
     omega
set_option maxHeartbeats 40000000
theorem zf9 (a b : List UInt8) : bs a ++ bs b = bs (a ++ b) := by
 unfold bs;apply ByteArray.ext
 simp [ByteArray.data_append]
set_option maxRecDepth 100000 in
theorem zue (l : List UInt8) (m : Nat) (_hm : m ≤ 65535) (a : Option Addr) (len cap : Nat) (w : World) (_hl : l.length = len) (h3 : 300 < len) (hE : Env w) : Calls Tryz.prog 6 #[.slice a len cap, .int .u16 (m : Int)] w fun e w' => e = .returned (.bool true) ∧ Below w.heap.size w w' := by
 have cV := zjm w hE;have hd : decide ((300 : Int) < (len : Int)) = true := by rw [zKq]; omega
 go_enter Tryz.func6, Tryz.ntmps6
 go_wp2_with fail
 refine cV.mono ?_;rintro e w1 ⟨rfl, hb1⟩;have cW := zjm w1 (hE.on hb1);have HB1 := zJv hb1;clear cV hb1;go_wp2_with fail
 refine cW.mono ?_;rintro e w2 ⟨rfl, hb2⟩;have HB2 := zJv (HB1.out.trans (hb2.mono HB1.out.size));clear cW hb2;go_wp2_with fail
 go_ret;exact ⟨rfl, HB2.out⟩
theorem zpx {t : TreeD} : ¬ textR [] = .ok t := by
 have e : textR [] = .error (4, 0) := by kernel_rfl
 rw [e];intro h;cases h
theorem zDa (j : Nat) : bs (List.replicate j 40) ++ ⟨#[40]⟩ = bs (List.replicate (j + 1) 40) := by
 rw [show (⟨#[40]⟩ : ByteArray) = bs [40] from rfl, zf9, List.replicate_succ']
theorem zDm (x : List UInt8) (j : Nat) : bs (x ++ List.replicate j 41) ++ ⟨#[41]⟩ = bs (x ++ List.replicate (j + 1) 41) := by
 rw [show (⟨#[41]⟩ : ByteArray) = bs [41] from rfl, zf9, List.append_assoc, List.replicate_succ']
set_option maxRecDepth 100000 in
theorem zrw (l : List UInt8) (m : Nat) (hm : m ≤ 65535) (a : Option Addr) (len cap : Nat) (w : World) (hl : l.length = len) (h3 : len ≤ 300) (hE : Env w) (hI : TextAt w.heap.size w (.slice a len cap) l) : Calls Tryz.prog 6 #[.slice a len cap, .int .u16 (m : Int)] w fun e w' => e = .returned (.bool true) ∧ Below w.heap.size w w' := by
 have cV := zjm w hE;have hd : decide ((300 : Int) < (len : Int)) = false := by rw [zKs]; omega
 obtain ⟨n, hn⟩ : ∃ n, m % 300 = n := ⟨_, rfl⟩;have hn300 : n < 300 := by omega
 have hrem : ((m : Int)).tmod 300 = (n : Int) := by rw [← hn]; rfl
 go_enter Tryz.func6, Tryz.ntmps6
 go_wp2_with fail
 refine cV.mono ?_;rintro e w1 ⟨rfl, hb1⟩;have hE1 := hE.on hb1;have hI1 : TextAt w1.heap.size w1 (.slice a len cap) l := (hI.below hb1).more hb1.size;have cT := zvp l (by omega) a len cap w1 hl hE1 hI1;have HB1 := zJv hb1;have HE1 := zJv hE1;have HI1 := zJv hI1;clear cV hb1 hE1 hI1 hE hI hn
 cases hR : textR l with
 | error e0 =>
  obtain ⟨c, q⟩ := e0;have hc := zHl (by omega) hR;rw [hR] at cT;have hcb : ((c : Int) != 0) = true := by rw [bne_iff_ne]; omega
  go_wp2_with fail
  refine cT.mono ?_;rintro e w2 ⟨rfl, hb2⟩;have HB2 := zJv (HB1.out.trans (hb2.mono HB1.out.size));clear cT hb2;go_wp2_with fail
  go_ret;exact ⟨rfl, (HB2.out.alloc HB2.out.size _).alloc (by simp only [zKh]; have := HB2.out.size; omega) _⟩
 | ok t =>
  rw [hR] at cT
  obtain ⟨b0, off, rfl⟩ : ∃ b off, a = some ⟨b, off, none⟩ := by
   rcases HI1.out with ⟨a', cap', _, e, rfl⟩ | ⟨b, off, cap', e, _⟩
   · exact absurd hR zpx
   · injection e with e1; exact ⟨b, off, e1⟩
  have HBY : Hid (b0 < w1.heap.size ∧ Lib.Bytes w1 b0 off (bs l)) := zJv (by
   rcases HI1.out with ⟨a', cap', _, e, rfl⟩ | ⟨b, off', cap', e, hbl, _, hh⟩
   · exact absurd hR zpx
   · injection e with e1
     injection e1 with e1
     injection e1 with e1 e2
     subst e1;subst e2;refine ⟨hbl, fun i hi => ?_⟩;have hi' : i < l.length := by rwa [zbh] at hi
     rw [hh i hi'];congr 2
     rw [zK3, zK1 hi']
     rfl)
  by_cases ha : t.aliases = []
  · have hal : decide (0 < t.aliases.length) = false := by rw [ha]; decide
    have HAL := zJv ha;clear ha;go_wp2_with fail
    refine cT.mono ?_;rintro e w2 ⟨p, rfl, hTA, hb2⟩;have HB2 := zJv (HB1.out.trans (hb2.mono HB1.out.size));have HB12 := zJv hb2;have HTA := zJv hTA;clear cT hb2 hTA;go_wp2_with fail
    obtain ⟨W4, hW4⟩ : ∃ W4, w2.alloc (.cells #[.slice p.a1 t.nodes.length p.c1, .slice p.a2 t.types.length p.c2, .slice p.a3 t.aliases.length p.c3] 27) = W4 := ⟨_, rfl⟩;obtain ⟨W5, hW5⟩ : ∃ W5, W4.alloc (.cells #[.int .i64 0, .int .i64 0, .string ⟨#[]⟩] 30) = W5 := ⟨_, rfl⟩;rw [hW4, hW5];have hb4 : Below w2.heap.size w2 W4 := by rw [← hW4]; exact (zJx _ _).alloc (zJw _) _
    have hb5 : Below W4.heap.size W4 W5 := by rw [← hW5]; exact (zJx _ _).alloc (zJw _) _
    have hb25 : Below w2.heap.size w2 W5 := hb4.trans (hb5.mono hb4.size);have hX : Blk W5 w2.heap.size 27 #[.slice p.a1 t.nodes.length p.c1, .slice p.a2 t.types.length p.c2, .slice p.a3 t.aliases.length p.c3] := by rw [← hW5, ← hW4]; exact (Blk.new w2 27 _).alloc _
    have HX := zJv hX;have HB5 := zJv (HB2.out.trans (hb25.mono HB2.out.size));have HT5 : Hid (TreeAt (Lt W5.heap.size) W5 t p) := zJv ((HTA.out.keep (fun b o hb => hb25.cell (p := ⟨b, o, none⟩) hb.2)).imp (fun b hb => zJy hb.2 hb25.size))
    have HI5 : Hid (TextAt W5.heap.size W5 (.slice (some ⟨b0, off, none⟩) len cap) l) := zJv (by
     have hb15 : Below w1.heap.size w1 W5 := HB12.out.trans (hb25.mono HB12.out.size)
     exact (HI1.out.below hb15).more hb15.size)
    have hcv := Lib.run_convert_whole (P := Tryz.prog) W5 33 5 9 Tryz.underlying33 Tryz.underlying5 Tryz.underlying9 b0 off (bs l) (fun i hi => ((HB12.out.trans (hb25.mono HB12.out.size)).cell (p := ⟨b0, off + i, none⟩) HBY.out.1).trans (HBY.out.2 i hi)) cap;rw [show (bs l).size = len from (zbh l).trans hl] at hcv;have HB15 := zJv (HB12.out.trans (hb25.mono HB12.out.size));clear hb4 hb5 hb25 hX hW4 hW5;go_loopw [8, 37] (fun x c wr => ∃ j : Nat, j ≤ n ∧ x = .string (bs (List.replicate j 40)) ∧ c = .int .i64 (j : Int) ∧ wr = W5) (fun _ c _ => n - (intOf c).toNat)
    case atStart => exact ⟨0, zK8 _, rfl, rfl, rfl⟩
    case round =>
     obtain ⟨j, hj, rfl, rfl, rfl⟩ := hrel;have hs4 : (bs (List.replicate j 40)).size = j := by rw [zbh, List.length_replicate]
     have hc4 := zDa j;by_cases hlt : j < n
     · go_wp2_with fail
       exact ⟨⟨j + 1, by omega, rfl, rfl, trivial⟩, by simp [intOf]; omega⟩
     · obtain rfl : j = n := by omega
       clear hc4;have hl32 := zf9 l [32];have e32 : (⟨#[32]⟩ : ByteArray) = bs [32] := rfl;have hc5 : bs l ++ ⟨#[32]⟩ = bs (l ++ [32]) := by rw [e32, hl32]
       have hc6 : bs (List.replicate j 40) ++ bs (l ++ [32]) = bs (List.replicate j 40 ++ (l ++ [32])) := zf9 _ _;have hc7 : bs (List.replicate j 40 ++ (l ++ [32])) ++ ⟨#[10]⟩ = bs (List.replicate j 40 ++ (l ++ [32, 10])) := by rw [show (⟨#[10]⟩ : ByteArray) = bs [10] from rfl, zf9]; simp
       have hz5 : (bs l).size = l.length := zbh l;have hz6 : (bs (l ++ [32])).size = l.length + 1 := by rw [zbh]; simp
       have hz7 : (bs (List.replicate j 40 ++ (l ++ [32]))).size = j + l.length + 1 := by rw [zbh]; simp; omega
       have hz8 : (bs (List.replicate j 40 ++ (l ++ [32, 10]))).size = j + l.length + 2 := by rw [zbh]; simp; omega
       clear hl32 e32;rw [hl] at hz5 hz6 hz7 hz8;go_wp2_with fail
       obtain ⟨X, hX⟩ : ∃ X, List.replicate j 40 ++ (l ++ [32, 10]) = X := ⟨_, rfl⟩;have HXB : Hid (X ++ List.replicate j 41 = brk j l) := zJv (by rw [← hX]; simp [brk]);have hXl : X.length = j + len + 2 := by rw [← hX]; simp; omega
       rw [hX];clear hX hcv hc5 hc6 hc7 hz5 hz6 hz7 hz8 hs4;obtain ⟨WB, rfl⟩ : ∃ WB, WB = wr := ⟨wr, rfl⟩;go_loopw [8, 50] (fun x c wr => ∃ i : Nat, i ≤ j ∧ x = .string (bs (X ++ List.replicate i 41)) ∧ c = .int .i64 (i : Int) ∧ wr = WB) (fun _ c _ => j - (intOf c).toNat)
       case atStart => exact ⟨0, zK8 _, by rw [List.replicate_zero, List.append_nil], rfl, rfl⟩
       case round =>
        obtain ⟨i, hi, rfl, rfl, rfl⟩ := hrel;have hs4 : (bs (X ++ List.replicate i 41)).size = j + len + 2 + i := by rw [zbh, zK5, List.length_replicate, hXl]
        have hc4 := zDm X i;by_cases hlt : i < j
        · go_wp2_with fail
          exact ⟨⟨i + 1, by omega, rfl, rfl, trivial⟩, by simp [intOf]; omega⟩
        · obtain rfl : i = j := by omega
          have kc := fun (w : World) (s : ByteArray) => Lib.run_convert_string_bytes (P := Tryz.prog) w 9 33 5 s Tryz.underlying9 Tryz.underlying33 Tryz.underlying5;clear hc4 hs4;rw [HXB.out];have hs5 : (bs (brk i l)).size = len + 2 * i + 2 := by rw [zbh, ztc, hl]
          go_wp2_with fail
          have hbs1 : Below wr.heap.size wr (Lib.bytesWorld wr 5 (bs (brk i l))) := Go.Joins.below_bytesWorld _ _ _ _ (zJw _);have hz1 : (Lib.bytesWorld wr 5 (bs (brk i l))).heap.size = wr.heap.size + 1 := Lib.bytesWorld_size _ _ _;have hE1 : Env (Lib.bytesWorld wr 5 (bs (brk i l))) := HE1.out.on (HB15.out.trans (hbs1.mono HB15.out.size));have hT1 := zga wr (bs (brk i l));rw [tl_bs, ← hz1, hs5] at hT1;have cU := zvp (brk i l) (by rw [ztc]; omega) (some ⟨wr.heap.size, 0, none⟩) (len + 2 * i + 2) (grownCap wr (len + 2 * i + 2) 0 5) (Lib.bytesWorld wr 5 (bs (brk i l))) (by rw [ztc, hl]) hE1 hT1;rcases zJr (k := i) (by omega) (by omega) hR HAL.out with ⟨hk, q, hq⟩ | ⟨hk, hu⟩
          · rw [hq] at cU
            have hdp := zJk (by rw [ztc]; omega) hq;refine cU.mono ?_;rintro e w6 ⟨rfl, hb6⟩;have HB6 := zJv (HB5.out.trans ((hbs1.trans (hb6.mono hbs1.size)).mono HB5.out.size));have hk1 : decide ((0 : Int) < (i : Int)) = true := by rw [zKq]; omega
            have hwr : IntKind.i64.wrap (256 - (i : Int)) = 256 - (i : Int) := by rw [IntKind.wrap_i64]; omega
            have hq1 : decide (256 - (i : Int) ≤ (q : Int)) = true := by rw [zKq]; omega
            clear cU hT1 hE1 hbs1 hz1 hb6 hdp hq kc;go_wp2_with fail
            go_ret;exact ⟨rfl, (HB6.out.alloc HB6.out.size _).alloc (by simp only [zKh]; have := HB6.out.size; omega) _⟩
          · rw [hu] at cU
            obtain ⟨hW, hF⟩ := zJ5 (by omega) hR;refine cU.mono ?_;rintro e w6 ⟨p2, rfl, hTB, hb6⟩;have hk1 : decide ((i : Int) < 256) = true := by rw [zKq]; omega
            have hb56 : Below wr.heap.size wr w6 := hbs1.trans (hb6.mono hbs1.size);have hX6 := HX.out.below hb56 HX.out.lt;have x0 := hX6.cell 0;have x1 := hX6.cell 1;have x2 := hX6.cell 2;simp only [gA, gB, gC] at x0 x1 x2;have HB6 := zJv (HB5.out.trans (hb56.mono HB5.out.size));have HTA6 := zJv ((HT5.out.keep (fun b o hb => hb56.cell (p := ⟨b, o, none⟩) hb)).imp (Qb := Lt w6.heap.size) (fun b hb => zJy hb hb56.size));have HTB6 := zJv (hTB.imp (Qb := Lt w6.heap.size) (fun b hb => hb.2));have HW := zJv hW;have HF := zJv hF;have hl6 : w2.heap.size < w6.heap.size := hX6.lt;clear cU hT1 hE1 hbs1 hz1 hb6 hu kc hTB hW hF hX6 hb56;go_wp2_with fail
            obtain ⟨W8, hW8⟩ : ∃ W8, (w6.alloc (.cells #[.slice p2.a1 (t.sh i).nodes.length p2.c1, .slice p2.a2 (t.sh i).types.length p2.c2, .slice p2.a3 (t.sh i).aliases.length p2.c3] 27)).alloc (.cells #[.int .i64 0, .int .i64 0, .string ⟨#[]⟩] 30) = W8 := ⟨_, rfl⟩;rw [hW8];have hb78 : Below w6.heap.size w6 W8 := by rw [← hW8]; exact ((zJx _ _).alloc (zJw _) _).alloc (by simp only [zKh]; omega) _
            have cS := zL0 t i p p2 HW.out HF.out W8 ((HTA6.out.keep (fun b o hb => hb78.cell (p := ⟨b, o, none⟩) hb)).imp (fun b hb => zJy hb hb78.size)) ((HTB6.out.keep (fun b o hb => hb78.cell (p := ⟨b, o, none⟩) hb)).imp (fun b hb => zJy hb hb78.size));refine cS.mono ?_;rintro e w9 ⟨rfl, hb9⟩;have HB9 := zJv (HB6.out.trans ((hb78.trans (hb9.mono hb78.size)).mono HB6.out.size));clear cS hb78 hb9 hW8;go_wp2_with fail
            go_ret;exact ⟨rfl, HB9.out⟩
  · have hal : decide (0 < t.aliases.length) = true := by
     rw [zKq];exact List.length_pos_iff.2 ha
    go_wp2_with fail
    refine cT.mono ?_;rintro e w2 ⟨p, rfl, hTA, hb2⟩;have HB2 := zJv (HB1.out.trans (hb2.mono HB1.out.size));clear cT hb2 hTA;go_wp2_with fail
    go_ret;exact ⟨rfl, (HB2.out.alloc HB2.out.size _).alloc (by simp only [zKh]; have := HB2.out.size; omega) _⟩
theorem zxk (l : List UInt8) (m : Nat) (hm : m ≤ 65535) (a : Option Addr) (len cap : Nat) (w : World) (hl : l.length = len) (hE : Env w) (hI : TextAt w.heap.size w (.slice a len cap) l) : Calls Tryz.prog 6 #[.slice a len cap, .int .u16 (m : Int)] w fun e w' => e = .returned (.bool true) ∧ Below w.heap.size w w' := by
 by_cases h3 : 300 < len
 · exact zue l m hm a len cap w hl h3 hE
 · exact zrw l m hm a len cap w hl (by omega) hE hI
end Go.Proofs.YtidmeodmkcomlaaGreatDoor
namespace Go.Proofs.YtidmeodmkcomlaaGreatDoor
open Go Go.Proofs Go.RowKit Go.Shelf Go.Lib
open Go.ChangeShapes Go.WideShapes Go.ChangeAt
theorem own : ownKnob Tryz.prog.godebug = none := by kernel_rfl
theorem zJg : laidOutB Tryz.prog = true := by kernel_rfl
def laid2 : List (String × DataW Unit) := Rows.parseRowsRow.laid
def zr2 : Ren := ⟨fun n => n, fun | 5 => 5 | 119 => 160 | 138 => 162 | 139 => 163 | n => n, fun | 3 => 0 | 4 => 1 | n => n⟩
theorem zD9 : U8Types Tryz.prog zr2 := ⟨by kernel_rfl, by kernel_rfl, by kernel_rfl, by kernel_rfl⟩
theorem zBn : U8Extra Tryz.prog zr2 := ⟨by kernel_rfl, by kernel_rfl, by kernel_rfl, by kernel_rfl, by kernel_rfl, by kernel_rfl, by kernel_rfl⟩
theorem zzp : (Rows.laid_unicode_utf8_acceptRanges : DataW Unit) = acceptData := by kernel_rfl
theorem zDq : Rows.laid_unicode_utf8_first = firstData := Pinned.utf8First_eq
theorem gER : Tryz.prog.globalNamed "strconv.ErrRange" = some 5 := by kernel_rfl
theorem zGd : (Tryz.prog.globals[5]?).map (·.type) = some 145 := by kernel_rfl
theorem zJ3 : Tryz.prog.cellsOf 182 = 1 := by kernel_rfl
theorem zIw : Tryz.prog.cellsOf 9 = 1 := by kernel_rfl
def nmES : String := match (Rows.laid_strconv_ErrRange : DataW Unit) with
 | .iface n _ => n
 | _ => ""
theorem rowE (u : TypeId) (h : Tryz.prog.typeName? 3 u = some nmES) : u = 180 :=
 typeName_ptr_named (nm := "errors.errorString") (by kernel_rfl) (by kernel_rfl) (by decide) u (h.trans (congrArg some (by kernel_rfl)))
theorem zkh {W : World} (h : laidMetH Tryz.prog laid2 W) : Env W := by
 rw [MakeChecks.laidMetH_plain _ _ _ (by kernel_rfl)] at h;have hT : Lib.Utf8Tabs 0 1 W := utf8Tabs_of_readsT (ρ := zr2) zD9 zBn (zDq ▸ Lib.laidMet.reads h (.tail _ (.tail _ (.tail _ (.tail _ (.tail _ (.tail _ (.head _)))))))) (zzp ▸ Lib.laidMet.reads h (.tail _ (.tail _ (.tail _ (.head _)))));obtain ⟨a, s, hv, _⟩ := laid_sentinel (h.tail.tail.tail.tail) gER zGd Tryz.underlying145 rowE Tryz.underlying180 Tryz.underlying182 rfl rfl Tryz.underlying9 zJ3 zIw
 have hc : W.cell? ⟨5, 0, none⟩ = some (.iface 180 (.pointer (some a))) := by
  have := World.var?_cell gER hv 0;simpa using this
 exact ⟨hT, ⟨180, _, hc⟩, by have := block_lt_of_cell hc; dsimp only at this; omega⟩
def IsRow (w : World) (a : Option Addr) (len cap : Nat) (zs : List Int) : Prop :=
 (a = none ∧ len = 0 ∧ cap = 0 ∧ zs = []) ∨
 ∃ x, a = some x ∧ len ≤ cap ∧ cap ≤ maxLen ∧ zs.length = cap ∧ (∀ i, i < zs.length → w.cell? (x.add i) = some (.int .u8 (zs.getD i 0))) ∧ ∀ n ∈ zs, (Lit.int .u8 n).wf = true
theorem zJ4 {w : World} {a : Option Addr} {len cap : Nat} {zs : List Int} (h : IsRow w a len cap zs) : ∃ l : List UInt8, l.length = len ∧ TextAt w.heap.size w (.slice a len cap) l := by
 rcases h with ⟨rfl, rfl, rfl, _⟩ | ⟨x, rfl, hlc, _, hz, hc, hw⟩
 · exact ⟨[], rfl, .inl ⟨none, 0, fun _ => rfl, rfl, rfl⟩⟩
 · by_cases h0 : len = 0
   · subst h0
     exact ⟨[], rfl, .inl ⟨some x, cap, (fun e => by cases e), rfl, rfl⟩⟩
   · obtain ⟨b, off, rfl, hcell⟩ := ints_at hc (by omega)
     have hlen : ((zs.take len).map fun n => UInt8.ofNat n.toNat).length = len := by simp; omega
     refine ⟨(zs.take len).map fun n => UInt8.ofNat n.toNat, hlen, .inr ⟨b, off, cap, by rw [hlen], ?_, by omega, ?_⟩⟩
     · have := block_lt_of_cell (hcell 0 (by omega))
       simpa using this
     · intro j hj
       rw [hlen] at hj;have hjz : j < zs.length := by omega
       rw [hcell j hjz];have hm : zs[j] ∈ zs := zKe hjz;have hb := hw _ hm;have hb' : 0 ≤ zs[j] ∧ zs[j] ≤ 255 := by simpa [Lit.wf, IntKind.min, IntKind.max, IntKind.signed, IntKind.bits] using hb
       simp [hj, hjz]
       omega
end Go.Proofs.YtidmeodmkcomlaaGreatDoor
