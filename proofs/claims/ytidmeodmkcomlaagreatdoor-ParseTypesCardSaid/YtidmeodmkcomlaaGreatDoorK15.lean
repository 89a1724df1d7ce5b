/- Rules, and how they go on; functions. How the rules of the whole parser go on: each reads a token at least, closes what it opens, and comes to an -/
import Derived.Test.YtidmeodmkcomlaaGreatDoorK14
import Derived.Deep.Cut
set_option linter.unusedSimpArgs false
set_option linter.unusedVariables false
namespace Go.Proofs.YtidmeodmkcomlaaGreatDoor
open Go Go.Proofs Go.RowKit
def Rule3 (ts : List Tk) (f : FuncId) (M : St → R3 Nat) : Prop :=
 ∀ (B : PE) (w : World) (s : St), B.ts = ts → PS B w s → s.k < ts.length → M s ≠ .un → Calls Tryz.prog f #[B.ptr] w (Res natV B w s (M s))
def Prog3 {α : Type} (ts : List Tk) (M : St → R3 α) : Prop := ∀ (s : St) (i : α) (s' : St), s.k < ts.length → M s = .ok i s' → s.k < s'.k ∧ s'.k < ts.length ∧ s'.op = s.op
theorem zel {ts : List Tk} (hT : TsOk ts) {kind : Nat} (h0 : kind ≠ 0) : Prog3 ts (zag ts kind) := by
 intro s i s' hk h;unfold zag at h;split at h
 · rename_i he
   injection h with _ h
   subst h;exact ⟨Nat.lt_succ_self _, hT.step hk (by omega), rfl⟩
 · cases h
theorem zap {ts : List Tk} (hT : TsOk ts) {x : List UInt8} : Prog3 ts (mustM ts x) := by
 intro s i s' hk h;unfold mustM at h;split at h
 · rename_i he
   injection h with _ h
   subst h;exact ⟨Nat.lt_succ_self _, hT.step hk (za0 he), rfl⟩
 · cases h
theorem zcn {s s' : St} {x : TermD} {i : Nat} (h : newT s x = .ok i s') : i = s.t1.length ∧ s' = s.addT x := by
 unfold newT at h;split at h
 · injection h with h1 h2
   exact ⟨h1.symm, h2.symm⟩
 · cases h
theorem zgm {s s' : St} {x : TypD} {i : Nat} (h : newY s x = .ok i s') : i = s.t2.length ∧ s' = s.addY x := by
 unfold newY at h;split at h
 · injection h with h1 h2
   exact ⟨h1.symm, h2.symm⟩
 · cases h
theorem AftO.bad {B : PE} {G : Nat → Prop} {w w1 w2 : World} {s s' s0 : St} (h : AftO B G w s w1) (ho : s.op = s0.op) (k : ∃ s1 : St, s1.op = s'.op ∧ Aft (B.with G) w1 s1 w2) (h2 : s'.op = s.op) : ∃ s1 : St, s1.op = s0.op ∧ Aft B w s1 w2 := by
 obtain ⟨s1, e, a⟩ := k;exact ⟨s1, by omega, (h.call a).out⟩
theorem Aft.bad {B : PE} {w w1 w2 : World} {s s' s0 : St} (h : Aft B w s w1) (ho : s.op = s0.op) (k : ∃ s1 : St, s1.op = s'.op ∧ Aft B w1 s1 w2) (h2 : s'.op = s.op) : ∃ s1 : St, s1.op = s0.op ∧ Aft B w s1 w2 := by
 obtain ⟨s1, e, a⟩ := k;exact ⟨s1, by omega, h.trans a⟩
theorem nextR {ts : List Tk} {B : PE} {w : World} {s : St} (hBts : B.ts = ts) (h : PS B w s) (hk : s.k < ts.length) : Calls Tryz.prog 48 #[B.ptr] w fun e w' => e = .returned (tokV (tkA ts s.k)) ∧ Aft B w (s.on 1) w' := by
 subst hBts;exact zdx h hk
theorem ze3 {ts : List Tk} {B : PE} {w : World} {s : St} (hBts : B.ts = ts) (h : PS B w s) (hk : s.k < ts.length) (kind : Nat) : Calls Tryz.prog 38 #[B.ptr, .int .i64 (kind : Int)] w (Res tokV B w s (zag ts kind s)) := by
 subst hBts;exact zwz h hk kind
theorem mustR {ts : List Tk} {B : PE} {w : World} {s : St} (hBts : B.ts = ts) (h : PS B w s) (hk : s.k < ts.length) (x : List UInt8) : Calls Tryz.prog 41 #[B.ptr, .string ⟨x.toArray⟩] w (Res (fun _ => .tuple #[]) B w s (mustM ts x s)) := by
 subst hBts;exact zD0 h hk x
theorem ownR {ts : List Tk} (hT : TsOk ts) {B : PE} {w : World} {s : St} (hBts : B.ts = ts) (h : PS B w s) (hk : s.k < ts.length) (owner kind : Nat) (ho : owner ≤ 4294967296) : Calls Tryz.prog 115 #[B.ptr, .int .i64 (owner : Int), .int .i64 (kind : Int)] w (Res strV' B w s (ownM ts owner kind s)) := by
 subst hBts;exact zG7 h hk owner kind ho (hT.len _)
theorem zei {ts : List Tk} {B : PE} {w : World} {s : St} (hBts : B.ts = ts) (h : PS B w s) (hk : s.k < ts.length) (x : List UInt8) (hx : isA ts s [x] = true) : Calls Tryz.prog 40 #[B.ptr, .string ⟨x.toArray⟩] w fun e w' => e = .returned (.bool true) ∧ Aft B w (s.on 1) w' := by
 subst hBts;exact zhh h hk x hx
theorem zed {ts : List Tk} {B : PE} {w : World} {s : St} (hBts : B.ts = ts) (h : PS B w s) (hk : s.k < ts.length) (x : List UInt8) (hx : isA ts s [x] = false) : Calls Tryz.prog 40 #[B.ptr, .string ⟨x.toArray⟩] w fun e w' => e = .returned (.bool false) ∧ Below w.heap.size w w' := by
 subst hBts;exact zh5 h hk x hx
theorem zne {ts : List Tk} {B : PE} {w : World} {s : St} (hBts : B.ts = ts) (h : PS B w s) (hk : s.k < ts.length) (xs : List (List UInt8)) (n : Nat) (hn : xs.length = n) (hb : n ≤ 70000) (V : Array Value) (hV : V = (xs.map fun x => Value.string (bs x)).toArray) :
 Calls Tryz.prog 47 #[B.ptr, .slice (some ⟨w.heap.size, 0, none⟩) n n] (w.alloc (.cells V 9)) fun e w' => e = .returned (.bool (isA ts s xs)) ∧ Below w.heap.size w w' := by
 subst hBts;exact zb5 h hk xs n hn hb V hV
theorem zee {ts : List Tk} {B : PE} {w : World} {s : St} (hBts : B.ts = ts) (h : PS B w s) (hk : s.k < ts.length) (x : List UInt8) : 
 Calls Tryz.prog 47 #[B.ptr, .slice (some ⟨w.heap.size, 0, none⟩) 1 1] (w.alloc (.cells #[.string ⟨x.toArray⟩] 9)) fun e w' => e = .returned (.bool (isA ts s [x])) ∧ Below w.heap.size w w' :=
 zne hBts h hk [x] 1 rfl (by decide) _ rfl
theorem newTK {B : PE} {w : World} {s : St} (h : PS B w s) (kind pos : Int) (name : ByteArray) (kids : List Int) (n c : Nat) (b : Nat) (hn : kids.length = n) (hl : n ≤ 65536) (hb : b < w.heap.size) (hc : ∀ j u, (kids.map iv)[j]? = some u → w.cell? ⟨b, j, none⟩ = some u) :
 Calls Tryz.prog 114 #[B.ptr, .agg #[.int .i64 kind, .int .i64 pos, .string name, .int .i64 0, .int .u64 0, .slice none 0 0, .slice (some ⟨b, 0, none⟩) n c, .slice none 0 0]] w (Res natV B w s (newT s ⟨kind, pos, name, 0, 0, [], kids, []⟩)) := by
 subst hn;exact zl2 h ⟨kind, pos, name, 0, 0, [], kids, []⟩ ⟨none, 0, some ⟨b, 0, none⟩, c, none, 0⟩ ⟨SlAt.nil, ⟨by simp, fun _ => ⟨b, 0, rfl, hb, fun j u hu => by rw [Nat.zero_add]; exact hc j u hu⟩⟩, SlAt.nil⟩ ⟨by simp, hl, by simp⟩
theorem AftO.turn {B : PE} {G G' : Nat → Prop} {w w1 w2 : World} {s : St} (h : AftO B G w s w1) (hb : Below B.base w1 w2) (hot : ∀ b, b < w1.heap.size → ¬ G b → w2.heap[b]? = w1.heap[b]?)
 (hG : ∀ b, G' b → (G b ∨ w1.heap.size ≤ b) ∧ b < w2.heap.size) : AftO B G' w s w2 := by
 obtain ⟨v1, v2, v3, r1, r2, r3, hB, e1, e2, e9⟩ := h.ps.built;have n0 : ¬ G B.pb := fun e => h.nm _ e (.inl (.inl rfl));have nc : ¬ G B.cb := fun e => h.nm _ e (.inr (.inl rfl));have nb : ¬ G B.mb := fun e => h.nm _ e (.inl (.inr rfl));have hcl : B.cb < w1.heap.size := h.ps.cbl;have hpl : B.pb < w1.heap.size := h.ps.blk.lt;have hml : B.mb < w1.heap.size := h.ps.mp.lt
 have hrow : ∀ {e : TypeId} {k n : Nat} {v : Value} {xs : List Value} (j : Nat), w1.cell? ⟨B.cb, j, none⟩ = some v → w1.ownsRow B.base e k v n xs → w2.ownsRow B.base e k v n xs := fun {e k n v xs} j hc hr => by
  rcases hr.2 with ⟨rfl, hn⟩ | ⟨g, cap, cur, rfl, hg1, hh, r⟩
  · exact ⟨hr.1, .inl ⟨rfl, hn⟩⟩
  · have hg : ¬ G g := fun e => h.nm _ e (.inr (.inr ⟨j, _, hc, rfl⟩))
    exact ⟨hr.1, .inr ⟨g, cap, cur, rfl, hg1, (hot g (by have := (Array.getElem?_eq_some_iff.1 hh).1; exact this) hg).trans hh, r⟩⟩
 have hq : ∀ b, Part w1 B.base B.cb v1 v2 v3 b ∧ (b ≠ (B.with G).pb ∧ ¬ (B.with G).L b) → Part w2 B.base B.cb v1 v2 v3 b ∧ (b ≠ (B.with G').pb ∧ ¬ (B.with G').L b) := fun b q =>
  ⟨⟨q.1.1, zJy q.1.2.1 hb.size, q.1.2.2⟩, q.2.1, fun hl => by
   rcases hl with hl | hl
   · exact q.2.2 (.inl hl)
   · rcases (hG b hl).1 with k | k
     · exact q.2.2 (.inr k)
     · have := q.1.2.1; omega⟩
 have hkp : ∀ b o, Part w1 B.base B.cb v1 v2 v3 b ∧ (b ≠ (B.with G).pb ∧ ¬ (B.with G).L b) → w2.cell? ⟨b, o, none⟩ = w1.cell? ⟨b, o, none⟩ := fun b o q => zKb (a := ⟨b, o, none⟩) (hot b q.1.2.1 (fun e => q.2.2 (.inr e)))
 have hmu : ∀ b, Mu B w2 b → Mu B w1 b := fun b k => by
  rcases k with e | e | ⟨j, v, e, e3⟩
  · exact .inl e
  · exact .inr (.inl e)
  · rw [zKb (a := ⟨B.cb, j, none⟩) (hot B.cb hcl nc)] at e
    exact .inr (.inr ⟨j, v, e, e3⟩)
 have hsz := hb.size
 refine ⟨{ h.ps with
  env := h.ps.env.below h.ps.b6 hb (zK4 h.ps.env.size hsz)
  blk := (hot B.pb hpl n0).trans h.ps.blk
  tok := fun j u hu => (hb.cell (p := ⟨B.g, j, none⟩) h.ps.gb).trans (h.ps.tok j u hu)
  bw := zK4 h.ps.bw hsz
  ll := fun b hl => by
   rcases hl with hl | hl
   · exact zJy (h.ps.ll b (.inl hl)) hsz
   · exact (hG b hl).2
  ml := fun hl => by
   rcases hl with hl | hl
   · exact h.ps.ml (.inl hl)
   · rcases (hG _ hl).1 with k | k
     · exact nb k
     · have e : (B.with G').mb = B.mb := rfl
       omega
  mp := h.ps.mp.same (hot B.mb hml nb)
  built := ⟨v1, v2, v3, r1, r2, r3, ⟨⟨(hot B.cb hcl nc).trans hB.tr.blk, hB.tr.tys, hB.tr.bas, hrow 0 (hB.tr.blk.cell 0) hB.tr.o1, hrow 1 (hB.tr.blk.cell 1) hB.tr.o2, hrow 2 (hB.tr.blk.cell 2) hB.tr.o3,
   fun x hx => (((hB.tr.k1 x hx).and (hB.q1 x hx)).keep hkp).imp (fun b q => (hq b q).1), fun x hx => (((hB.tr.k2 x hx).and (hB.q2 x hx)).keep hkp).imp (fun b q => (hq b q).1)⟩,
   fun x hx => (((hB.tr.k1 x hx).and (hB.q1 x hx)).keep hkp).imp (fun b q => (hq b q).2), fun x hx => (((hB.tr.k2 x hx).and (hB.q2 x hx)).keep hkp).imp (fun b q => (hq b q).2)⟩, e1, e2, e9⟩ },
  ⟨zK4 h.kt.1 hsz, fun b hb1 hm => ?_⟩, h.bel.trans hb, fun b hb1 k => ?_, fun b hb1 => ?_⟩
 · obtain ⟨k1, k2⟩ := h.kt.2 b hb1 hm
   refine ⟨(hot b (zJy hb1 h.kt.1) (fun e => ?_)).trans k1, fun k => k2 (hmu b k)⟩;have := h.ge b e;omega
 · rcases (hG b hb1).1 with e | e
   · exact h.nm b e (hmu b k)
   · rcases hmu b k with (e2 | e2) | e2 | ⟨j, v, e2, e3⟩
     · omega
     · omega
     · omega
     · have hc := hB.tr.blk.cell j
       have e2' : w1.cell? ⟨B.cb, j, none⟩ = some v := e2;have hc' : w1.cell? ⟨B.cb, j, none⟩ = #[v1, v2, v3][j]? := hc;rw [hc'] at e2'
       match j, e2' with
       | 0, e2' => simp at e2'; subst e2'; have := zb8 hB.tr.o1 b e3; omega
       | 1, e2' => simp at e2'; subst e2'; have := zb8 hB.tr.o2 b e3; omega
       | 2, e2' => simp at e2'; subst e2'; have := zb8 hB.tr.o3 b e3; omega
       | j + 3, e2' => simp at e2'
 · rcases (hG b hb1).1 with e | e
   · exact h.ge b e
   · have := h.kt.1
     omega
theorem AftO.row {B : PE} {G : Nat → Prop} {w w1 w2 : World} {s s' : St} (h : AftO B G w s w1) (k : Aft (B.with G) w1 s' w2) {b0 : Nat} {e : TypeId} {size n : Nat} {v : Value} {xs : List Value} (hr : w1.ownsRow b0 e size v n xs) (hv : ∀ g, v.ownBlock = some g → G g) : w2.ownsRow b0 e size v n xs := by
 rcases hr.2 with ⟨rfl, hn⟩ | ⟨g, cap, cur, rfl, hg1, hh, r⟩
 · exact ⟨hr.1, .inl ⟨rfl, hn⟩⟩
 · exact ⟨hr.1, .inr ⟨g, cap, cur, rfl, hg1, (h.same k (hv g rfl)).trans hh, r⟩⟩
theorem AftO.app {B : PE} {G : Nat → Prop} {w w1 w2 : World} {s : St} (h : AftO B G w s w1) (hbw : B.base ≤ w.heap.size) {v v' : Value} (hv : ∀ g, v.ownBlock = some g → G g) (hg : w1.grownBy w2 v.ownBlock) (hl : v'.ownBlock = v.ownBlock ∨ v'.ownBlock = some w1.heap.size) (hlt : ∀ g, v'.ownBlock = some g → g < w2.heap.size) :
 AftO B (fun b => G b ∨ v'.ownBlock = some b) w s w2 := by
 refine h.turn ⟨hg.os, hg.tape, hg.output, hg.size, fun b hb => hg.block b (zJy hb (zK4 hbw h.kt.1)) (fun e => ?_)⟩ (fun b hb hn => hg.block b hb (fun e => hn (hv b e.symm))) (fun b hb => ?_)
 · have := h.ge b (hv b e.symm)
   omega
 · rcases hb with hb | hb
   · exact ⟨.inl hb, zJy (h.lt hb) hg.size⟩
   · refine ⟨?_, hlt b hb⟩
     rcases hl with e | e
     · exact .inl (hv b (e ▸ hb))
     · rw [e] at hb
       injection hb with hb
       exact .inr (by omega)
theorem AftO.grow {B : PE} {G : Nat → Prop} {w w1 w2 : World} {s : St} (h : AftO B G w s w1) (hbw : B.base ≤ w.heap.size) (hb : Below w1.heap.size w1 w2) (g : Nat) (h1 : w1.heap.size ≤ g) (h2 : g < w2.heap.size) : AftO B (fun b => G b ∨ b = g) w s w2 :=
 h.turn (hb.mono (zK4 hbw h.kt.1)) (fun b hb1 _ => hb.block b hb1) (fun b k => by
  rcases k with k | k
  · exact ⟨.inl k, zJy (h.lt k) hb.size⟩
  · subst k; exact ⟨.inr h1, h2⟩)
theorem AftO.put {B : PE} {G : Nat → Prop} {w w1 : World} {s : St} (h : AftO B G w s w1) (hbw : B.base ≤ w.heap.size) {g : Nat} (hg : G g) (k : Nat) (u : Value) : AftO B G w s (w1.setCell ⟨g, k, none⟩ u) := h.set hg k u hbw
def Go3 {α : Type} (q : Prop) (ts : List Tk) (d : Nat) (s : St) : R3 α → Prop
 | .ok _ s' => s.k + d ≤ s'.k ∧ s'.k < ts.length ∧ s'.op = s.op
 | .bad _ _ => True
 | .un => q
section
variable {q : Prop} {ts : List Tk} {α β : Type}
theorem Go3.bind {d1 d2 : Nat} {s : St} {p : R3 α} {f : α → St → R3 β} (h : Go3 q ts d1 s p) (k : ∀ i s1, s.k + d1 ≤ s1.k → s1.k < ts.length → s1.op = s.op → Go3 q ts d2 s1 (f i s1)) : Go3 q ts (d1 + d2) s (p.bind f) := by
 cases p with
 | ok i s1 =>
  obtain ⟨h1, h2, h3⟩ := h;have := k i s1 h1 h2 h3;unfold R3.bind;dsimp only
  cases hf : f i s1 with
  | ok j s2 =>
   rw [hf] at this;obtain ⟨g1, g2, g3⟩ := this;exact ⟨by omega, g2, by omega⟩
  | bad e p => trivial
  | un => rw [hf] at this; exact this
 | bad e p => trivial
 | un => exact h
theorem Go3.weak {d d' : Nat} {s : St} {p : R3 α} (h : Go3 q ts d s p) (hd : d' ≤ d) : Go3 q ts d' s p := by
 cases p with
 | ok i s1 => exact ⟨by have := h.1; omega, h.2⟩
 | bad e p => trivial
 | un => exact h
theorem Go3.moved {d d' : Nat} {s s1 : St} {p : R3 α} (h : Go3 q ts d s1 p) (hk : s.k + d' ≤ s1.k + d) (ho : s1.op = s.op) : Go3 q ts d' s p := by
 cases p with
 | ok i s1 => exact ⟨by have := h.1; omega, h.2.1, h.2.2.trans ho⟩
 | bad e p => trivial
 | un => exact h
theorem Go3.ok_ {s : St} {i : α} (hk : s.k < ts.length) : Go3 q ts 0 s (.ok i s) := ⟨zJw _, hk, rfl⟩
theorem zfl (hT : TsOk ts) {kind : Nat} (h0 : kind ≠ 0) {s : St} (hk : s.k < ts.length) : Go3 q ts 1 s (zag ts kind s) := by
 unfold zag;split
 · rename_i he
   exact ⟨zJw _, hT.step hk (by omega), rfl⟩
 · trivial
theorem zbv (hT : TsOk ts) {x : List UInt8} {s : St} (hk : s.k < ts.length) : Go3 q ts 1 s (mustM ts x s) := by
 unfold mustM;split
 · rename_i he
   exact ⟨zJw _, hT.step hk (za0 he), rfl⟩
 · trivial
theorem zd9 {x : TermD} {s : St} (hk : s.k < ts.length) : Go3 q ts 0 s (newT s x) := by
 unfold newT;split
 · exact ⟨zJw _, hk, rfl⟩
 · trivial
theorem zn7 {x : TypD} {s : St} (hk : s.k < ts.length) : Go3 q ts 0 s (newY s x) := by
 unfold newY;split
 · exact ⟨zJw _, hk, rfl⟩
 · trivial
theorem zmi (hT : TsOk ts) {o kind : Nat} (h0 : kind ≠ 0) {s : St} (hk : s.k < ts.length) : Go3 q ts 1 s (ownM ts o kind s) := by
 refine Go3.bind (d1 := 1) (d2 := 0) (zfl hT h0 hk) (fun t s1 _ h2 _ => ?_);split
 · trivial
 · exact ⟨zJw _, h2, rfl⟩
def GoAt (q : Prop) (ts : List Tk) (o : Nat) (P : St → R3 α) : Prop := ∀ s : St, s.k < ts.length → s.op = o → Go3 q ts 1 s (P s)
variable {o : Nat} {P E T : St → R3 Nat}
theorem zve (hT : TsOk ts) (hP : GoAt q ts o P) (owner : Nat) (sign : List UInt8) : ∀ (f : Nat) (ns : List (List UInt8)) (ks : List Int) (s : St), s.k < ts.length → s.op = o → ts.length ≤ f + s.k → Go3 q ts 1 s (zbc ts P owner sign f ns ks s) := by
 intro f
 induction f with
 | zero => intro ns ks s hk _ hf; omega
 | succ f ih =>
  intro ns ks s hk ho hf;unfold zbc;refine Go3.weak (d := 1 + (1 + (1 + 0))) ?_ (by omega);refine (zmi hT (by decide) hk).bind (fun x s1 a1 b1 c1 => (zbv hT b1).bind (fun _ s2 a2 b2 c2 => (hP s2 b2 (by omega)).bind (fun i s3 a3 b3 c3 => ?_)));split
  · rename_i h
    exact ⟨(by show s3.k + 0 ≤ s3.k + 1; omega), hT.step b3 (za0 h), rfl⟩
  · exact Go3.weak ((zbv hT b3).bind (d2 := 1) (fun _ s4 a4 b4 c4 => ih _ _ s4 b4 (by omega) (by omega))) (by omega)
theorem zhl (hT : TsOk ts) (hP : GoAt q ts o P) (owner : Nat) (sign : List UInt8) (s : St) (hk : s.k < ts.length) (ho : s.op = o) : Go3 q ts 1 s (zan ts P owner sign s) := by
 unfold zan;split
 · rename_i h
   exact ⟨zJw _, hT.step hk (za0 h), rfl⟩
 · exact zve hT hP owner sign _ _ _ s hk ho (Nat.le_add_right _ _)
theorem zd0 {d : Nat} (hT : TsOk ts) {s : St} {M : St → R3 α} (hk : s.k < ts.length) (h0 : (tkA ts s.k).1 ≠ 0) (h : (s.on 1).k < ts.length → Go3 q ts d (s.on 1) (M (s.on 1))) : Go3 q ts (d + 1) s (M (s.on 1)) :=
 (h (hT.step hk h0)).moved (by show s.k + (d + 1) ≤ s.k + 1 + d; omega) rfl
theorem zf8 {t : Tk} {x : TypD} (h : zc0 t = some x) : t.1 ≠ 0 := by
 unfold zc0 at h;split at h
 · omega
 · split at h
   · omega
   · cases h
theorem zfm {t : Tk} {x : TermD} (h : leafM t = some x) : t.1 ≠ 0 := by
 unfold leafM at h;repeat' split at h
 all_goals first | omega | exact za0 (by assumption) | cases h
theorem zik (hT : TsOk ts) (hP : GoAt q ts o T) : GoAt q ts o (zay ts T) := by
 intro s hk ho;unfold zay;split
 · rename_i h
   refine Go3.weak (d := (1 + (1 + 0)) + 1) (zd0 hT (M := fun s => (T s).bind fun i s1 => (mustM ts [41] s1).bind fun _ s2 => .ok i s2) hk (za0 h) (fun hk1 => ?_)) (by omega);exact (hP _ hk1 ho).bind (fun i s1 a b c => (zbv hT b).bind (fun _ s2 a2 b2 c2 => Go3.ok_ b2))
 split
 · rename_i h
   refine Go3.weak (d := (1 + 0) + 1) (zd0 hT (M := fun s' => (zan ts T (posA ts s) [58] s').bind fun x s1 => newY s1 ⟨8, (posA ts s : Nat), bs [], bss x.1, x.2, false⟩) hk (za0 h) (fun hk1 => ?_)) (by omega);exact (zhl hT hP _ _ _ hk1 ho).bind (fun x s1 a b c => zn7 b)
 split
 · rename_i x hx
   exact Go3.weak (zd0 hT (M := fun s' => newY s' x) hk (zf8 hx) (fun hk1 => zn7 hk1)) (by omega)
 · trivial
theorem zuj (hT : TsOk ts) (x : Vr) (s : St) (hk : s.k < ts.length) : Go3 q ts 1 s (itemM ts x s) := by
 unfold itemM;split
 · rename_i h
   exact ⟨zJw _, hT.step hk (za0 h), rfl⟩
 refine Go3.weak (d := 0 + 1) (Go3.bind ?_ (fun _ s1 a1 b1 c1 => ?_)) (by omega)
 · split
   · exact Go3.ok_ hk
   · exact (zbv hT hk).weak (by omega)
 split
 · rename_i h
   exact Go3.weak (zd0 hT (M := fun s' => (mustM ts [93] s').bind fun _ s2 => .ok (x, some true) s2) b1 (za0 h) (fun hk1 => (zbv hT hk1).bind (fun _ s2 a2 b2 c2 => Go3.ok_ b2))) (by omega)
 · exact Go3.weak ((zmi hT (by decide) b1).bind (fun n s2 a2 b2 c2 => Go3.ok_ b2)) (by omega)
theorem zkt (hT : TsOk ts) (hP : GoAt q ts o T) : ∀ (f : Nat) (x : Vr) (r : List Vr) (s : St), s.k < ts.length → s.op = o → ts.length ≤ f + s.k → Go3 q ts 1 s (zaq ts T f x r s) := by
 intro f
 induction f with
 | zero => intro x r s hk _ hf; omega
 | succ f ih =>
  intro x r s hk ho hf;unfold zaq;refine Go3.weak (d := 1 + 0) ((zuj hT x s hk).bind (fun y s1 a1 b1 c1 => ?_)) (by omega);split
  · refine Go3.weak (d := 0 + 0) ((zn7 b1).bind (fun i s2 a2 b2 c2 => ?_)) (by omega)
    split
    · exact Go3.ok_ b2
    · exact (ih _ _ s2 b2 (by omega) (by omega)).weak (by omega)
  · split
    · rename_i h
      exact Go3.weak (zd0 hT (M := fun s' => zaq ts T f (posA ts s1, [], []) (y.1 :: r) s') b1 (za0 h) (fun hk1 => ih _ _ _ hk1 (by show s1.op = o; omega) (by show ts.length ≤ f + (s1.k + 1); omega))) (by omega)
    · exact Go3.weak ((zik hT hP s1 b1 (by omega)).bind (fun i s2 a2 b2 c2 => ih _ _ s2 b2 (by omega) (by omega))) (by omega)
theorem zp9 (hT : TsOk ts) (hP : GoAt q ts o T) : GoAt q ts o (zak ts T) := by
 intro s hk ho;unfold zak;split
 · rename_i h
   unfold zbp;exact Go3.weak (zd0 hT (M := fun s' => zaq ts T (2 * ts.length) (posA ts s, [], []) [] s') hk (za0 h) (fun hk1 => zkt hT hP _ _ _ _ hk1 ho (by omega))) (by omega)
 · exact zik hT hP s hk ho
theorem zjv (hT : TsOk ts) : ∀ (f o : Nat), (q ∨ (257 ≤ f + o ∧ o ≤ 256)) → GoAt q ts o (typeM ts f) := by
 intro f
 induction f with
 | zero => intro o hq s _ _; exact hq.elim id (fun h => by omega)
 | succ f ih =>
  intro o hq s hk hs;unfold typeM;split
  · trivial
  rename_i hne
  have hP : GoAt q ts (o + 1) (typeM ts f) := ih (o + 1) (hq.imp id (fun h => ⟨by omega, by omega⟩));have h1 := zp9 hT hP s.up hk (by show s.op + 1 = _; omega)
  cases hM : zak ts (typeM ts f) s.up with
  | bad e p => trivial
  | un => rw [hM] at h1; exact h1
  | ok i s1 =>
   rw [hM] at h1;obtain ⟨a1, b1, c1⟩ := h1;have a1' : s.k + 1 ≤ s1.k := a1;have c1' : s1.op = s.op + 1 := c1;show Go3 q ts 1 s (if _ then _ else _)
   split
   · rename_i h
     have hk1 := hT.step b1 (za0 h);have h2 := hP (s1.on 1) hk1 (by show s1.op = _; omega)
     cases hM2 : typeM ts f (s1.on 1) with
     | bad e p => trivial
     | un => rw [hM2] at h2; exact h2
     | ok j s2 =>
      rw [hM2] at h2;obtain ⟨a2, b2, c2⟩ := h2;have a2' : s1.k + 1 + 1 ≤ s2.k := a2;have c2' : s2.op = s1.op := c2;show Go3 q ts 1 s ((newY s2 _).bind _)
      unfold newY;split
      · exact ⟨by show s.k + 1 ≤ s2.k; omega, b2, by show s2.op - 1 = s.op; omega⟩
      · trivial
   · exact ⟨by show s.k + 1 ≤ s1.k; omega, b1, by show s1.op - 1 = s.op; omega⟩
theorem zn1 (hT : TsOk ts) (hE : GoAt q ts o E) (hY : GoAt q ts o T) (s : St) (hk : s.k < ts.length) (h0 : (tkA ts s.k).1 ≠ 0) (ho : s.op = o) : Go3 q ts 1 s (zas ts E T s) := by
 unfold zas;have hk1 := hT.step hk h0;refine Go3.moved (d := 1 + 0) (s1 := s.on 1) (Go3.bind (hE _ hk1 ho) (fun i s1 a1 b1 c1 => ?_)) (by show s.k + 1 ≤ s.k + 1 + (1 + 0); omega) rfl;have c1' : s1.op = s.op := c1;split
 · rename_i h
   exact ⟨by show s1.k + 0 ≤ s1.k + 1; omega, hT.step b1 (za0 h), rfl⟩
 refine Go3.weak (d := 1 + (1 + 0)) ((zbv hT b1).bind (fun _ s2 a2 b2 c2 => (hY s2 b2 (by omega)).bind (fun j s3 a3 b3 c3 => ?_))) (by omega);split
 · rename_i h
   have hk4 := hT.step b3 (za0 h);refine Go3.moved (d := 1 + (1 + 0)) (s1 := s3.on 1) (Go3.bind (hY _ hk4 (by show s3.op = o; omega)) (fun l s4 a4 b4 c4 => (zbv hT b4).bind (fun _ s5 a5 b5 c5 => zd9 b5))) (by show s3.k + 0 ≤ s3.k + 1 + _; omega) rfl
 · exact Go3.weak ((zbv hT b3).bind (fun _ s5 a5 b5 c5 => zd9 b5)) (by omega)
theorem zoi (hT : TsOk ts) (hE : GoAt q ts o E) (s : St) (hk : s.k < ts.length) (h0 : (tkA ts s.k).1 ≠ 0) (ho : s.op = o) : Go3 q ts 1 s (zbu ts E s) := by
 unfold zbu;exact Go3.weak (d := (1 + 0) + 1) (zd0 hT (M := fun s' => (zan ts E (posA ts s) [61] s').bind fun x s1 => newT s1 ⟨12, (posA ts s : Nat), bs [], 0, 0, bss x.1, x.2, []⟩) hk h0 (fun hk1 => (zhl hT hE _ _ _ hk1 ho).bind (fun x s1 a b c => zd9 b))) (by omega)
theorem zuy (hT : TsOk ts) (hE : GoAt q ts o E) (hY : GoAt q ts o T) : GoAt q ts o (atomM ts E T) := by
 intro s hk ho;unfold atomM;split
 · rename_i h
   exact zn1 hT hE hY s hk (za0 h) ho
 split
 · rename_i h
   exact zoi hT hE s hk (za0 h) ho
 split
 · rename_i x hx
   exact Go3.weak (zd0 hT (M := fun s' => newT s' x) hk (zfm hx) (fun hk1 => zd9 hk1)) (by omega)
 · trivial
theorem zBm (hT : TsOk ts) : ∀ (f left : Nat) (s : St), s.k < ts.length → ts.length ≤ f + s.k → Go3 q ts 0 s (postL ts f left s) := by
 intro f
 induction f with
 | zero => intro left s hk hf; omega
 | succ f ih =>
  intro left s hk hf;unfold postL;split
  · rename_i h
    have hk1 := hT.step hk (za0 h);refine Go3.moved (d := 1 + (0 + 0)) (s1 := s.on 1) (Go3.bind (zfl hT (by decide) hk1) (fun t s1 a1 b1 c1 => (zd9 b1).bind (fun i s2 a2 b2 c2 => ih i s2 b2 ?_))) (by show s.k + 0 ≤ s.k + 1 + _; omega) rfl;have a1' : s.k + 1 + 1 ≤ s1.k := a1;omega
  · exact Go3.ok_ hk
theorem znh (hT : TsOk ts) (hE : GoAt q ts o E) (hY : GoAt q ts o T) : GoAt q ts o (postM ts E T) := by
 intro s hk ho;exact Go3.bind (d1 := 1) (d2 := 0) (zuy hT hE hY s hk ho) (fun i s1 a b c => zBm hT _ i s1 b (Nat.le_add_right _ _))
theorem zns (hT : TsOk ts) (hE : GoAt q ts o E) (hY : GoAt q ts o T) : GoAt q ts o (unitM ts E T) := by
 intro s hk ho;unfold unitM;split
 · rename_i h
   exact Go3.weak (d := (1 + 0) + 1) (zd0 hT (M := fun s' => (postM ts E T s').bind fun i s1 => newT s1 ⟨11, (posA ts s : Nat), bs (tkA ts s.k).2.1, 0, 0, [], [(i : Int)], []⟩) hk (by omega) (fun hk1 => (znh hT hE hY _ hk1 ho).bind (fun i s1 a b c => zd9 b))) (by omega)
 · exact znh hT hE hY s hk ho
theorem zyl (hT : TsOk ts) (hE : GoAt q ts o E) (hY : GoAt q ts o T) : ∀ (f left : Nat) (s : St), s.k < ts.length → s.op = o → ts.length ≤ f + s.k → Go3 q ts 0 s (zat ts E T f left s) := by
 intro f
 induction f with
 | zero => intro left s hk _ hf; omega
 | succ f ih =>
  intro left s hk ho hf;unfold zat;split
  · exact Go3.weak (d := 1 + (0 + 0)) (Go3.bind (zns hT hE hY s hk ho) (fun i s1 a1 b1 c1 => (zd9 b1).bind (fun j s2 a2 b2 c2 => ih j s2 b2 (by omega) (by omega)))) (by omega)
  · exact Go3.ok_ hk
theorem zql (hT : TsOk ts) (hE : GoAt q ts o E) (hY : GoAt q ts o T) : GoAt q ts o (zb0 ts E T) := by
 intro s hk ho;exact Go3.bind (d1 := 1) (d2 := 0) (zns hT hE hY s hk ho) (fun i s1 a b c => zyl hT hE hY _ i s1 b (by omega) (Nat.le_add_right _ _))
theorem go_op (hT : TsOk ts) (hP : GoAt q ts o P) (left : Nat) (s : St) (hk : s.k < ts.length) (h0 : (tkA ts s.k).1 ≠ 0) (ho : s.op = o) : Go3 q ts 2 s (opM ts P left s) := by
 unfold opM;exact zd0 (d := 1 + 0) hT (M := fun s' => (P s').bind fun i s1 => newT s1 ⟨14, (posA ts s : Nat), bs (tkA ts s.k).2.1, 0, 0, [], [(left : Int), (i : Int)], []⟩) hk h0 (fun hk1 => (hP _ hk1 ho).bind (d2 := 0) (fun i s1 a b c => zd9 b))
theorem zH7 (hT : TsOk ts) (hP : GoAt q ts o P) (sg : List (List UInt8)) : ∀ (f left : Nat) (s : St), s.k < ts.length → s.op = o → ts.length ≤ f + s.k → Go3 q ts 0 s (rowL ts P sg f left s) := by
 intro f
 induction f with
 | zero => intro left s hk _ hf; omega
 | succ f ih =>
  intro left s hk ho hf;unfold rowL;split
  · rename_i h
    exact Go3.weak (d := 2 + 0) (Go3.bind (go_op hT hP left s hk (za0 h) ho) (fun i s1 a1 b1 c1 => ih i s1 b1 (by omega) (by omega))) (by omega)
  · exact Go3.ok_ hk
theorem zq6 (hT : TsOk ts) (hP : GoAt q ts o P) (sg : List (List UInt8)) : GoAt q ts o (rowM ts P sg) := by
 intro s hk ho;exact Go3.bind (d1 := 1) (d2 := 0) (hP s hk ho) (fun i s1 a b c => zH7 hT hP sg _ i s1 b (by omega) (Nat.le_add_right _ _))
theorem zlu (hT : TsOk ts) (hE : GoAt q ts o E) (hY : GoAt q ts o T) : GoAt q ts o (zb2 ts E T) := zq6 hT (zql hT hE hY) _
theorem zxm (hT : TsOk ts) (hE : GoAt q ts o E) (hY : GoAt q ts o T) : GoAt q ts o (sumM ts E T) := zq6 hT (zlu hT hE hY) _
theorem zn4 (hT : TsOk ts) (hE : GoAt q ts o E) (hY : GoAt q ts o T) : GoAt q ts o (joinM ts E T) := zq6 hT (zxm hT hE hY) _
theorem zmq (hT : TsOk ts) (hE : GoAt q ts o E) (hY : GoAt q ts o T) : GoAt q ts o (zad ts E T) := by
 intro s hk ho;refine Go3.bind (d1 := 1) (d2 := 0) (zn4 hT hE hY s hk ho) (fun i s1 a b c => ?_);split
 · rename_i h
   exact (go_op hT (zn4 hT hE hY) i s1 b (za0 h) (by omega)).weak (by omega)
 · exact Go3.ok_ b
theorem zzi (hT : TsOk ts) (hE : GoAt q ts o E) (s : St) (hk : s.k < ts.length) (h0 : (tkA ts s.k).1 ≠ 0) (ho : s.op = o) : Go3 q ts 1 s (funM ts E s) := by
 unfold funM;refine Go3.moved (d := 1 + (1 + (1 + 0))) (s1 := s.on 1) ?_ (by show s.k + 1 ≤ s.k + 1 + _; omega) rfl;exact (zfl hT (by decide) (hT.step hk h0)).bind (fun t s1 a1 b1 c1 => (zbv hT b1).bind (fun _ s2 a2 b2 c2 => (hE s2 b2 (by have : s1.op = s.op := c1; omega)).bind (fun i s3 a3 b3 c3 => zd9 b3)))
theorem zB3 (hT : TsOk ts) (hE : GoAt q ts o E) (s : St) (hk : s.k < ts.length) (h0 : (tkA ts s.k).1 ≠ 0) (ho : s.op = o) : Go3 q ts 1 s (letM ts E s) := by
 unfold letM;have hk1 := hT.step hk h0;dsimp only
 obtain ⟨s0, h1, h2, h3, h4⟩ : ∃ s0 : St, (if isA ts (s.on 1) [[114, 101, 99]] = true then s.on 2 else s.on 1) = s0 ∧ s.k + 1 ≤ s0.k ∧ s0.k < ts.length ∧ s0.op = s.op := by
  split
  · rename_i h
    exact ⟨_, rfl, by show s.k + 1 ≤ s.k + 2; omega, hT.step hk1 (za0 h), rfl⟩
  · exact ⟨_, rfl, zJw _, hk1, rfl⟩
 rw [h1];refine Go3.moved (d := 1 + (1 + (1 + (1 + (1 + 0))))) (s1 := s0) ?_ (by omega) h4;exact (zfl hT (by decide) h3).bind (fun t s1 a1 b1 c1 => (zbv hT b1).bind (fun _ s2 a2 b2 c2 => (hE s2 b2 (by omega)).bind (fun i s3 a3 b3 c3 => (zbv hT b3).bind (fun _ s4 a4 b4 c4 => (hE s4 b4 (by omega)).bind (fun j s5 a5 b5 c5 => zd9 b5)))))
theorem zou (hT : TsOk ts) (hE : GoAt q ts o E) (s : St) (hk : s.k < ts.length) (h0 : (tkA ts s.k).1 ≠ 0) (ho : s.op = o) : Go3 q ts 1 s (zby ts E s) := by
 unfold zby
 refine Go3.moved (d := 1 + (1 + (1 + (1 + (1 + 0))))) (s1 := s.on 1) ?_ (by show s.k + 1 ≤ s.k + 1 + _; omega) rfl;exact (hE (s.on 1) (hT.step hk h0) ho).bind (fun i s1 a1 b1 c1 => (zbv hT b1).bind (fun _ s2 a2 b2 c2 => (hE s2 b2 (by have : s1.op = s.op := c1; omega)).bind (fun j s3 a3 b3 c3 => (zbv hT b3).bind (fun _ s4 a4 b4 c4 => (hE s4 b4 (by have : s1.op = s.op := c1; omega)).bind (fun l s5 a5 b5 c5 => zd9 b5)))))
theorem zxo (hT : TsOk ts) (hE : GoAt q ts o E) (owner : Nat) : ∀ (f : Nat) (ns : List (List UInt8)) (ks : List Int) (s : St), s.k < ts.length → s.op = o → ts.length ≤ f + s.k → Go3 q ts 0 s (zbz ts E owner f ns ks s) := by
 intro f
 induction f with
 | zero => intro ns ks s hk _ hf; omega
 | succ f ih =>
  intro ns ks s hk ho hf;unfold zbz;split
  · rename_i h
    have hk1 := hT.step hk (za0 h);split
    · rename_i h2
      have hk2 : (s.on 2).k < ts.length := hT.step hk1 (za0 h2);refine Go3.moved (d := 1 + (1 + 0)) (s1 := s.on 2) ?_ (by show s.k + 0 ≤ s.k + 2 + _; omega) rfl;exact (zbv hT hk2).bind (fun _ s1 a1 b1 c1 => (hE s1 b1 (by have : s1.op = s.op := c1; omega)).bind (fun i s2 a2 b2 c2 => Go3.ok_ b2))
    · refine Go3.moved (d := 1 + (1 + (1 + (1 + 0)))) (s1 := s.on 1) ?_ (by show s.k + 0 ≤ s.k + 1 + _; omega) rfl
      refine (zmi hT (by decide) hk1).bind (fun x s1 a1 b1 c1 => (zfl hT (by decide) b1).bind (fun t s2 a2 b2 c2 => (zbv hT b2).bind (fun _ s3 a3 b3 c3 => (hE s3 b3 ?_).bind (fun i s4 a4 b4 c4 => ih _ _ s4 b4 ?_ ?_))))
      · have : s1.op = s.op := c1; omega
      · have : s1.op = s.op := c1; omega
      · have : s.k + 1 + 1 ≤ s1.k := a1; omega
  · exact Go3.ok_ hk
theorem zqh (hT : TsOk ts) (hE : GoAt q ts o E) (s : St) (hk : s.k < ts.length) (h0 : (tkA ts s.k).1 ≠ 0) (ho : s.op = o) : Go3 q ts 1 s (zci ts E s) := by
 unfold zci;refine Go3.moved (d := 1 + (1 + (0 + (1 + 0)))) (s1 := s.on 1) ?_ (by show s.k + 1 ≤ s.k + 1 + _; omega) rfl;exact (hE (s.on 1) (hT.step hk h0) ho).bind (fun i s1 a1 b1 c1 => (zbv hT b1).bind (fun _ s2 a2 b2 c2 => (zxo hT hE _ _ _ _ s2 b2 (by have : s1.op = s.op := c1; omega) (Nat.le_add_right _ _)).bind (fun x s3 a3 b3 c3 => (zbv hT b3).bind (fun _ s4 a4 b4 c4 => zd9 b4))))
theorem zDd (hT : TsOk ts) (hE : GoAt q ts o E) (hY : GoAt q ts o T) : GoAt q ts o (zba ts E T) := by
 intro s hk ho;unfold zba;split
 · rename_i h; exact zzi hT hE s hk (za0 h) ho
 split
 · rename_i h; exact zB3 hT hE s hk (za0 h) ho
 split
 · rename_i h; exact zou hT hE s hk (za0 h) ho
 split
 · rename_i h; exact zqh hT hE s hk (za0 h) ho
 exact zmq hT hE hY s hk ho
theorem znl (hT : TsOk ts) : ∀ (f o : Nat), (q ∨ (257 ≤ f + o ∧ o ≤ 256)) → GoAt q ts o (termM ts f) := by
 intro f
 induction f with
 | zero => intro o hq s _ _; exact hq.elim id (fun h => by omega)
 | succ f ih =>
  intro o hq s hk hs;unfold termM;split
  · trivial
  rename_i hne
  have hE : GoAt q ts (o + 1) (termM ts f) := ih (o + 1) (hq.imp id (fun h => ⟨by omega, by omega⟩));have hY : GoAt q ts (o + 1) (typeM ts f) := zjv hT f (o + 1) (hq.imp id (fun h => ⟨by omega, by omega⟩));have h1 := zDd hT hE hY s.up hk (by show s.op + 1 = _; omega)
  cases hM : zba ts (termM ts f) (typeM ts f) s.up with
  | bad e p => trivial
  | un => rw [hM] at h1; exact h1
  | ok i s1 =>
   rw [hM] at h1;obtain ⟨a1, b1, c1⟩ := h1;have a1' : s.k + 1 ≤ s1.k := a1;have c1' : s1.op = s.op + 1 := c1;exact ⟨by show s.k + 1 ≤ s1.k; omega, b1, by show s1.op - 1 = s.op; omega⟩
end
theorem zds {ts : List Tk} {P : St → R3 Nat} (h : ∀ o, GoAt True ts o P) : Prog3 ts P := fun s i s' hk e => by
 have := h s.op s hk rfl;rw [e] at this;exact ⟨this.1, this.2⟩
theorem zav {ts : List Tk} {P : St → R3 Nat} (h : Prog3 ts P) (o : Nat) : GoAt True ts o P := fun s hk ho => by
 cases e : P s with
 | ok i s' => exact h s i s' hk e
 | bad e p => trivial
 | un => trivial
theorem zix {ts : List Tk} (hT : TsOk ts) (f : Nat) : Prog3 ts (typeM ts f) := zds (fun o => zjv hT f o (.inl trivial))
theorem zm2 {ts : List Tk} (hT : TsOk ts) (f : Nat) : Prog3 ts (termM ts f) := zds (fun o => znl hT f o (.inl trivial))
end Go.Proofs.YtidmeodmkcomlaaGreatDoor
