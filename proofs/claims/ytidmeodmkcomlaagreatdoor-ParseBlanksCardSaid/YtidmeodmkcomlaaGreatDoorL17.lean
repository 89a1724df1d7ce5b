/- A region that draws its order: an -/
import Derived.Test.YtidmeodmkcomlaaGreatDoorL15
namespace Go.Proofs.YtidmeodmkcomlaaGreatDoor
open Go Go.Proofs
section
variable {P : Program} {ops : Array Oper} {Q : Exit → Act → World → Prop} {md : Region.Mode} {S : World → Prop} {D : Nat → Bool}
def zcg (P : Program) (md : Region.Mode) (ops : Array Oper) (Q : Exit → Act → World → Prop) (S : World → Prop) (D : Nat → Bool) : Nat → Array Bool → Act → World → Prop
 | 0, listed, a, w => Region.ready md ops listed = [] ∧ Q .normal a w
 | fuel + 1, listed, a, w =>
  (Region.ready md ops listed = [] → Q .normal a w) ∧
  ∀ i ∈ Region.ready md ops listed, wpOp P ops Q i (fun a' w' => (D i = false → S w') ∧ zcg P md ops Q S D fuel (listed.setIfInBounds i true) a' w') a w
theorem zi3 : ∀ (fuel : Nat) (listed : Array Bool) (a : Act) (w : World), zcg P md ops Q S D fuel listed a w → wpAny P md ops Q fuel listed a w
 | 0, _, _, _, h => h
 | fuel + 1, _, _, _, h => ⟨h.1, fun i hi => wpOp_mono (fun a' w' h' => zi3 fuel _ a' w' h'.2) (h.2 i hi)⟩
def reach (md : Region.Mode) (ops : Array Oper) (i : Nat) : Nat → Nat → Bool
 | 0, _ => false
 | f + 1, j => match ops[j]? with
  | some o => o.after.any fun e => Region.binds md e && (e.on == i || reach md ops i f e.on)
  | none => false
def waits (md : Region.Mode) (ops : Array Oper) (D : Nat → Bool) (i : Nat) : Bool := (List.range ops.size).all fun j => !D j || reach md ops i ops.size j
def ClosedL (md : Region.Mode) (ops : Array Oper) (listed : Array Bool) : Prop := ∀ (j : Nat) (o : Oper), ops[j]? = some o → listed.getD j false = true → ∀ e ∈ o.after, Region.binds md e = true → listed.getD e.on false = true
def zk8 (md : Region.Mode) (ops : Array Oper) (listed : Array Bool) : Bool := (List.range ops.size).all fun j => !(listed.getD j false) || (match ops[j]? with
 | some o => o.after.all fun e => !(Region.binds md e) || listed.getD e.on false
 | none => true)
theorem zss {listed : Array Bool} (h : zk8 md ops listed = true) : ClosedL md ops listed := by
 intro j o ho hl e he hb;unfold zk8 at h;rw [taw] at h;have h1 := h j (List.mem_range.2 (Array.getElem?_eq_some_iff.1 ho).1);rw [ho] at h1;simp only [hl, Bool.not_true, Bool.false_or] at h1;have h2 := Array.all_eq_true_iff_forall_mem.1 h1 e he;simpa [hb] using h2
theorem znb {i : Nat} {listed : Array Bool} (hc : ClosedL md ops listed) (hi : listed.getD i false = false) : ∀ (f j : Nat), reach md ops i f j = true → listed.getD j false = false := by
 intro f
 induction f with
 | zero => intro j h; cases h
 | succ f ih =>
  intro j h;unfold reach at h
  cases ho : ops[j]? with
  | none => rw [ho] at h; cases h
  | some o =>
   rw [ho] at h;obtain ⟨e, he, hb⟩ := Array.any_eq_true'.1 h;simp only [zK6, Bool.or_eq_true, beq_iff_eq] at hb
   cases hl : listed.getD j false with
   | false => rfl
   | true =>
    have h1 := hc j o ho hl e he hb.1;rcases hb.2 with h2 | h2
    · rw [h2, hi] at h1; cases h1
    · rw [ih _ h2] at h1; cases h1
theorem zll {i j : Nat} {oj : Oper} {listed : Array Bool} (hc : ClosedL md ops listed) (hi : listed.getD i false = false) {f : Nat} (hr : reach md ops i f j = true) (hoj : ops[j]? = some oj) (hall : ∀ e ∈ oj.after, Region.binds md e = true → listed.getD e.on false = true) : False := by
 cases f with
 | zero => cases hr
 | succ f =>
  unfold reach at hr;rw [hoj] at hr;obtain ⟨e, he, hb⟩ := Array.any_eq_true'.1 hr;simp only [zK6, Bool.or_eq_true, beq_iff_eq] at hb;have h1 := hall e he hb.1;rcases hb.2 with h2 | h2
  · rw [h2, hi] at h1; cases h1
  · rw [znb hc hi _ _ h2] at h1; cases h1
theorem ClosedL.set {listed : Array Bool} (hc : ClosedL md ops listed) {j : Nat} {oj : Oper} (hoj : ops[j]? = some oj) (hall : ∀ e ∈ oj.after, Region.binds md e = true → listed.getD e.on false = true) : ClosedL md ops (listed.setIfInBounds j true) := by
 intro k ok hok hl e he hb;by_cases hjk : j = k
 · subst hjk
   rw [hoj] at hok;injection hok with hok
   subst hok;exact getD_set_true (hall e he hb)
 · rw [getD_set_ne false hjk] at hl
   exact getD_set_true (hc k ok hok hl e he hb)
theorem zqd {i : Nat} {oi : Oper} {v : Value} (hi : ops[i]? = some oi) (hsel : ∀ (j : Nat) (o : Oper) cs b, ops[j]? = some o → o.op ≠ .select cs b)
 (hQ : ∀ c a w, Q (.panic c) (a.put oi.dst v) w → Q (.panic c) a w) (hD : ∀ (j : Nat), j < ops.size → D j = true → reach md ops i ops.size j = true) :
 ∀ (fuel : Nat) (listed : Array Bool) (a : Act) (w : World),
  (∀ j oj, ops[j]? = some oj → j ≠ i → listed.getD j true = false → (∀ e ∈ oj.after, Region.binds md e = true → e.on ≠ i) → oi.apart ops oj = true) →
  ClosedL md ops listed →
  i ∈ Region.ready md ops listed → YieldsIf P ops S oi v a → S w → (D i = false) →
  zcg P md ops Q S D fuel (listed.setIfInBounds i true) (a.put oi.dst v) w → zcg P md ops Q S D (fuel + 1) listed a w := by
 intro fuel
 induction fuel with
 | zero =>
  intro listed a w _ _ hr hy hS _ H;refine ⟨fun h => (by rw [h] at hr; cases hr), fun j hj => ?_⟩;by_cases hji : j = i
  · subst hji; exact hy.wpOp hi hS ⟨fun _ => hS, H⟩
  · have := ready_mono hj hji
    rw [H.1] at this;cases this
 | succ fuel ih =>
  intro listed a w hfree hun0 hr hy hS hDi H;refine ⟨fun h => (by rw [h] at hr; cases hr), fun j hj => ?_⟩;by_cases hji : j = i
  · subst hji; exact hy.wpOp hi hS ⟨fun _ => hS, H⟩
  · have h1 := H.2 j (ready_mono hj hji)
    obtain ⟨hjun, oj, hoj, hall⟩ := mem_ready.1 hj
    have hnot : ∀ e ∈ oj.after, Region.binds md e = true → e.on ≠ i := fun e he hb heq => by
     have h1 := hall e he hb;have h0 := (mem_ready.1 hr).1;rw [heq] at h1;rcases tar i listed.size with h' | h'
     · simp [h'] at h0 h1; rw [h0] at h1; cases h1
     · simp [Array.getElem?_eq_none h'] at h1
    have hi0 : listed.getD i false = false := by
     have h0 := (mem_ready.1 hr).1;rcases tar i listed.size with h' | h'
     · simp [h'] at h0 ⊢; exact h0
     · simp [Array.getElem?_eq_none h'] at h0
    have hDj : D j = false := by
     cases hd : D j with
     | false => rfl
     | true => exact (zll hun0 hi0 (hD j (Array.getElem?_eq_some_iff.1 hoj).1 hd) hoj hall).elim
    have h2 := wpOp_putIf hoj (hfree j oj hoj hji hjun hnot) (fun cs b => hsel i oi cs b hi) (fun cs b => hsel j oj cs b hoj) hQ hy h1
    have hfree' : ∀ k ok, ops[k]? = some ok → k ≠ i → (listed.setIfInBounds j true).getD k true = false →
     (∀ e ∈ ok.after, Region.binds md e = true → e.on ≠ i) → oi.apart ops ok = true := fun k ok hk hki hun hno => by
     refine hfree k ok hk hki ?_ hno;by_cases hjk : j = k
     · subst hjk; exact hjun
     · rw [getD_set_ne true hjk] at hun; exact hun
    have hun' := hun0.set hoj hall;refine wpOp_mono (fun a' w' h3 => ⟨h3.2.1, ih (listed.setIfInBounds j true) a' w' hfree' hun' (ready_mono hr (Ne.symm hji)) h3.1 (h3.2.1 hDj) hDi ?_⟩) h2;rw [Array.setIfInBounds_comm _ _ hji];exact h3.2.2
theorem zsh {i : Nat} {oi : Oper} {v : Value} {fuel : Nat} {listed : Array Bool} {a : Act} {w : World} (hi : ops[i]? = some oi)
 (hs : Region.noSelect ops = true) (hf : Region.free md ops listed i = true) (hr : (Region.ready md ops listed).contains i = true) (hw : waits md ops D i = true) (hl : zk8 md ops listed = true) (hDi : D i = false)
 (hQ : ∀ c a w, Q (.panic c) (a.put oi.dst v) w → Q (.panic c) a w) (hy : YieldsIf P ops S oi v a) (hS : S w)
 (h : zcg P md ops Q S D fuel (listed.setIfInBounds i true) (a.put oi.dst v) w) : zcg P md ops Q S D (fuel + 1) listed a w :=
 zqd hi (Region.noSelect_spec hs) hQ (fun j hj hd => by unfold waits at hw; rw [taw] at hw; simpa [hd] using hw j (List.mem_range.2 hj)) fuel listed a w (Region.free_spec hi hf) (zss hl) (by simpa using hr) hy hS hDi h
def AllReadyG (P : Program) (md : Region.Mode) (ops : Array Oper) (Q : Exit → Act → World → Prop) (S : World → Prop) (D : Nat → Bool) (fuel : Nat) (listed : Array Bool) (a : Act) (w : World) (rs : List Nat) : Prop :=
 ∀ i ∈ rs, wpOp P ops Q i (fun a' w' => (D i = false → S w') ∧ zcg P md ops Q S D fuel (listed.setIfInBounds i true) a' w') a w
theorem AllReadyG.nil {fuel : Nat} {listed : Array Bool} {a : Act} {w : World} : AllReadyG P md ops Q S D fuel listed a w [] := fun _ h => by cases h
theorem AllReadyG.held {fuel : Nat} {listed : Array Bool} {a : Act} {w : World} {i : Nat} {o : Oper} {rs : List Nat} (ho : ops[i]? = some o)
 (h : ∀ K' : Act → World → Prop, Shut (∀ a w, S w → (S w → zcg P md ops Q S D fuel (listed.setIfInBounds i true) a w) → K' a w) → if Region.wanted o (yielded ops a.tmps) = true then Oper.wp P o a w K' Q else K' (a.put o.dst undef) w)
 (hs : AllReadyG P md ops Q S D fuel listed a w rs) : AllReadyG P md ops Q S D fuel listed a w (i :: rs) := fun j hj => by
 rcases List.mem_cons.1 hj with rfl | hj
 · exact wpOp_step ho (fun K' hK => h K' (fun a w hS hW => hK a w ⟨fun _ => hS, hW hS⟩))
 · exact hs j hj
theorem AllReadyG.loose {fuel : Nat} {listed : Array Bool} {a : Act} {w : World} {i : Nat} {o : Oper} {rs : List Nat} (ho : ops[i]? = some o) (hd : D i = true)
 (h : ∀ K' : Act → World → Prop, Shut (∀ a w, zcg P md ops Q S D fuel (listed.setIfInBounds i true) a w → K' a w) → if Region.wanted o (yielded ops a.tmps) = true then Oper.wp P o a w K' Q else K' (a.put o.dst undef) w)
 (hs : AllReadyG P md ops Q S D fuel listed a w rs) : AllReadyG P md ops Q S D fuel listed a w (i :: rs) := fun j hj => by
 rcases List.mem_cons.1 hj with rfl | hj
 · exact wpOp_step ho (fun K' hK => h K' (fun a w hW => hK a w ⟨fun hf => (by rw [hd] at hf; cases hf), hW⟩))
 · exact hs j hj
theorem zj2 {rs : List Nat} {fuel : Nat} {listed : Array Bool} {a : Act} {w : World} (hr : Region.ready md ops listed = rs) (hne : rs ≠ [])
 (h : AllReadyG P md ops Q S D fuel listed a w rs) : zcg P md ops Q S D (fuel + 1) listed a w := ⟨fun h0 => absurd (hr ▸ h0) hne, hr ▸ h⟩
theorem zah {listed : Array Bool} {a : Act} {w : World} (hr : Region.ready md ops listed = []) (h : Q .normal a w) :
 ∀ fuel, zcg P md ops Q S D fuel listed a w
 | 0 => ⟨hr, h⟩
 | _ + 1 => ⟨fun _ => h, by rw [hr]; simp⟩
theorem tkG (i : Nat) {oi : Oper} {v : Value} {fuel : Nat} {listed : Array Bool} {a : Act} {w : World}
 (h : zcg P md ops Q S D fuel (listed.setIfInBounds i true) (a.put oi.dst v) w)
 (hi : ops[i]? = some oi := by simp only [gA, gB, gC]; rfl)
 (hs : Region.noSelect ops = true := by kernel_rfl) (hf : Region.free md ops listed i = true := by kernel_rfl) (hr : (Region.ready md ops listed).contains i = true := by kernel_rfl) (hw1 : waits md ops D i = true := by kernel_rfl) (hl : zk8 md ops listed = true := by kernel_rfl) (hDi : D i = false := by kernel_rfl)
 (hQ : ∀ c a w, Q (.panic c) (a.put oi.dst v) w → Q (.panic c) a w := by exact fun _ _ _ h => h) (hw : Region.wanted oi (yielded ops a.tmps) = true := by rfl)
 (hy : ∀ w, S w → (execOp a.eval oi).run P w = .ok (.value v) w := by (intro w hSw; (try dsimp only at hSw); go_simp; try with_reducible rfl)) (hS : S w := by assumption) :
 zcg P md ops Q S D (fuel + 1) listed a w := zsh hi hs hf hr hw1 hl hDi hQ (.inl ⟨hw, hy⟩) hS h
theorem rdG (i : Nat) {o : Oper} {fuel : Nat} {listed : Array Bool} {a : Act} {w : World}
 (h : ∀ K' : Act → World → Prop, Shut (∀ a w, S w → (S w → zcg P md ops Q S D fuel (listed.setIfInBounds i true) a w) → K' a w) → if Region.wanted o (yielded ops a.tmps) = true then Oper.wp P o a w K' Q else K' (a.put o.dst undef) w)
 (hr : Region.ready md ops listed = [i] := by kernel_rfl) (ho : ops[i]? = some o := by simp only [gA, gB, gC]; rfl) :
 zcg P md ops Q S D (fuel + 1) listed a w := zj2 hr (by simp) (AllReadyG.held ho h AllReadyG.nil)
theorem rdL (i : Nat) {o : Oper} {fuel : Nat} {listed : Array Bool} {a : Act} {w : World}
 (h : ∀ K' : Act → World → Prop, Shut (∀ a w, zcg P md ops Q S D fuel (listed.setIfInBounds i true) a w → K' a w) → if Region.wanted o (yielded ops a.tmps) = true then Oper.wp P o a w K' Q else K' (a.put o.dst undef) w)
 (hr : Region.ready md ops listed = [i] := by kernel_rfl) (ho : ops[i]? = some o := by simp only [gA, gB, gC]; rfl) (hd : D i = true := by kernel_rfl) :
 zcg P md ops Q S D (fuel + 1) listed a w := zj2 hr (by simp) (AllReadyG.loose ho hd h AllReadyG.nil)
theorem za5 {id : Nat} {a : Act} {w : World} (D : Nat → Bool) (hm : P.follows .mixedOrders = true) (hS : S w.drew)
 (h : S w.drew → zcg P .any ops Q S D ops.size (Array.replicate ops.size false) a w.drew) : (Code.region id ops true).wp P Q a w :=
 wp_region_any hm (zi3 _ _ _ _ (h hS))
end
end Go.Proofs.YtidmeodmkcomlaaGreatDoor
namespace Go.Proofs.YtidmeodmkcomlaaGreatDoor
open Go Go.Proofs Go.RowKit
@[simp] theorem R3.okB {α β : Type} (i : α) (s : St) (f : α → St → R3 β) : (R3.ok i s).bind f = f i s := rfl
@[simp] theorem R3.badB {α β : Type} (e p : Nat) (f : α → St → R3 β) : (R3.bad e p : R3 α).bind f = .bad e p := rfl
@[simp] theorem R3.unB {α β : Type} (f : α → St → R3 β) : (R3.un : R3 α).bind f = .un := rfl
theorem zCs {ts : List Tk} {kind : Nat} {s s' : St} {t : Tk} (h : zag ts kind s = .ok t s') : s' = s.on 1 := (zCo h).2.2
theorem zub {ts : Nat} {s s' : St} {x : TermD} {i : Nat} (h : newT s x = .ok i s') (hk : s.k < ts) : s.k ≤ s'.k ∧ s'.k < ts ∧ s'.op = s.op := by
 obtain ⟨_, rfl⟩ := zcn h;exact ⟨zJw _, hk, rfl⟩
theorem zts {ts : Nat} {s s' : St} {x : TypD} {i : Nat} (h : newY s x = .ok i s') (hk : s.k < ts) : s.k ≤ s'.k ∧ s'.k < ts ∧ s'.op = s.op := by
 obtain ⟨_, rfl⟩ := zgm h;exact ⟨zJw _, hk, rfl⟩
def kAt (B : PE) (w : World) : Nat := match w.cell? ⟨B.pb, 1, none⟩ with
 | some v => (intOf v).toNat
 | none => 0
theorem PS.kAt {B : PE} {w : World} {s : St} (h : PS B w s) : kAt B w = s.k := by
 have c1 := h.blk.cell 1;simp only [PE.cells, gA, gB, gC] at c1;unfold YtidmeodmkcomlaaGreatDoor.kAt;rw [c1];simp [intOf]
theorem nowR {ts : List Tk} {B : PE} {w : World} {s : St} (hBts : B.ts = ts) (h : PS B w s) (hk : s.k < ts.length) : Calls Tryz.prog 70 #[B.ptr] w fun e w' => e = .returned (tokV (tkA ts s.k)) ∧ Below w.heap.size w w' := by
 subst hBts;exact zbe h hk
theorem Res.lift {α : Type} {V : α → Value} {B : PE} {w w1 w' : World} {s s1 : St} {r : R3 α} {e : Ending} (h : Res V B w1 s1 r e w') (a : Aft B w s1 w1) (ho : s1.op = s.op := by rfl) : Res V B w s r e w' := by
 cases r with
 | ok i s' => exact ⟨h.1, a.trans h.2⟩
 | bad c p =>
  obtain ⟨e1, s2, e2, a2⟩ := h;exact ⟨e1, s2, e2.trans ho, a.trans a2⟩
 | un => trivial
theorem zlt {B : PE} {w : World} {s : St} (h : PS B w s) (kind pos k1 : Int) (name : ByteArray) :
 Calls Tryz.prog 114 #[B.ptr, .agg #[.int .i64 kind, .int .i64 pos, .string name, .int .i64 0, .int .u64 0, .slice none 0 0, .slice (some ⟨w.heap.size, 0, none⟩) 1 1, .slice none 0 0]] (w.alloc (.cells #[.int .i64 k1] 3)) (Res natV B w s (newT s ⟨kind, pos, name, 0, 0, [], [k1], []⟩)) := by
 have hB0 : Below w.heap.size w (w.alloc (.cells #[.int .i64 k1] 3)) := (zJx _ _).alloc (zJw _) _;have hX : Blk (w.alloc (.cells #[.int .i64 k1] 3)) w.heap.size 3 #[.int .i64 k1] := Blk.new w 3 _;refine (newTK (h.below hB0) kind pos name [k1] 1 1 w.heap.size rfl (by decide) hX.lt (fun j u hu => by rw [hX.cell j]; simpa using hu)).mono (fun e w' q => ?_);exact q.lift (h.aft hB0)
theorem zlr {B : PE} {w : World} {s : St} (h : PS B w s) (kind pos k1 k2 : Int) (name : ByteArray) :
 Calls Tryz.prog 114 #[B.ptr, .agg #[.int .i64 kind, .int .i64 pos, .string name, .int .i64 0, .int .u64 0, .slice none 0 0, .slice (some ⟨w.heap.size, 0, none⟩) 2 2, .slice none 0 0]] (w.alloc (.cells #[.int .i64 k1, .int .i64 k2] 3)) (Res natV B w s (newT s ⟨kind, pos, name, 0, 0, [], [k1, k2], []⟩)) := by
 have hB0 : Below w.heap.size w (w.alloc (.cells #[.int .i64 k1, .int .i64 k2] 3)) := (zJx _ _).alloc (zJw _) _;have hX : Blk (w.alloc (.cells #[.int .i64 k1, .int .i64 k2] 3)) w.heap.size 3 #[.int .i64 k1, .int .i64 k2] := Blk.new w 3 _;refine (newTK (h.below hB0) kind pos name [k1, k2] 2 2 w.heap.size rfl (by decide) hX.lt (fun j u hu => by rw [hX.cell j]; simpa using hu)).mono (fun e w' q => ?_);exact q.lift (h.aft hB0)
end Go.Proofs.YtidmeodmkcomlaaGreatDoor
