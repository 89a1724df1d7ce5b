/- What waits in a list; the parts of a term and of a type, told one by one. -/
import Derived.Test.YtidmeodmkcomlaaGreatDoorOwn
import Derived.Test.YtidmeodmkcomlaaGreatDoorIterB
import Derived.Test.YtidmeodmkcomlaaGreatDoorCloneA
import Derived.RangeFuncBox
namespace Go.Proofs.YtidmeodmkcomlaaGreatDoor
open Go Go.Proofs Go.RowKit Go.Shelf

attribute [local go_sem] Oper.semAt_some

/-- What a round keeps: the row's block, and the iterator's box. -/
def Kq (b Bs : Nat) (W W' : World) : Prop := W.heap.size ≤ W'.heap.size ∧ ∀ k, k = b ∨ k = Bs → W'.heap[k]? = W.heap[k]?
theorem Kq.refl (b Bs : Nat) (W : World) : Kq b Bs W W := ⟨Nat.le_refl _, fun _ _ => rfl⟩
theorem Kq.trans {b Bs : Nat} {A B C : World} (h : Kq b Bs A B) (k : Kq b Bs B C) : Kq b Bs A C := ⟨Nat.le_trans h.1 k.1, fun i hi => (k.2 i hi).trans (h.2 i hi)⟩
theorem Kq.cell {b Bs k o : Nat} {A B : World} (h : Kq b Bs A B) (hk : k = b ∨ k = Bs) : B.cell? ⟨k, o, none⟩ = A.cell? ⟨k, o, none⟩ := World.cell?_of_block (a := ⟨k, o, none⟩) (h.2 k hk)

def ValPost (xs : List Int) (J Jx : List Int → World → Prop) (e : Ending) (W' : World) : Prop :=
  (∃ v, e = .returned v) ∧ ((∃ ys, ys = xs ∧ J ys W') ∨ (∃ pre, (∃ rest, xs = pre ++ rest) ∧ Jx pre W'))

/-- Places and numbers, from the last one on. -/
def bk (xs : List Int) : List (Int × Int) := (List.range xs.length).reverse.map fun i : Nat => ((i : Int), xs.getD i 0)
theorem bk_length (xs : List Int) : (bk xs).length = xs.length := by simp [bk]
theorem bk_get (xs : List Int) (k : Nat) (h : k < xs.length) : (bk xs)[k]? = some (((xs.length - 1 - k : Nat) : Int), xs.getD (xs.length - 1 - k) 0) := by
  unfold bk
  rw [List.getElem?_map, List.getElem?_reverse (by simpa using h)]
  simp [show xs.length - 1 - k < xs.length by omega]
theorem bk_snd (xs : List Int) : (bk xs).map Prod.snd = xs.reverse := by
  apply List.ext_getElem?
  intro k
  by_cases h : k < xs.length
  · rw [List.getElem?_map, bk_get xs k h, List.getElem?_reverse (by simpa using h)]
    have : xs.length - 1 - k < xs.length := by omega
    simp [List.getD_eq_getElem?_getD, this]
  · rw [List.getElem?_eq_none (by simp [bk_length]; omega), List.getElem?_eq_none (by simp; omega)]

def BackPost (xs : List Int) (J Jx : List (Int × Int) → World → Prop) (e : Ending) (W' : World) : Prop :=
  (∃ v, e = .returned v) ∧ ((∃ ys, ys = bk xs ∧ J ys W') ∨ (∃ pre, (∃ rest, bk xs = pre ++ rest) ∧ Jx pre W'))

end Go.Proofs.YtidmeodmkcomlaaGreatDoor

namespace Go.Proofs.YtidmeodmkcomlaaGreatDoor
open Go Go.Proofs Go.RowKit Go.Shelf

attribute [local go_sem] Oper.semAt_some

theorem Kq_put {b Bs : Nat} {w : World} (hb : b < w.heap.size) (hB : Bs < w.heap.size) (W : World) (l : Nat) (o o' : Obj) (hl : w.heap.size ≤ l) (h : W.heap[l]? = some o) (h1 : o.isCells = false) (h3 : o.isWalk = false) : Kq b Bs W (W.putObj l o') :=
  ⟨(belowK_b (n₀ := 0) (Nat.zero_le _) W l o o' hl h h1 h3).size, fun k hk => World.putObj_heap_other (by omega)⟩
theorem Kq.of_below {b Bs n₀ : Nat} {A B : World} (h : Below n₀ A B) (hb : b < n₀) (hB : Bs < n₀) : Kq b Bs A B := ⟨h.size, fun k hk => h.block k (by omega)⟩

/-- A row named by its block. -/
theorem SlAt.named {B : Nat} {w : World} {A : Option Addr} {n : Nat} {xs : List Value} (h : SlAt (Lt B) w A n xs) (h0 : 0 < B) : ∃ b, b < B ∧ SlAt (fun k => k = b) w A n xs := by
  rcases Nat.eq_zero_or_pos n with rfl | hn
  · have : xs = [] := List.eq_nil_of_length_eq_zero h.1
    subst this
    exact ⟨0, h0, SlAt.nil⟩
  · obtain ⟨b, off, e, hb, hc⟩ := h.2 hn
    exact ⟨b, hb, h.1, fun _ => ⟨b, off, e, rfl, hc⟩⟩
theorem SlAt.block {b : Nat} {w w' : World} {A : Option Addr} {n : Nat} {xs : List Value} (h : SlAt (fun k => k = b) w A n xs) (hb : w'.heap[b]? = w.heap[b]?) : SlAt (fun k => k = b) w' A n xs :=
  h.keep fun k o e => by subst e; exact World.cell?_of_block (a := ⟨k, o, none⟩) hb

end Go.Proofs.YtidmeodmkcomlaaGreatDoor

namespace Go.Proofs.YtidmeodmkcomlaaGreatDoor
open Go Go.Proofs Go.RowKit Go.Shelf

attribute [local go_sem] Oper.semAt_some

/-- append inside a fence, from whatever lies at A, with where the new row lies. -/
theorem wpListIn_app {F : Fence} {fu : Nat} {P : Program} (w : World) {ops : Array Oper} {rest : List Oper} {o : Oper} {a : Act} {Q : Exit → Act → World → Prop} (hgd : o.guard = none) (s x : Operand) (t : TypeId)
    (ho : o.op = .call { callee := .builtin .append, args := #[s, x], argTypes := #[t, t] })
    (base : Nat) (e : TypeId) (i : TypeInfo) (z : Value) (size bytes : Nat) (ht : P.underlying t = some (.slice e)) (hi : P.info? e = some i) (hz : i.zero = some z)
    (hsize : i.size = size) (hby : i.bytes = bytes) (hzs : z.cells.size = size) (hsz : 0 < size)
    (v : Value) (n : Nat) (xs : List Value) (hs : a.eval s = v) (hown : w.ownsRow base e size v n xs)
    (A : Option Addr) (m c : Nat) (news : List Value) (hx : a.eval x = .slice A m c) (hl : news.length = m * size) (hr : RdAt w A news) (h1 : ∀ u ∈ news, u.oneCell' = true)
    (h63 : n + m ≤ maxLen) (hbytes : (n + m) * bytes ≤ 140737488355328) (hbase : base ≤ w.heap.size)
    (h : ∀ v' w', w'.ownsRow base e size v' (n + m) (xs ++ news) → w.grownBy w' v.ownBlock → (v'.ownBlock = v.ownBlock ∨ v'.ownBlock = some w.heap.size) → wpListIn F fu P ops Q rest (a.put o.dst v') w') : wpListIn F fu P ops Q (o :: rest) a w := by
  refine wpListIn_plain hgd fun K hK' => ?_
  obtain ⟨v', w', hrun, h2, h3, h4⟩ := run_app (P := P) w base t o.type e i z size bytes ht hi hz hsize hby hzs hsz v n xs hown A m c news hl hr h1 h63 hbytes hbase
  unfold Oper.wpIn
  refine ⟨?_, ?_⟩
  · simp [Oper.about, ho, resolve, Target.leads, Sem.run_pure]
  · rw [Oper.semAt_plain F _ _ (by rw [ho]; intro c hc'; cases hc')]
    simp [execOp, ho, resolve, invoke, builtin, hs, hx, hrun, Result.andThen]
    exact hK' _ _ (h v' w' h2 h3 h4)

/-- A row cut to fewer. -/
theorem own_cut {w : World} {base : Nat} {e : TypeId} {g k n cap : Nat} {xs : List Value} (h : w.ownsRow base e 1 (.slice (some ⟨g, 0, none⟩) n cap) n xs) (hk : k ≤ n) : w.ownsRow base e 1 (.slice (some ⟨g, 0, none⟩) k cap) k (xs.take k) := by
  obtain ⟨hl, h | h⟩ := h
  · cases h.1
  · obtain ⟨g', cap', cur, he, hb, hh, hnc, hcm, hsz, hx⟩ := h
    cases he
    refine ⟨by rw [List.length_take]; omega, .inr ⟨g, cap, cur, rfl, hb, hh, by omega, hcm, hsz, ?_⟩⟩
    rw [← hx, List.take_take, Nat.mul_one, Nat.mul_one, Nat.min_eq_left hk]

/-- Two rows of numbers, apart from one another. -/
def Two (w : World) (base : Nat) (v1 : Value) (xs : List Int) (v2 : Value) (ys : List Int) : Prop :=
  w.ownsRow base 3 1 v1 xs.length (xs.map iv) ∧ w.ownsRow base 3 1 v2 ys.length (ys.map iv) ∧ (v1.ownBlock = none ∨ v1.ownBlock ≠ v2.ownBlock)

theorem own_lt {w : World} {base : Nat} {e : TypeId} {size : Nat} {v : Value} {n : Nat} {xs : List Value} (h : w.ownsRow base e size v n xs) {g : Nat} (hg : v.ownBlock = some g) : g < w.heap.size ∧ base ≤ g := by
  rcases own_block h with h1 | ⟨g', h1, h2, h3⟩
  · rw [h1] at hg; cases hg
  · rw [h1] at hg; cases hg; exact ⟨h3, h2⟩

theorem own_ty {w : World} {base : Nat} {e : TypeId} {size : Nat} {v : Value} {n : Nat} {xs : List Value} (h : w.ownsRow base e size v n xs) {g : Nat} (hg : v.ownBlock = some g) : ∃ cur, w.heap[g]? = some (.cells cur e (0, 0)) := by
  rcases h.2 with ⟨rfl, _⟩ | ⟨g', cap, cur, rfl, _, hh, _⟩
  · cases hg
  · simp only [Value.ownBlock, Option.some.injEq] at hg
    subst hg
    exact ⟨cur, hh⟩

theorem Two.kept {w w' : World} {base : Nat} {v1 v2 : Value} {xs ys : List Int} (h : Two w base v1 xs v2 ys) {row : Option Nat} (hg : w.grownBy w' row) (hr : ∀ g, row = some g → w.heap.size ≤ g ∨ ∃ o : Obj, w.heap[g]? = some o ∧ ∀ cur, o ≠ .cells cur 3 (0, 0)) : Two w' base v1 xs v2 ys := by
  have key : ∀ {v : Value} {n : Nat} {zs : List Value}, w.ownsRow base 3 1 v n zs → v.ownBlock = none ∨ row ≠ v.ownBlock := fun {v n zs} hv => by
    rcases own_block hv with h1 | ⟨g, h1, h2, h3⟩
    · exact .inl h1
    · refine .inr fun e => ?_
      rw [h1] at e
      rcases hr g e with h4 | ⟨o, ho, hne⟩
      · omega
      · obtain ⟨cur, hc⟩ := own_ty hv h1
        rw [hc] at ho
        cases ho
        exact hne _ rfl
  have k2 : ∀ {v : Value} {n : Nat} {zs : List Value}, w.ownsRow base 3 1 v n zs → w'.ownsRow base 3 1 v n zs := fun {v n zs} hv => hv.kept hg (by
    rcases key hv with h1 | h1
    · exact .inl h1
    · exact .inr (fun e => h1 e.symm))
  exact ⟨k2 h.1, k2 h.2.1, h.2.2⟩

/-- What was to be told, with the list that waits. -/
theorem stack_step {kids : Nat → List Nat} {n i : Nat} (hd : Dn kids n) (hi : i < n) {L out st : List Nat} (h : L = out ++ (st ++ [i]).reverse.flatMap (walk kids)) : L = (out ++ [i]) ++ (st ++ (kids i).reverse).reverse.flatMap (walk kids) := by
  rw [h]
  simp only [List.reverse_append, List.reverse_cons, List.reverse_nil, List.nil_append, List.singleton_append, List.flatMap_cons, List.reverse_reverse, List.flatMap_append, List.append_assoc]
  rw [walk_eq hd hi]
  rfl
theorem flat_walks {kids : Nat → List Nat} : ∀ (l : List Nat), l.length ≤ (l.flatMap (walk kids)).length
  | [] => by simp
  | a :: l => by
    have h1 : 0 < (walk kids a).length := by
      rcases h : walk kids a with _ | ⟨x, l⟩
      · exact absurd h (walk_ne a)
      · simp
    have := flat_walks (kids := kids) l
    simp only [List.flatMap_cons, List.length_append, List.length_cons]
    omega
theorem stack_len {kids : Nat → List Nat} {L out st : List Nat} (h : L = out ++ st.reverse.flatMap (walk kids)) : out.length + st.length ≤ L.length := by
  have := flat_walks (kids := kids) st.reverse
  rw [h, List.length_append]
  rw [List.length_reverse] at this
  omega

/-- The marks that loops over an iterator leave. -/
def mark (D : Nat) : Deferred := { target := .collected D, args := #[] }
def Marks (B : Nat) (W : World) (Ds : List Nat) : Prop := Ds.Nodup ∧ ∀ D ∈ Ds, B ≤ D ∧ W.heap[D]? = some (.deferred (some []))
theorem Marks.nil (B : Nat) (W : World) : Marks B W [] := ⟨List.nodup_nil, fun _ h => by simp at h⟩
theorem Marks.lt {B : Nat} {W : World} {Ds : List Nat} (h : Marks B W Ds) : ∀ D ∈ Ds, D < W.heap.size := fun D hD => (Array.getElem?_eq_some_iff.1 (h.2 D hD).2).1
theorem Marks.kept {B : Nat} {W W' : World} {Ds : List Nat} (h : Marks B W Ds) {row : Option Nat} (hg : W.grownBy W' row) (hr : ∀ r, row = some r → W.heap.size ≤ r ∨ ∃ o : Obj, W.heap[r]? = some o ∧ ∀ c, o ≠ .deferred c) : Marks B W' Ds :=
  ⟨h.1, fun D hD => ⟨(h.2 D hD).1, (hg.block D (h.lt D hD) (fun e => by
    rcases hr D e.symm with h1 | ⟨o, ho, hne⟩
    · have := h.lt D hD; omega
    · rw [(h.2 D hD).2] at ho; cases ho; exact hne _ rfl)).trans (h.2 D hD).2⟩⟩
theorem Marks.cons {B D : Nat} {W : World} {Ds : List Nat} (h : Marks B W Ds) (hB : B ≤ D) (hD : W.heap[D]? = some (.deferred (some []))) (hn : ∀ E ∈ Ds, E < D) : Marks B W (D :: Ds) :=
  ⟨List.nodup_cons.2 ⟨fun hm => by have := hn D hm; omega, h.1⟩, fun E hE => by
    rcases List.mem_cons.1 hE with rfl | hE
    · exact ⟨hB, hD⟩
    · exact h.2 E hE⟩

/-- What lies in cells stays when the marks are taken. -/
structure Shut (B : Nat) (W W' : World) : Prop where
  below : Below B W W'
  size : W'.heap.size = W.heap.size
  cells : ∀ (k : Nat) (o : Obj), W.heap[k]? = some o → o.isCells = true → W'.heap[k]? = some o
theorem leave_marks {fn : Func} {tmps : Array Value} {R : Ending → World → Prop} {F : Fence} {n : Nat} {P : Program} {B : Nat} : ∀ (Ds : List Nat) (W : World), Marks B W Ds → B ≤ W.heap.size →
    (∀ W', Shut B W W' → ∃ v, (results fn tmps).run P W' = .ok v W' ∧ R (.returned v) W') → LeavesInM F n P fn tmps R (Ds.map mark) .returning W
  | [], W, _, _, h => h W ⟨Below.refl _ _, rfl, fun _ _ h _ => h⟩
  | D :: Ds, W, hM, hB, h => by
    refine ⟨by simp, .inl ⟨D, _, rfl, run_takeDeferred (hM.2 D (by simp)).2, ?_⟩⟩
    have hD := (hM.2 D (by simp)).2
    have hz : (W.putObj D (.deferred none)).heap.size = W.heap.size := by simp
    have hlt := (Array.getElem?_eq_some_iff.1 hD).1
    refine leave_marks Ds _ ⟨(List.nodup_cons.1 hM.1).2, fun E hE => ⟨(hM.2 E (by simp [hE])).1, (World.putObj_heap_other (fun e => by subst e; exact (List.nodup_cons.1 hM.1).1 hE)).trans (hM.2 E (by simp [hE])).2⟩⟩ (by rw [hz]; exact hB) fun W' hS => h W' ?_
    refine ⟨Below.trans ((Below.refl B W).grown (grownBy_putObj' W D _) hB (fun k e => by cases e; exact (hM.2 D (by simp)).1)) hS.below, hS.size.trans hz, fun k o hk ho => hS.cells k o ((World.putObj_heap_other (fun e => by
      subst e
      rw [hD] at hk
      cases hk
      cases ho)).trans hk) ho⟩
theorem SlAt.shut {w w' : World} {B : Nat} {v : Value} {n : Nat} {xs : List Value} {base : Nat} {e : TypeId} {size : Nat} (h : w.ownsRow base e size v n xs) (hs : Shut B w w') : w'.ownsRow base e size v n xs := by
  refine ⟨h.1, ?_⟩
  rcases h.2 with h1 | ⟨g, cap, cur, rfl, h3, h4, h5⟩
  · exact .inl h1
  · exact .inr ⟨g, cap, cur, rfl, h3, hs.cells _ _ h4 rfl, h5⟩

theorem keeps_only {W W' : World} {row : Option Nat} (hg : W.grownBy W' row) {e : TypeId} (hr : ∀ g, row = some g → ∃ cur, W.heap[g]? = some (.cells cur e (0, 0))) : KeepsOthers W W' :=
  KeepsOthers.of_grownBy hg fun j o ej hj => by
    obtain ⟨cur, hc⟩ := hr j ej
    rw [hc] at hj
    cases hj
    rfl
theorem own_row {w : World} {base : Nat} {e : TypeId} {size : Nat} {v : Value} {n : Nat} {xs : List Value} (h : w.ownsRow base e size v n xs) : ∀ g, v.ownBlock = some g → ∃ cur, w.heap[g]? = some (.cells cur e (0, 0)) := fun _ hg => own_ty h hg
theorem own_base {w : World} {base : Nat} {e : TypeId} {size : Nat} {v : Value} {n : Nat} {xs : List Value} (h : w.ownsRow base e size v n xs) : ∀ g, v.ownBlock = some g → base ≤ g := fun _ hg => (own_lt h hg).2
theorem own_size {w : World} {base : Nat} {e : TypeId} {size : Nat} {v : Value} {n : Nat} {xs : List Value} (h : w.ownsRow base e size v n xs) : ∀ g, v.ownBlock = some g → g < w.heap.size := fun _ hg => (own_lt h hg).1

theorem Marks.others {B : Nat} {W W' : World} {Ds : List Nat} (h : Marks B W Ds) (hk : KeepsOthers W W') : Marks B W' Ds := ⟨h.1, fun D hD => ⟨(h.2 D hD).1, hk.same D _ (h.2 D hD).2 rfl⟩⟩

/-- The list that waits is one shorter, and its box holds it. -/
theorem two_cut {W : World} {b0 B g k c : Nat} {v1 : Value} {xs ys : List Int} {i : Int} (h : Two W b0 v1 xs (.slice (some ⟨g, 0, none⟩) (k + 1) c) (ys ++ [i])) (hk : ys.length = k) (hb : Boxed W B 36 (.slice (some ⟨g, 0, none⟩) (k + 1) c)) (hB : b0 ≤ B) :
    Two (W.setCell ⟨B, 0, none⟩ (.slice (some ⟨g, 0, none⟩) k c)) b0 v1 xs (.slice (some ⟨g, 0, none⟩) k c) ys ∧ Boxed (W.setCell ⟨B, 0, none⟩ (.slice (some ⟨g, 0, none⟩) k c)) B 36 (.slice (some ⟨g, 0, none⟩) k c) ∧
    KeepsOthers W (W.setCell ⟨B, 0, none⟩ (.slice (some ⟨g, 0, none⟩) k c)) ∧ Below b0 W (W.setCell ⟨B, 0, none⟩ (.slice (some ⟨g, 0, none⟩) k c)) := by
  obtain ⟨h1, h2, h3⟩ := h
  have h2' : W.ownsRow b0 3 1 (.slice (some ⟨g, 0, none⟩) (k + 1) c) (k + 1) ((ys ++ [i]).map iv) := by
    rw [List.length_append, hk] at h2
    exact h2
  have hc := own_cut h2' (Nat.le_succ k)
  rw [List.map_append, List.take_left' (by simpa using hk)] at hc
  have hT : Two W b0 v1 xs (.slice (some ⟨g, 0, none⟩) k c) ys := ⟨h1, by rw [hk]; exact hc, h3⟩
  refine ⟨hT.kept (grownBy_setCell' W B _) fun g' e => ?_, hb.set _, KeepsOthers.setCell _ _ _, (Below.refl _ _).setCell (p := ⟨B, 0, none⟩) hB _⟩
  cases e
  exact .inr ⟨_, hb, fun cur he => by simp at he⟩

/-- The list that grows is longer by some. -/
theorem two_out {W w1 : World} {b0 : Nat} {v1 v1' v2 : Value} {xs ys news : List Int} {tmp : Array Value} (h : Two W b0 v1 xs v2 ys) (hs : b0 ≤ W.heap.size)
    (hown : w1.ownsRow b0 3 1 v1' (xs.length + news.length) (xs.map iv ++ news.map iv)) (hgrow : (W.alloc (.cells tmp 3)).grownBy w1 v1.ownBlock) (hloc : v1'.ownBlock = v1.ownBlock ∨ v1'.ownBlock = some (W.alloc (.cells tmp 3)).heap.size) :
    Two w1 b0 v1' (xs ++ news) v2 ys ∧ (∀ C u, Boxed W C 36 u → Boxed w1 C 36 u) ∧ KeepsOthers W w1 ∧ Below b0 W w1 := by
  obtain ⟨h1, h2, h3⟩ := h
  have a1 := h1.alloc (.cells tmp 3)
  have a2 := h2.alloc (.cells tmp 3)
  have hz : (W.alloc (.cells tmp 3)).heap.size = W.heap.size + 1 := by simp
  refine ⟨⟨by simpa using hown, a2.kept hgrow ?_, ?_⟩, fun C u hC => (hC.alloc _).kept hgrow ((hC.alloc _).not_row (by decide) a1), (KeepsOthers.alloc W _).trans (keeps_only hgrow (own_row a1)), ((Below.refl b0 W).alloc hs _).grown hgrow (by omega) (own_base a1)⟩
  · rcases h3 with h3 | h3
    · rcases own_block a2 with h4 | ⟨g, h4, _⟩
      · exact .inl h4
      · exact .inr (by rw [h3, h4]; simp)
    · exact .inr (fun e => h3 e.symm)
  · rcases hloc with h4 | h4
    · rw [h4]; exact h3
    · rcases own_block h2 with h5 | ⟨g, h5, _, h6⟩
      · exact .inr (by rw [h4, h5]; simp)
      · exact .inr (by rw [h4, h5]; intro e; injection e; omega)

/-- The list that waits is longer by some, and its box holds it. -/
theorem two_push {W w1 : World} {b0 B : Nat} {v1 v2 v2' : Value} {xs ys news : List Int} {tmp : Array Value} (h : Two W b0 v1 xs v2 ys) (hb : Boxed W B 36 v2) (hB : b0 ≤ B) (hs : b0 ≤ W.heap.size)
    (hown : w1.ownsRow b0 3 1 v2' (ys.length + news.length) (ys.map iv ++ news.map iv)) (hgrow : (W.alloc (.cells tmp 3)).grownBy w1 v2.ownBlock) (hloc : v2'.ownBlock = v2.ownBlock ∨ v2'.ownBlock = some (W.alloc (.cells tmp 3)).heap.size) :
    Boxed w1 B 36 v2 ∧ Two (w1.setCell ⟨B, 0, none⟩ v2') b0 v1 xs v2' (ys ++ news) ∧ Boxed (w1.setCell ⟨B, 0, none⟩ v2') B 36 v2' ∧ KeepsOthers W (w1.setCell ⟨B, 0, none⟩ v2') ∧ Below b0 W (w1.setCell ⟨B, 0, none⟩ v2') ∧
    (∀ C u, C ≠ B → Boxed W C 36 u → Boxed (w1.setCell ⟨B, 0, none⟩ v2') C 36 u) := by
  obtain ⟨h1, h2, h3⟩ := h
  have a1 := h1.alloc (.cells tmp 3)
  have a2 := h2.alloc (.cells tmp 3)
  have hz : (W.alloc (.cells tmp 3)).heap.size = W.heap.size + 1 := by simp
  have hb1 : Boxed w1 B 36 v2 := (hb.alloc _).kept hgrow ((hb.alloc _).not_row (by decide) a2)
  have hT : Two w1 b0 v1 xs v2' (ys ++ news) := by
    refine ⟨a1.kept hgrow ?_, by simpa using hown, ?_⟩
    · rcases h3 with h3 | h3
      · exact .inl h3
      · exact .inr h3
    · rcases h3 with h3 | h3
      · exact .inl h3
      · rcases hloc with h4 | h4
        · rw [h4]; exact .inr h3
        · rcases own_block h1 with h5 | ⟨g, h5, _, h6⟩
          · exact .inl h5
          · exact .inr (by rw [h4, h5]; intro e; injection e; omega)
  refine ⟨hb1, hT.kept (grownBy_setCell' w1 B _) fun g' e => ?_, hb1.set _, ((KeepsOthers.alloc W _).trans (keeps_only hgrow (own_row a2))).trans (KeepsOthers.setCell _ _ _), (((Below.refl b0 W).alloc hs _).grown hgrow (by omega) (own_base a2)).setCell (p := ⟨B, 0, none⟩) hB _, fun C u hne hC => ?_⟩
  · cases e
    exact .inr ⟨_, hb1, fun cur he => by simp at he⟩
  · exact ((hC.alloc _).kept hgrow ((hC.alloc _).not_row (by decide) a2)).other hne _
end Go.Proofs.YtidmeodmkcomlaaGreatDoor
