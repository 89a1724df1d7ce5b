/- What waits in a list, and a part with all in it, as the program lists them. -/
import Derived.Test.YtinajnkjfhbmkaaGreatDoorAllSeq
import Derived.Test.YtinajnkjfhbmkaaGreatDoorMayMath
namespace Go.Proofs.YtinajnkjfhbmkaaGreatDoor
open Go Go.Proofs Go.RowKit Go.Shelf

attribute [local go_sem] Oper.semAt_some

theorem back_stops (n : Nat) (hn : 1 ≤ n) (Bs b : Nat) (A : Option Addr) (cap : Nat) (xs : List Int) (hlen : xs.length ≤ 140737488351232) (w : World) (hBs : Bs < w.heap.size) (hb : b < w.heap.size)
    (hc : w.cell? ⟨Bs, 0, none⟩ = some (.slice A xs.length cap)) (hh : SlAt (fun k => k = b) w A xs.length (xs.map iv)) :
    SeqStopsK Fence.wide n Tryz.prog 76 #[.pointer (some ⟨Bs, 0, none⟩)] (fun x : Int × Int => #[.int .i64 x.1, .int .i64 x.2]) (Kq b Bs) (fun ys => ys = bk xs) (fun pre => ∃ rest, bk xs = pre ++ rest) xs.length w := fun ll J Jx W hW hJ _ hY h0 =>
  back_in n hn ll Bs b A cap xs hlen J Jx W hJ hY ((hW.cell (p := ⟨Bs, 0, none⟩) hBs).trans hc) (hh.block (hW.block b hb)) h0

theorem mkBack_any (A : Option Addr) (n c : Nat) (w : World) : Calls Tryz.prog 62 #[.slice A n c] w fun e w' => e = .returned (.func (.func 76) #[] #[.pointer (some ⟨w.heap.size, 0, none⟩)]) ∧ w' = w.alloc (.cells #[.slice A n c] 32) := by
  go_enter Tryz.func62, Tryz.ntmps62
  go_wp2
  go_ret
  exact ⟨rfl, rfl⟩

/-- append inside a fence, from whatever lies at A, with where the new row lies. -/
theorem wpListIn_app {F : Fence} {fu : Nat} {P : Program} (w : World) {ops : Array Oper} {rest : List Oper} {o : Oper} {a : Act} {Q : Exit → Act → World → Prop} (hgd : o.guard = none) (s x : Operand) (t : TypeId)
    (ho : o.op = .call { callee := .builtin .append, args := #[s, x], argTypes := #[t, t] })
    (base : Nat) (e : TypeId) (i : TypeInfo) (z : Value) (size bytes : Nat) (ht : P.underlying t = some (.slice e)) (hi : P.info? e = some i) (hz : i.zero = some z)
    (hsize : i.size = size) (hby : i.bytes = bytes) (hzs : z.cells.size = size) (hsz : 0 < size)
    (v : Value) (n : Nat) (xs : List Value) (hs : a.eval s = v) (hown : w.ownsRow base e size v n xs)
    (A : Option Addr) (m c : Nat) (news : List Value) (hx : a.eval x = .slice A m c) (hl : news.length = m * size) (hr : RdAt w A news) (h1 : ∀ u ∈ news, u.oneCell' = true)
    (h63 : n + m ≤ maxLen) (hbytes : (n + m) * bytes ≤ 140737488355328) (hbase : base ≤ w.heap.size)
    (h : ∀ v' w', w'.ownsRow base e size v' (n + m) (xs ++ news) → w.grownBy w' v.ownBlock → (v'.ownBlock = v.ownBlock ∨ v'.ownBlock = some w.heap.size) → wpListIn F fu P ops Q rest (a.put o.dst v') w') : wpListIn F fu P ops Q (o :: rest) a w := by
  refine wpListIn_plain hgd fun K hK' => ?_
  obtain ⟨v', w', hrun, h2, h3, h4⟩ := run_app (P := P) w base t o.type e i z size bytes ht hi hz hsize hby hzs hsz v n xs hown A m c news hl hr h1 h63 hbytes hbase
  unfold Oper.wpIn
  refine ⟨?_, ?_⟩
  · simp [Oper.about, ho, resolve, Target.leads, Sem.run_pure]
  · rw [Oper.semAt_plain F _ _ (by rw [ho]; intro c hc'; cases hc')]
    simp [execOp, ho, resolve, invoke, builtin, hs, hx, hrun, Result.andThen]
    exact hK' _ _ (h v' w' h2 h3 h4)

/-- A row cut to fewer. -/
theorem own_cut {w : World} {base : Nat} {e : TypeId} {g k n cap : Nat} {xs : List Value} (h : w.ownsRow base e 1 (.slice (some ⟨g, 0, none⟩) n cap) n xs) (hk : k ≤ n) : w.ownsRow base e 1 (.slice (some ⟨g, 0, none⟩) k cap) k (xs.take k) := by
  obtain ⟨hl, h | h⟩ := h
  · cases h.1
  · obtain ⟨g', cap', cur, he, hb, hh, hnc, hcm, hsz, hx⟩ := h
    cases he
    refine ⟨by rw [List.length_take]; omega, .inr ⟨g, cap, cur, rfl, hb, hh, by omega, hcm, hsz, ?_⟩⟩
    rw [← hx, List.take_take, Nat.mul_one, Nat.mul_one, Nat.min_eq_left hk]

/-- Two rows of numbers, apart from one another. -/
def Two (w : World) (base : Nat) (v1 : Value) (xs : List Int) (v2 : Value) (ys : List Int) : Prop :=
  w.ownsRow base 3 1 v1 xs.length (xs.map iv) ∧ w.ownsRow base 3 1 v2 ys.length (ys.map iv) ∧ (v1.ownBlock = none ∨ v1.ownBlock ≠ v2.ownBlock)

theorem own_lt {w : World} {base : Nat} {e : TypeId} {size : Nat} {v : Value} {n : Nat} {xs : List Value} (h : w.ownsRow base e size v n xs) {g : Nat} (hg : v.ownBlock = some g) : g < w.heap.size ∧ base ≤ g := by
  rcases own_block h with h1 | ⟨g', h1, h2, h3⟩
  · rw [h1] at hg; cases hg
  · rw [h1] at hg; cases hg; exact ⟨h3, h2⟩

theorem own_ty {w : World} {base : Nat} {e : TypeId} {size : Nat} {v : Value} {n : Nat} {xs : List Value} (h : w.ownsRow base e size v n xs) {g : Nat} (hg : v.ownBlock = some g) : ∃ cur, w.heap[g]? = some (.cells cur e (0, 0)) := by
  rcases h.2 with ⟨rfl, _⟩ | ⟨g', cap, cur, rfl, _, hh, _⟩
  · cases hg
  · simp only [Value.ownBlock, Option.some.injEq] at hg
    subst hg
    exact ⟨cur, hh⟩

theorem Two.kept {w w' : World} {base : Nat} {v1 v2 : Value} {xs ys : List Int} (h : Two w base v1 xs v2 ys) {row : Option Nat} (hg : w.grownBy w' row) (hr : ∀ g, row = some g → w.heap.size ≤ g ∨ ∃ o : Obj, w.heap[g]? = some o ∧ ∀ cur, o ≠ .cells cur 3 (0, 0)) : Two w' base v1 xs v2 ys := by
  have key : ∀ {v : Value} {n : Nat} {zs : List Value}, w.ownsRow base 3 1 v n zs → v.ownBlock = none ∨ row ≠ v.ownBlock := fun {v n zs} hv => by
    rcases own_block hv with h1 | ⟨g, h1, h2, h3⟩
    · exact .inl h1
    · refine .inr fun e => ?_
      rw [h1] at e
      rcases hr g e with h4 | ⟨o, ho, hne⟩
      · omega
      · obtain ⟨cur, hc⟩ := own_ty hv h1
        rw [hc] at ho
        cases ho
        exact hne _ rfl
  have k2 : ∀ {v : Value} {n : Nat} {zs : List Value}, w.ownsRow base 3 1 v n zs → w'.ownsRow base 3 1 v n zs := fun {v n zs} hv => hv.kept hg (by
    rcases key hv with h1 | h1
    · exact .inl h1
    · exact .inr (fun e => h1 e.symm))
  exact ⟨k2 h.1, k2 h.2.1, h.2.2⟩

/-- What was to be told, with the list that waits. -/
theorem stack_step {kids : Nat → List Nat} {n i : Nat} (hd : Dn kids n) (hi : i < n) {L out st : List Nat} (h : L = out ++ (st ++ [i]).reverse.flatMap (walk kids)) : L = (out ++ [i]) ++ (st ++ (kids i).reverse).reverse.flatMap (walk kids) := by
  rw [h]
  simp only [List.reverse_append, List.reverse_cons, List.reverse_nil, List.nil_append, List.singleton_append, List.flatMap_cons, List.reverse_reverse, List.flatMap_append, List.append_assoc]
  rw [walk_eq hd hi]
  rfl
theorem flat_walks {kids : Nat → List Nat} : ∀ (l : List Nat), l.length ≤ (l.flatMap (walk kids)).length
  | [] => by simp
  | a :: l => by
    have h1 : 0 < (walk kids a).length := by
      rcases h : walk kids a with _ | ⟨x, l⟩
      · exact absurd h (walk_ne a)
      · simp
    have := flat_walks (kids := kids) l
    simp only [List.flatMap_cons, List.length_append, List.length_cons]
    omega
theorem stack_len {kids : Nat → List Nat} {L out st : List Nat} (h : L = out ++ st.reverse.flatMap (walk kids)) : out.length + st.length ≤ L.length := by
  have := flat_walks (kids := kids) st.reverse
  rw [h, List.length_append]
  rw [List.length_reverse] at this
  omega

/-- The marks that loops over an iterator leave. -/
def mark (D : Nat) : Deferred := { target := .collected D, args := #[] }
def Marks (B : Nat) (W : World) (Ds : List Nat) : Prop := Ds.Nodup ∧ ∀ D ∈ Ds, B ≤ D ∧ W.heap[D]? = some (.deferred (some []))
theorem Marks.nil (B : Nat) (W : World) : Marks B W [] := ⟨List.nodup_nil, fun _ h => by simp at h⟩
theorem Marks.lt {B : Nat} {W : World} {Ds : List Nat} (h : Marks B W Ds) : ∀ D ∈ Ds, D < W.heap.size := fun D hD => (Array.getElem?_eq_some_iff.1 (h.2 D hD).2).1
theorem Marks.kept {B : Nat} {W W' : World} {Ds : List Nat} (h : Marks B W Ds) {row : Option Nat} (hg : W.grownBy W' row) (hr : ∀ r, row = some r → W.heap.size ≤ r ∨ ∃ o : Obj, W.heap[r]? = some o ∧ ∀ c, o ≠ .deferred c) : Marks B W' Ds :=
  ⟨h.1, fun D hD => ⟨(h.2 D hD).1, (hg.block D (h.lt D hD) (fun e => by
    rcases hr D e.symm with h1 | ⟨o, ho, hne⟩
    · have := h.lt D hD; omega
    · rw [(h.2 D hD).2] at ho; cases ho; exact hne _ rfl)).trans (h.2 D hD).2⟩⟩
theorem Marks.cons {B D : Nat} {W : World} {Ds : List Nat} (h : Marks B W Ds) (hB : B ≤ D) (hD : W.heap[D]? = some (.deferred (some []))) (hn : ∀ E ∈ Ds, E < D) : Marks B W (D :: Ds) :=
  ⟨List.nodup_cons.2 ⟨fun hm => by have := hn D hm; omega, h.1⟩, fun E hE => by
    rcases List.mem_cons.1 hE with rfl | hE
    · exact ⟨hB, hD⟩
    · exact h.2 E hE⟩

/-- What lies in cells stays when the marks are taken. -/
structure Shut (B : Nat) (W W' : World) : Prop where
  below : Below B W W'
  size : W'.heap.size = W.heap.size
  cells : ∀ (k : Nat) (o : Obj), W.heap[k]? = some o → o.isCells = true → W'.heap[k]? = some o
theorem leave_marks {fn : Func} {tmps : Array Value} {R : Ending → World → Prop} {F : Fence} {n : Nat} {P : Program} {B : Nat} : ∀ (Ds : List Nat) (W : World), Marks B W Ds → B ≤ W.heap.size →
    (∀ W', Shut B W W' → ∃ v, (results fn tmps).run P W' = .ok v W' ∧ R (.returned v) W') → LeavesInM F n P fn tmps R (Ds.map mark) .returning W
  | [], W, _, _, h => h W ⟨Below.refl _ _, rfl, fun _ _ h _ => h⟩
  | D :: Ds, W, hM, hB, h => by
    refine ⟨by simp, .inl ⟨D, _, rfl, run_takeDeferred (hM.2 D (by simp)).2, ?_⟩⟩
    have hD := (hM.2 D (by simp)).2
    have hz : (W.putObj D (.deferred none)).heap.size = W.heap.size := by simp
    have hlt := (Array.getElem?_eq_some_iff.1 hD).1
    refine leave_marks Ds _ ⟨(List.nodup_cons.1 hM.1).2, fun E hE => ⟨(hM.2 E (by simp [hE])).1, (World.putObj_heap_other (fun e => by subst e; exact (List.nodup_cons.1 hM.1).1 hE)).trans (hM.2 E (by simp [hE])).2⟩⟩ (by rw [hz]; exact hB) fun W' hS => h W' ?_
    refine ⟨Below.trans ((Below.refl B W).grown (grownBy_putObj' W D _) hB (fun k e => by cases e; exact (hM.2 D (by simp)).1)) hS.below, hS.size.trans hz, fun k o hk ho => hS.cells k o ((World.putObj_heap_other (fun e => by
      subst e
      rw [hD] at hk
      cases hk
      cases ho)).trans hk) ho⟩
theorem SlAt.shut {w w' : World} {B : Nat} {v : Value} {n : Nat} {xs : List Value} {base : Nat} {e : TypeId} {size : Nat} (h : w.ownsRow base e size v n xs) (hs : Shut B w w') : w'.ownsRow base e size v n xs := by
  refine ⟨h.1, ?_⟩
  rcases h.2 with h1 | ⟨g, cap, cur, rfl, h3, h4, h5⟩
  · exact .inl h1
  · exact .inr ⟨g, cap, cur, rfl, h3, hs.cells _ _ h4 rfl, h5⟩

theorem keeps_only {W W' : World} {row : Option Nat} (hg : W.grownBy W' row) {e : TypeId} (hr : ∀ g, row = some g → ∃ cur, W.heap[g]? = some (.cells cur e (0, 0))) : KeepsOthers W W' :=
  KeepsOthers.of_grownBy hg fun j o ej hj => by
    obtain ⟨cur, hc⟩ := hr j ej
    rw [hc] at hj
    cases hj
    rfl
theorem own_row {w : World} {base : Nat} {e : TypeId} {size : Nat} {v : Value} {n : Nat} {xs : List Value} (h : w.ownsRow base e size v n xs) : ∀ g, v.ownBlock = some g → ∃ cur, w.heap[g]? = some (.cells cur e (0, 0)) := fun _ hg => own_ty h hg
theorem own_base {w : World} {base : Nat} {e : TypeId} {size : Nat} {v : Value} {n : Nat} {xs : List Value} (h : w.ownsRow base e size v n xs) : ∀ g, v.ownBlock = some g → base ≤ g := fun _ hg => (own_lt h hg).2
theorem own_size {w : World} {base : Nat} {e : TypeId} {size : Nat} {v : Value} {n : Nat} {xs : List Value} (h : w.ownsRow base e size v n xs) : ∀ g, v.ownBlock = some g → g < w.heap.size := fun _ hg => (own_lt h hg).1

theorem Marks.others {B : Nat} {W W' : World} {Ds : List Nat} (h : Marks B W Ds) (hk : KeepsOthers W W') : Marks B W' Ds := ⟨h.1, fun D hD => ⟨(h.2 D hD).1, hk.same D _ (h.2 D hD).2 rfl⟩⟩

/-- The list that waits is one shorter, and its box holds it. -/
theorem two_cut {W : World} {b0 B g k c : Nat} {v1 : Value} {xs ys : List Int} {i : Int} (h : Two W b0 v1 xs (.slice (some ⟨g, 0, none⟩) (k + 1) c) (ys ++ [i])) (hk : ys.length = k) (hb : Boxed W B 32 (.slice (some ⟨g, 0, none⟩) (k + 1) c)) (hB : b0 ≤ B) :
    Two (W.setCell ⟨B, 0, none⟩ (.slice (some ⟨g, 0, none⟩) k c)) b0 v1 xs (.slice (some ⟨g, 0, none⟩) k c) ys ∧ Boxed (W.setCell ⟨B, 0, none⟩ (.slice (some ⟨g, 0, none⟩) k c)) B 32 (.slice (some ⟨g, 0, none⟩) k c) ∧
    KeepsOthers W (W.setCell ⟨B, 0, none⟩ (.slice (some ⟨g, 0, none⟩) k c)) ∧ Below b0 W (W.setCell ⟨B, 0, none⟩ (.slice (some ⟨g, 0, none⟩) k c)) := by
  obtain ⟨h1, h2, h3⟩ := h
  have h2' : W.ownsRow b0 3 1 (.slice (some ⟨g, 0, none⟩) (k + 1) c) (k + 1) ((ys ++ [i]).map iv) := by
    rw [List.length_append, hk] at h2
    exact h2
  have hc := own_cut h2' (Nat.le_succ k)
  rw [List.map_append, List.take_left' (by simpa using hk)] at hc
  have hT : Two W b0 v1 xs (.slice (some ⟨g, 0, none⟩) k c) ys := ⟨h1, by rw [hk]; exact hc, h3⟩
  refine ⟨hT.kept (grownBy_setCell' W B _) fun g' e => ?_, hb.set _, KeepsOthers.setCell _ _ _, (Below.refl _ _).setCell (p := ⟨B, 0, none⟩) hB _⟩
  cases e
  exact .inr ⟨_, hb, fun cur he => by simp at he⟩

/-- The list that grows is longer by some. -/
theorem two_out {W w1 : World} {b0 : Nat} {v1 v1' v2 : Value} {xs ys news : List Int} {tmp : Array Value} (h : Two W b0 v1 xs v2 ys) (hs : b0 ≤ W.heap.size)
    (hown : w1.ownsRow b0 3 1 v1' (xs.length + news.length) (xs.map iv ++ news.map iv)) (hgrow : (W.alloc (.cells tmp 3)).grownBy w1 v1.ownBlock) (hloc : v1'.ownBlock = v1.ownBlock ∨ v1'.ownBlock = some (W.alloc (.cells tmp 3)).heap.size) :
    Two w1 b0 v1' (xs ++ news) v2 ys ∧ (∀ C u, Boxed W C 32 u → Boxed w1 C 32 u) ∧ KeepsOthers W w1 ∧ Below b0 W w1 := by
  obtain ⟨h1, h2, h3⟩ := h
  have a1 := h1.alloc (.cells tmp 3)
  have a2 := h2.alloc (.cells tmp 3)
  have hz : (W.alloc (.cells tmp 3)).heap.size = W.heap.size + 1 := by simp
  refine ⟨⟨by simpa using hown, a2.kept hgrow ?_, ?_⟩, fun C u hC => (hC.alloc _).kept hgrow ((hC.alloc _).not_row (by decide) a1), (KeepsOthers.alloc W _).trans (keeps_only hgrow (own_row a1)), ((Below.refl b0 W).alloc hs _).grown hgrow (by omega) (own_base a1)⟩
  · rcases h3 with h3 | h3
    · rcases own_block a2 with h4 | ⟨g, h4, _⟩
      · exact .inl h4
      · exact .inr (by rw [h3, h4]; simp)
    · exact .inr (fun e => h3 e.symm)
  · rcases hloc with h4 | h4
    · rw [h4]; exact h3
    · rcases own_block h2 with h5 | ⟨g, h5, _, h6⟩
      · exact .inr (by rw [h4, h5]; simp)
      · exact .inr (by rw [h4, h5]; intro e; injection e; omega)

/-- The list that waits is longer by some, and its box holds it. -/
theorem two_push {W w1 : World} {b0 B : Nat} {v1 v2 v2' : Value} {xs ys news : List Int} {tmp : Array Value} (h : Two W b0 v1 xs v2 ys) (hb : Boxed W B 32 v2) (hB : b0 ≤ B) (hs : b0 ≤ W.heap.size)
    (hown : w1.ownsRow b0 3 1 v2' (ys.length + news.length) (ys.map iv ++ news.map iv)) (hgrow : (W.alloc (.cells tmp 3)).grownBy w1 v2.ownBlock) (hloc : v2'.ownBlock = v2.ownBlock ∨ v2'.ownBlock = some (W.alloc (.cells tmp 3)).heap.size) :
    Boxed w1 B 32 v2 ∧ Two (w1.setCell ⟨B, 0, none⟩ v2') b0 v1 xs v2' (ys ++ news) ∧ Boxed (w1.setCell ⟨B, 0, none⟩ v2') B 32 v2' ∧ KeepsOthers W (w1.setCell ⟨B, 0, none⟩ v2') ∧ Below b0 W (w1.setCell ⟨B, 0, none⟩ v2') ∧
    (∀ C u, C ≠ B → Boxed W C 32 u → Boxed (w1.setCell ⟨B, 0, none⟩ v2') C 32 u) := by
  obtain ⟨h1, h2, h3⟩ := h
  have a1 := h1.alloc (.cells tmp 3)
  have a2 := h2.alloc (.cells tmp 3)
  have hz : (W.alloc (.cells tmp 3)).heap.size = W.heap.size + 1 := by simp
  have hb1 : Boxed w1 B 32 v2 := (hb.alloc _).kept hgrow ((hb.alloc _).not_row (by decide) a2)
  have hT : Two w1 b0 v1 xs v2' (ys ++ news) := by
    refine ⟨a1.kept hgrow ?_, by simpa using hown, ?_⟩
    · rcases h3 with h3 | h3
      · exact .inl h3
      · exact .inr h3
    · rcases h3 with h3 | h3
      · exact .inl h3
      · rcases hloc with h4 | h4
        · rw [h4]; exact .inr h3
        · rcases own_block h1 with h5 | ⟨g, h5, _, h6⟩
          · exact .inl h5
          · exact .inr (by rw [h4, h5]; intro e; injection e; omega)
  refine ⟨hb1, hT.kept (grownBy_setCell' w1 B _) fun g' e => ?_, hb1.set _, ((KeepsOthers.alloc W _).trans (keeps_only hgrow (own_row a2))).trans (KeepsOthers.setCell _ _ _), (((Below.refl b0 W).alloc hs _).grown hgrow (by omega) (own_base a2)).setCell (p := ⟨B, 0, none⟩) hB _, fun C u hne hC => ?_⟩
  · cases e
    exact .inr ⟨_, hb1, fun cur he => by simp at he⟩
  · exact ((hC.alloc _).kept hgrow ((hC.alloc _).not_row (by decide) a2)).other hne _
end Go.Proofs.YtinajnkjfhbmkaaGreatDoor

namespace Go.Proofs.YtinajnkjfhbmkaaGreatDoor
open Go Go.Proofs Go.RowKit Go.Shelf

attribute [local go_sem] Oper.semAt_some

abbrev nz (l : List Nat) : List Int := l.map fun k : Nat => (k : Int)
def slLen : Value → Nat
  | .slice _ n _ => n
  | _ => 0

/-- What holds at the loop's head. -/
structure AtHead (w : World) (kids : Nat → List Nat) (n : Nat) (L : List Nat) (out st : List Nat) (v1 v2 : Value) (Ds : List Nat) (W : World) : Prop where
  tell : L = out ++ st.reverse.flatMap (walk kids)
  lt : ∀ k ∈ st, k < n
  two : Two W w.heap.size v1 (nz out) v2 (nz st)
  box : Boxed W (w.heap.size + 1) 32 v2
  marks : Marks w.heap.size W Ds
  below : Below w.heap.size w W

/-- What holds between the rounds of the loop within: the kids pre have been laid to those that wait. -/
structure Within (b0 Bs : Nat) (v1 : Value) (out st : List Int) (Ds : List Nat) (u : Value) (w : World) (pre : List (Int × Int)) (W : World) : Prop where
  two : ∃ v2, Two W b0 v1 out v2 (st ++ pre.map Prod.snd) ∧ Boxed W (b0 + 1) 32 v2
  seq : Boxed W Bs 32 u
  marks : Marks b0 W Ds
  below : Below b0 w W

theorem within_own {b0 Bs B : Nat} {v1 : Value} {out st : List Int} {Ds : List Nat} {u : Value} {w : World} (hB : b0 ≤ B) (hD : ∀ D ∈ Ds, D < B) (hs : b0 ≤ w.heap.size) : OwnFrom B (Within b0 Bs v1 out st Ds u w) := by
  rintro pre W W' row ⟨⟨v2, hT, hb⟩, hq, hM, hbl⟩ hg hr
  have far : ∀ (C : Nat) (u : Value), Boxed W C 32 u → Boxed W' C 32 u := fun C u hC => hC.kept hg (fun e => by
    obtain ⟨_, o, ho, hc⟩ := hr C e.symm
    rw [show W.heap[C]? = _ from hC] at ho
    cases ho
    cases hc)
  refine ⟨⟨v2, hT.kept hg (fun g e => ?_), far _ _ hb⟩, far _ _ hq, ⟨hM.1, fun D hD' => ⟨(hM.2 D hD').1, (hg.block D (hM.lt D hD') (fun e => ?_)).trans (hM.2 D hD').2⟩⟩, hbl.grown hg (Nat.le_trans hs hbl.size) (fun k e => ?_)⟩
  · obtain ⟨_, o, ho, hc⟩ := hr g e
    exact .inr ⟨o, ho, fun cur he => by subst he; cases hc⟩
  · have := (hr D e.symm).1
    have := hD D hD'
    omega
  · have := (hr k e).1
    omega

/-- What a part's kids are, as the program asks for them. -/
def KidsPost (B : Nat) (ks : List Nat) (W : World) (e : Ending) (W' : World) : Prop :=
  (∃ A c, e = .returned (.slice A ks.length c) ∧ SlAt (Lt B) W A ks.length ((nz ks).map iv)) ∧ W = W'

theorem snd_bk (ks : List Nat) : (bk (nz ks)).map Prod.snd = nz ks.reverse := by rw [bk_snd]; exact List.map_reverse.symm

set_option maxRecDepth 100000 in
set_option maxHeartbeats 4000000 in
theorem ahead_any (fk : Nat) (hfk : fk = 63 ∨ fk = 77) (cap : Value) (kids : Nat → List Nat) (n root : Nat) (w : World) (hd : Dn kids n) (hr : root < n) (L : List Nat) (hL : walk kids root = L) (hLn : L.length ≤ 65536) (h0 : 0 < w.heap.size)
    (hk : ∀ i W, i < n → Below w.heap.size w W → Calls Tryz.prog fk #[.int .i64 (i : Int), cap] W (KidsPost w.heap.size (kids i) W)) :
    Calls Tryz.prog 32 #[.int .i64 (root : Int), .func (.func fk) #[] #[cap]] w (CopyPost w L.length ((nz L).map iv)) := by
  obtain ⟨i0, hi, hz0, hz1, hz2⟩ := info_parts info3
  refine (callsIn_wide (n := 9)).1 ?_
  refine callsIn_of_wp_marks Tryz.func32 rfl trivial ?_ rfl
  simp only [Tryz.ntmps32, List.size_toArray, List.length_cons, List.length_nil, Nat.reduceAdd, Nat.reduceSub, Array.replicate_succ, Array.replicate_zero, List.push_toArray, List.append_toArray, List.nil_append, List.cons_append]
  have HL := Lib.hid hL
  have HD := Lib.hid hd
  have HK := Lib.hid hk
  clear hL hd hk
  gi_wp2
  refine wpIn_loop (fun a W => ∃ (out st : List Nat) (v1 v2 : Value) (Ds : List Nat) (u7 u8 u13 u14 u15 u16 u17 u18 u19 u20 u21 u22 u23 u24 u25 u26 u27 u28 u29 u30 u31 u32 u33 : Value), Hid (AtHead w kids n L out st v1 v2 Ds W) ∧
      a = { tmps := #[.int .i64 (root : Int), .func (.func fk) #[] #[cap], undef, undef, .slice none 0 0, v1, .pointer (some { block := w.heap.size + 1, off := 0 }), u7, u8, undef, undef, .int .i64 (root : Int), .slice (some { block := w.heap.size, off := 0 }) 1 1, u13, u14, u15, u16, u17, u18, u19, u20, u21, u22, u23, u24, u25, u26, u27, u28, u29, u30, u31, u32, u33, undef, undef, undef, undef, undef, undef, undef], defers := Ds.map mark })
    (fun a _ => L.length - slLen (a.tmps.getD 5 undef)) ?start ?round
  case start =>
    refine ⟨[], [root], .slice none 0 0, .slice (some { block := w.heap.size, off := 0 }) 1 1, [], _, _, _, _, _, _, _, _, _, _, _, _, _, _, _, _, _, _, _, _, _, _, _, Lib.hid ?_, rfl⟩
    have hW := Blk.new w 3 #[.int .i64 (root : Int)]
    refine ⟨by simp [HL.out], fun k hk => by simp at hk; omega, ⟨World.ownsRow_nil _ _ _ _, ⟨rfl, .inr ⟨w.heap.size, 1, #[.int .i64 (root : Int)], rfl, Nat.le_refl _, hW.alloc _, Nat.le_refl _, by decide, rfl, rfl⟩⟩, .inl rfl⟩, ?_, Marks.nil _ _, ((Below.refl _ _).alloc (Nat.le_refl _) _).alloc (by simp) _⟩
    have := Boxed.new (w.alloc (.cells #[.int .i64 (root : Int)] 3)) 32 (.slice (some { block := w.heap.size, off := 0 }) 1 1)
    simpa using this
  case round =>
    rintro a W ⟨out, st, v1, v2, Ds, u7, u8, u13, u14, u15, u16, u17, u18, u19, u20, u21, u22, u23, u24, u25, u26, u27, u28, u29, u30, u31, u32, u33, HA, rfl⟩
    have hcb := HA.out.box.cell
    have hfb := HA.out.box.frozen
    rcases List.eq_nil_or_concat st with rfl | ⟨st, i, rfl⟩
    · obtain ⟨A2, c2, hv2⟩ : ∃ A2 c2, v2 = .slice A2 0 c2 := by
        obtain ⟨A2, c2, h, _, _⟩ := SlAt.of_own HA.out.two.2.1
        exact ⟨A2, c2, h⟩
      subst hv2
      have hLo : L = out := by have := HA.out.tell; simpa using this
      have HLO := Lib.hid hLo
      clear hLo
      gi_wp2
      have hsz : w.heap.size ≤ W.heap.size := HA.out.below.size
      refine leave_marks (B := w.heap.size) Ds W HA.out.marks hsz fun W' hS => ?_
      have hown := SlAt.shut HA.out.two.1 hS
      rw [← HLO.out, List.length_map] at hown
      obtain ⟨A1, c1, hv1, _, h1⟩ := SlAt.of_own hown
      subst hv1
      exact ⟨_, results_tmp rfl _ _ _, A1, c1, rfl, h1, HA.out.below.trans hS.below⟩
    · rw [List.concat_eq_append] at HA
      obtain ⟨g, c2, hv2⟩ : ∃ g c, v2 = .slice (some ⟨g, 0, none⟩) (st.length + 1) c := by
        have h2 := HA.out.two.2.1
        rw [show (nz (st ++ [i])).length = st.length + 1 by simp] at h2
        exact ownsRow_succ h2
      subst hv2
      have hcap : st.length + 1 ≤ c2 := by
        rcases HA.out.two.2.1.2 with h | ⟨g', cap', cur, he, _, _, hnc, _⟩
        · cases h.1
        · have h1 : c2 = cap' := by injection he
          rw [h1]
          simpa using hnc
      have hsl := stack_len HA.out.tell
      rw [List.length_append, List.length_singleton] at hsl
      have hci : W.cell? ⟨g, st.length, none⟩ = some (.int .i64 (i : Int)) := by
        obtain ⟨A2, c2, he, _, h2⟩ := SlAt.of_own HA.out.two.2.1
        have he1 : some ⟨g, 0, none⟩ = A2 := by injection he
        subst he1
        obtain ⟨b, off, hA, _, hc⟩ := h2.2 (by simp)
        cases hA
        have := hc st.length (.int .i64 (i : Int)) (by simp)
        rwa [Nat.zero_add] at this
      have hT0 := HA.out.two
      rw [show nz (st ++ [i]) = nz st ++ [(i : Int)] by simp] at hT0
      obtain ⟨hT1, hb1, hk1, hl1⟩ := two_cut hT0 (by simp) HA.out.box (Nat.le_succ _)
      have hin : i < n := HA.out.lt i (by simp)
      have hst := stack_step HD.out hin HA.out.tell
      have hsl2 := stack_len hst
      rw [List.length_append, List.length_append, List.length_reverse, List.length_singleton] at hsl2
      have hB1 := HA.out.below.trans hl1
      have hM1 := HA.out.marks.others hk1
      obtain ⟨W1, hW1⟩ : ∃ W1, W.setCell { block := w.heap.size + 1, off := 0 } (.slice (some { block := g, off := 0 }) st.length c2) = W1 := ⟨_, rfl⟩
      rw [hW1] at hT1 hb1 hB1 hM1
      have hzW : w.heap.size ≤ W1.heap.size := hB1.size
      have HT1 := Lib.hid hT1
      have HB1 := Lib.hid hb1
      have HM1 := Lib.hid hM1
      have HST := Lib.hid hst
      have hrd := rd_one W1 (.int .i64 (i : Int)) 3
      have HRD := Lib.hid hrd
      clear hT0 hT1 hb1 hk1 hl1 hM1 hst hrd
      obtain ⟨fj, hfj⟩ : ∃ fj, fj = fk := ⟨fk, rfl⟩
      have HFJ := Lib.hid hfj
      clear hfj
      rcases hfk with rfl | rfl
      all_goals
        gi_wp2_with (gi_at_builtin; refine wpListIn_app _ rfl _ _ 32 rfl w.heap.size 3 i0 (.int .i64 0) 1 8 Tryz.underlying32 hi hz0 hz1 hz2 rfl (by decide) v1 out.length ((nz out).map iv) rfl (by have := HT1.out.1; rw [List.length_map] at this; exact this.alloc _) (some ⟨W1.heap.size, 0, none⟩) 1 1 [.int .i64 (i : Int)] rfl rfl HRD.out (by simp [Value.oneCell']) (by unfold maxLen; omega) (by omega) (by simp; omega) ?_; intro v1' W3 hown3 hgrow3 hloc3)
        have hz2' : (W1.alloc (.cells #[.int .i64 (i : Int)] 3)).heap.size = W1.heap.size + 1 := by simp
        have hout := two_out (news := [(i : Int)]) HT1.out hzW (by rw [List.length_map]; exact hown3) hgrow3 hloc3
        obtain ⟨hT3, hf3, hk3, hl3⟩ := hout
        have hb3 := hf3 _ _ HB1.out
        have hM3 := HM1.out.others hk3
        have hB3 := hB1.trans hl3
        have hz3 : w.heap.size + 1 < W3.heap.size := hb3.lt
        have HK3 := Lib.hid (HK.out i W3 hin hB3)
        have HT3 := Lib.hid hT3
        have HB3 := Lib.hid hb3
        have HM3 := Lib.hid hM3
        clear hT3 hb3 hM3 hf3 hk3 hl3 hown3 hgrow3 hloc3 hz2' hci hcb hfb
        refine ⟨trivial, ?_⟩
        first
          | (gi_at_call 63; refine (callsIn_wide.2 HK3.out).mono ?_)
          | (gi_at_call 77; refine (callsIn_wide.2 HK3.out).mono ?_)
        rintro e W4 ⟨⟨A, c, rfl, hS⟩, rfl⟩
        gi_wp2_with (refine ⟨trivial, ?_⟩; gi_at_call 62; refine (callsIn_wide.2 (mkBack_any _ _ _ _)).mono ?_; rintro e W5 ⟨rfl, rfl⟩)
        obtain ⟨b, hbB, hSb⟩ := hS.named h0
        have hlk : (nz (kids i)).length = (kids i).length := List.length_map _
        have hbox5 := Boxed.new W3 32 (.slice A (kids i).length c)
        obtain ⟨W5, hW5⟩ : ∃ W5, W3.alloc (.cells #[.slice A (kids i).length c] 32) = W5 := ⟨_, rfl⟩
        have hb35 : Below W3.heap.size W3 W5 := by rw [← hW5]; exact (Below.refl _ _).alloc (Nat.le_refl _) _
        have hk35 : KeepsOthers W3 W5 := by rw [← hW5]; exact KeepsOthers.alloc _ _
        have hT5 : Two W5 w.heap.size v1' (nz out ++ [(i : Int)]) (.slice (some ⟨g, 0, none⟩) st.length c2) (nz st) := HT3.out.kept (row := none) (by rw [← hW5]; exact World.grownBy_alloc W3 _ none) (fun g e => by cases e)
        have hB5 : Boxed W5 (w.heap.size + 1) 32 (.slice (some ⟨g, 0, none⟩) st.length c2) := by rw [← hW5]; exact HB3.out.alloc _
        have hM5 := HM3.out.others hk35
        have hbl5 : Below w.heap.size w W5 := hB3.trans (hb35.mono (by omega))
        have hS5 : SlAt (fun k => k = b) W5 A (kids i).length ((nz (kids i)).map iv) := hSb.block (hb35.block b (by omega))
        have hD5 := hM5.lt
        have hz5 : W5.heap.size = W3.heap.size + 1 := by rw [← hW5]; simp
        have hI0 : Within w.heap.size W3.heap.size v1' (nz out ++ [(i : Int)]) (nz st) Ds (.slice A (kids i).length c) w [] W5 := ⟨⟨_, by simpa using hT5, hB5⟩, by rw [← hW5]; exact hbox5, hM5, hbl5⟩
        rw [hW5]
        have HI0 := Lib.hid hI0
        have HS5 := Lib.hid hS5
        have HD5 := Lib.hid hD5
        have HBX : Hid (Boxed W5 W3.heap.size 32 (.slice A (kids i).length c)) := Lib.hid (by rw [← hW5]; exact hbox5)
        clear hW5 hbox5 hb35 hk35 hT5 hB5 hM5 hS5 hD5 hI0 hS hSb
        refine wpIn_rangeFunc_ownG rfl (by omega) (gf := 76) (lb := #[.pointer (some ⟨W3.heap.size, 0, none⟩)]) rfl trivial (enters_of Tryz.func76 (by kernel_rfl) rfl)
          (back_stops 8 (by omega) W3.heap.size b A c (nz (kids i)) (by omega) W5 (by omega) (by omega) (by rw [hlk]; exact HBX.out.cell) (by rw [hlk]; exact HS5.out)) Kq.trans (Kq_put (by omega) (by omega)) (Below.refl _ _) (fun _ => rfl)
          (Within w.heap.size W3.heap.size v1' (nz out ++ [(i : Int)]) (nz st) Ds (.slice A (kids i).length c) w)
          (fun _ _ _ => False)
          (within_own (by omega) HD5.out (Nat.le_refl _))
          (fun _ _ _ _ _ hs _ _ => hs)
          HI0.out
          (fun x => { tmps := #[.int .i64 (root : Int), .func (.func fj) #[] #[cap], undef, undef, .slice none 0 0, v1', .pointer (some { block := w.heap.size + 1, off := 0 }), .int .i64 (st.length : Int), .int .i64 (i : Int), undef, .int .i64 x.2, .int .i64 (root : Int), .slice (some { block := w.heap.size, off := 0 }) 1 1,
              .slice (some { block := g, off := 0 }) (st.length + 1) c2, .int .i64 ((st.length : Int) + 1), .bool true, .slice (some { block := g, off := 0 }) (st.length + 1) c2, .int .i64 ((st.length : Int) + 1), .int .i64 (st.length : Int), .slice (some { block := g, off := 0 }) (st.length + 1) c2, .int .i64 (st.length : Int),
              .pointer (some { block := g, off := st.length }), .int .i64 (i : Int), .slice (some { block := g, off := 0 }) (st.length + 1) c2, .int .i64 (st.length : Int), .slice (some { block := g, off := 0 }) st.length c2, v1, .int .i64 (i : Int), .slice (some { block := W1.heap.size, off := 0 }) 1 1, v1', .func (.func fj) #[] #[cap], .int .i64 (i : Int),
              .slice A (kids i).length c, .func (.func 76) #[] #[.pointer (some { block := W3.heap.size, off := 0 })], .int .i64 x.1, .int .i64 x.2, undef, undef, undef, undef, undef], defers := [] }) ?assign ?body ?done ?stop
        case assign =>
          intro ll x W K hK
          have := HFJ.out
          subst this
          gi_wp2
          exact hK
        case body =>
          rintro ll pre x W HW hpl
          have := HFJ.out
          subst this
          rw [hlk] at hpl
          obtain ⟨⟨v2, hT, hbx⟩, hq, hM, hbl⟩ := HW
          have hcl := hbx.cell
          have hzW' := hbl.size
          have hlen : (nz st ++ pre.map Prod.snd).length = st.length + pre.length := by simp
          have HT := Lib.hid hT
          have HQ := Lib.hid hq
          have HM := Lib.hid hM
          have HBX2 := Lib.hid hbx
          have HRD2 := Lib.hid (rd_one W (.int .i64 x.2) 3)
          have HLEN := Lib.hid hlen
          clear hT hq hM hbx hlen
          gi_wp2_with (gi_at_builtin; refine wpListIn_app _ rfl _ _ 32 rfl w.heap.size 3 i0 (.int .i64 0) 1 8 Tryz.underlying32 hi hz0 hz1 hz2 rfl (by decide) v2 (st.length + pre.length) ((nz st ++ pre.map Prod.snd).map iv) rfl (by have := HT.out.2.1; rw [HLEN.out] at this; exact this.alloc _) (some ⟨W.heap.size, 0, none⟩) 1 1 [.int .i64 x.2] rfl rfl HRD2.out (by simp [Value.oneCell']) (by unfold maxLen; omega) (by omega) (by simp; omega) ?_; intro v2' w1 hown' hgrow hloc; obtain ⟨gb, capb, hv2'⟩ := ownsRow_succ hown'; subst hv2'; have hp := two_push (news := [x.2]) HT.out HBX2.out (Nat.le_succ _) hzW' (by rw [HLEN.out]; exact hown') hgrow hloc; have hc1 := hp.1.cell; have hf1 := hp.1.frozen; have HP := Lib.hid hp; clear hp hown' hgrow hloc)
          obtain ⟨-, hT', hb', hk', hl', hfar⟩ := HP.out
          have hq' := hfar W3.heap.size _ (by omega) HQ.out
          refine ⟨hk'.from _, ⟨hk'.size, fun k hk => ?_⟩, ⟨⟨_, by rw [List.map_append, ← List.append_assoc]; exact hT', hb'⟩, hq', HM.out.others hk', hbl.trans hl'⟩⟩
          rcases hk with rfl | rfl
          · exact hl'.block _ hbB
          · exact (show _ = _ from hq').trans (show _ = _ from HQ.out).symm
        case done =>
          rintro D ys W hD rfl HW hK
          have := HFJ.out
          subst this
          obtain ⟨⟨v2, hT, hbx⟩, hq, hM, hbl⟩ := HW
          rw [snd_bk] at hT
          have hh : AtHead w kids n L (out ++ [i]) (st ++ (kids i).reverse) v1' v2 (D :: Ds) W := by
            refine ⟨HST.out, fun k hk => ?_, by simpa using hT, hbx, hM.cons (by omega) hK (fun E hE => by have := HD5.out E hE; omega), hbl⟩
            rcases List.mem_append.1 hk with hk | hk
            · exact HA.out.lt k (by simp [hk])
            · have := HD.out i hin k (by simpa using hk)
              omega
          have hlv : slLen v1' = out.length + 1 := by
            obtain ⟨A9, c9, h9, _⟩ := SlAt.of_own hT.1
            rw [h9]
            simp [slLen]
          have hlv0 : slLen v1 = out.length := by
            obtain ⟨A9, c9, h9, _⟩ := SlAt.of_own HA.out.two.1
            rw [h9]
            simp [slLen]
          refine ⟨⟨out ++ [i], st ++ (kids i).reverse, v1', v2, D :: Ds, _, _, _, _, _, _, _, _, _, _, _, _, _, _, _, _, _, _, _, _, _, _, _, Lib.hid hh, rfl⟩, ?_⟩
          show L.length - slLen v1' < L.length - slLen v1
          omega
        case stop =>
          rintro D c pre W _ _ h _
          exact h.elim
end Go.Proofs.YtinajnkjfhbmkaaGreatDoor

namespace Go.Proofs.YtinajnkjfhbmkaaGreatDoor
open Go Go.Proofs Go.RowKit Go.Shelf

theorem nz_tmK {t : TreeD} (h : Rng t) {i : Nat} {x : TermD} (hx : t.nodes[i]? = some x) : nz (tmK t i) = x.kids ∧ (tmK t i).length = x.kids.length := by
  unfold tmK
  rw [hx]
  refine ⟨?_, by simp⟩
  show (x.kids.map Int.toNat).map (fun k : Nat => (k : Int)) = x.kids
  rw [List.map_map]
  conv => rhs; rw [← List.map_id x.kids]
  refine List.map_congr_left fun k hk => ?_
  have := ((h.nod i x hx).1 k hk).1
  show ((k.toNat : Nat) : Int) = k
  omega
theorem nz_tyK {t : TreeD} (h : Rng t) {i : Nat} {x : TypD} (hx : t.types[i]? = some x) : nz (tyK t i) = x.kids ∧ (tyK t i).length = x.kids.length := by
  unfold tyK
  rw [hx]
  refine ⟨?_, by simp⟩
  show (x.kids.map Int.toNat).map (fun k : Nat => (k : Int)) = x.kids
  rw [List.map_map]
  conv => rhs; rw [← List.map_id x.kids]
  refine List.map_congr_left fun k hk => ?_
  have := ((h.typ i x hx).1 k hk).1
  show ((k.toNat : Nat) : Int) = k
  omega

theorem kidT_any (t : TreeD) (p : Ptr6) (B T i : Nat) (W : World) (hX : Blk W T 26 #[.slice p.a1 t.nodes.length p.c1, .slice p.a2 t.types.length p.c2, .slice p.a3 t.aliases.length p.c3]) (hN : NodesAt (Lt B) W p.a1 t.nodes) (hi : i < t.nodes.length) (hb : t.nodes.length ≤ 1000) (hr : Rng t) :
    Calls Tryz.prog 63 #[.int .i64 (i : Int), .pointer (some ⟨T, 0, none⟩)] W (KidsPost B (tmK t i) W) := by
  obtain ⟨a1, c1, a2, c2, a3, c3⟩ := p
  dsimp only at *
  obtain ⟨b, off, rfl, hbB, hcell⟩ := hN (by omega)
  have hx := List.getElem?_eq_getElem hi
  obtain ⟨q, hq, hcq⟩ := hcell i _ hx
  obtain ⟨k1, k2⟩ := nz_tmK hr hx
  have hS := hq.2.1
  rw [← k1, List.length_map] at hS
  have e6 := hcq 6 (.slice q.a6 (tmK t i).length q.c6) (by rw [k2]; rfl)
  obtain ⟨m, hm⟩ : ∃ m, (tmK t i).length = m := ⟨_, rfl⟩
  have x0 := hX.cell 0
  simp only [List.getElem?_toArray, List.getElem?_cons_zero] at x0
  unfold KidsPost
  rw [hm] at hS e6 ⊢
  have HS := Lib.hid hS
  obtain ⟨A6, hA6⟩ : ∃ A6, q.a6 = A6 := ⟨_, rfl⟩
  obtain ⟨C6, hC6⟩ : ∃ C6, q.c6 = C6 := ⟨_, rfl⟩
  rw [hA6] at e6 HS
  rw [hC6] at e6
  clear hX hN hcell hcq hq hS hx k1 k2 hr hm hA6 hC6
  go_enter Tryz.func63, Tryz.ntmps63
  go_wp2
  go_ret
  exact ⟨⟨_, _, rfl, HS.out⟩, rfl⟩

theorem kidY_any (t : TreeD) (p : Ptr6) (B T i : Nat) (W : World) (hX : Blk W T 26 #[.slice p.a1 t.nodes.length p.c1, .slice p.a2 t.types.length p.c2, .slice p.a3 t.aliases.length p.c3]) (hN : TypsAt (Lt B) W p.a2 t.types) (hi : i < t.types.length) (hb : t.types.length ≤ 1000) (hr : Rng t) :
    Calls Tryz.prog 77 #[.int .i64 (i : Int), .pointer (some ⟨T, 0, none⟩)] W (KidsPost B (tyK t i) W) := by
  obtain ⟨a1, c1, a2, c2, a3, c3⟩ := p
  dsimp only at *
  obtain ⟨b, off, rfl, hbB, hcell⟩ := hN (by omega)
  have hx := List.getElem?_eq_getElem hi
  obtain ⟨q, hq, hcq⟩ := hcell i _ hx
  obtain ⟨k1, k2⟩ := nz_tyK hr hx
  have hS := hq.2
  rw [← k1, List.length_map] at hS
  have e6 := hcq 4 (.slice q.a4 (tyK t i).length q.c4) (by rw [k2]; rfl)
  obtain ⟨m, hm⟩ : ∃ m, (tyK t i).length = m := ⟨_, rfl⟩
  have x0 := hX.cell 1
  simp only [List.getElem?_toArray, List.getElem?_cons_zero, List.getElem?_cons_succ] at x0
  unfold KidsPost
  rw [hm] at hS e6 ⊢
  have HS := Lib.hid hS
  obtain ⟨A6, hA6⟩ : ∃ A6, q.a4 = A6 := ⟨_, rfl⟩
  obtain ⟨C6, hC6⟩ : ∃ C6, q.c4 = C6 := ⟨_, rfl⟩
  rw [hA6] at e6 HS
  rw [hC6] at e6
  clear hX hN hcell hcq hq hS hx k1 k2 hr hm hA6 hC6
  go_enter Tryz.func77, Tryz.ntmps77
  go_wp2
  go_ret
  exact ⟨⟨_, _, rfl, HS.out⟩, rfl⟩

theorem mkKidT_any (t : TreeD) (p : Ptr6) (w : World) : Calls Tryz.prog 33 #[treeV t p] w fun e w' => e = .returned (.func (.func 63) #[] #[.pointer (some ⟨w.heap.size, 0, none⟩)]) ∧
    w' = w.alloc (.cells #[.slice p.a1 t.nodes.length p.c1, .slice p.a2 t.types.length p.c2, .slice p.a3 t.aliases.length p.c3] 26) := by
  go_enter Tryz.func33, Tryz.ntmps33
  go_wp2
  go_ret
  exact ⟨rfl, rfl⟩
theorem mkKidY_any (t : TreeD) (p : Ptr6) (w : World) : Calls Tryz.prog 66 #[treeV t p] w fun e w' => e = .returned (.func (.func 77) #[] #[.pointer (some ⟨w.heap.size, 0, none⟩)]) ∧
    w' = w.alloc (.cells #[.slice p.a1 t.nodes.length p.c1, .slice p.a2 t.types.length p.c2, .slice p.a3 t.aliases.length p.c3] 26) := by
  go_enter Tryz.func66, Tryz.ntmps66
  go_wp2
  go_ret
  exact ⟨rfl, rfl⟩
end Go.Proofs.YtinajnkjfhbmkaaGreatDoor
