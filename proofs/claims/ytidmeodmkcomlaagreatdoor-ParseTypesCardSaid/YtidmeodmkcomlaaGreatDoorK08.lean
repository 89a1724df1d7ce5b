/- The whole parser as a function of its tokens, of what it has built, and of the names that were met: what each rule gives, or what is wrong first, and where. -/
import Derived.Test.YtidmeodmkcomlaaGreatDoorK07
import Derived.Maps.OwnSet
import Derived.DeepKeys4
set_option linter.unusedSimpArgs false
set_option linter.unusedVariables false
namespace Go.Proofs.YtidmeodmkcomlaaGreatDoor
open Go Go.Proofs Go.RowKit
abbrev Bo := Nat × List UInt8
structure St where
 k : Nat
 op : Nat
 t1 : List TermD
 t2 : List TypD
 t3 : List AliD
 m : List Bo
inductive R3 (α : Type) where
 | ok (i : α) (s : St)
 | bad (e p : Nat)
 | un
def R3.bind {α β : Type} : R3 α → (α → St → R3 β) → R3 β
 | .ok i s, f => f i s
 | .bad e p, _ => .bad e p
 | .un, _ => .un
theorem R3.bind_ok {α β : Type} {p : R3 α} {f : α → St → R3 β} {i : β} {s : St} (h : p.bind f = .ok i s) : ∃ i1 s1, p = .ok i1 s1 ∧ f i1 s1 = .ok i s := by
 cases p with
 | ok i1 s1 => exact ⟨i1, s1, rfl, h⟩
 | bad e p => cases h
 | un => cases h
def bs (l : List UInt8) : ByteArray := ⟨l.toArray⟩
def tkA (ts : List Tk) (k : Nat) : Tk := ts.getD k (0, [], 0)
def za2 (t : Tk) (l : List (List UInt8)) : Bool := (t.1 == 7 || t.1 == 8) && l.any (fun x => x == t.2.1)
def St.on (s : St) (n : Nat) : St := { s with k := s.k + n }
def St.up (s : St) : St := { s with op := s.op + 1 }
def St.down (s : St) : St := { s with op := s.op - 1 }
def St.addT (s : St) (x : TermD) : St := { s with t1 := s.t1 ++ [x] }
def St.addY (s : St) (x : TypD) : St := { s with t2 := s.t2 ++ [x] }
def St.addA (s : St) (x : AliD) : St := { s with t3 := s.t3 ++ [x] }
def St.met (s : St) (x : Bo) : St := { s with m := x :: s.m }
def newT (s : St) (x : TermD) : R3 Nat := if s.t1.length < 65536 then .ok s.t1.length (s.addT x) else .bad 6 0
def newY (s : St) (x : TypD) : R3 Nat := if s.t2.length < 65536 then .ok s.t2.length (s.addY x) else .bad 6 0
def leafM (t : Tk) : Option TermD :=
 if t.1 = 1 then some ⟨0, (t.2.2 : Nat), bs t.2.1, 0, 0, [], [], []⟩
 else if t.1 = 6 then some ⟨3, (t.2.2 : Nat), bs t.2.1, 0, 0, [], [], []⟩
 else if t.1 = 4 then some ⟨1, (t.2.2 : Nat), bs [], (match Lib.parseIntB 64 t.2.1 with | .ok v => v | _ => 0), 0, [], [], []⟩
 else if t.1 = 5 then some ⟨4, (t.2.2 : Nat), bs [], 0, (match zdd (bs t.2.1) with | some n => norm n | none => 0), [], [], []⟩
 else if za2 t [[116, 114, 117, 101]] = true then some ⟨2, (t.2.2 : Nat), bs [], 1, 0, [], [], []⟩
 else if za2 t [[102, 97, 108, 115, 101]] = true then some ⟨2, (t.2.2 : Nat), bs [], 0, 0, [], [], []⟩
 else none
section
variable (ts : List Tk)
abbrev posA (s : St) : Nat := (tkA ts s.k).2.2
abbrev isA (s : St) (l : List (List UInt8)) : Bool := za2 (tkA ts s.k) l
def zag (kind : Nat) (s : St) : R3 Tk := if (tkA ts s.k).1 = kind then .ok (tkA ts s.k) (s.on 1) else .bad 4 (posA ts s)
def mustM (x : List UInt8) (s : St) : R3 Unit := if isA ts s [x] = true then .ok () (s.on 1) else .bad 4 (posA ts s)
def ownM (owner kind : Nat) (s : St) : R3 (List UInt8) :=
 (zag ts kind s).bind fun t s' => if s'.m.contains (owner, t.2.1) = true then .bad 8 t.2.2 else .ok t.2.1 (s'.met (owner, t.2.1))
def zbc (P : St → R3 Nat) (owner : Nat) (sign : List UInt8) : Nat → List (List UInt8) → List Int → St → R3 (List (List UInt8) × List Int)
 | 0, _, _, _ => .un
 | f + 1, names, kids, s =>
  (ownM ts owner 1 s).bind fun x s1 => (mustM ts sign s1).bind fun _ s2 => (P s2).bind fun i s3 =>
   if isA ts s3 [[125]] = true then .ok (names ++ [x], kids ++ [(i : Int)]) (s3.on 1)
   else (mustM ts [44] s3).bind fun _ s4 => zbc P owner sign f (names ++ [x]) (kids ++ [(i : Int)]) s4
def zan (P : St → R3 Nat) (owner : Nat) (sign : List UInt8) (s : St) : R3 (List (List UInt8) × List Int) :=
 if isA ts s [[125]] = true then .ok ([], []) (s.on 1) else zbc ts P owner sign ts.length [] [] s
def bss (l : List (List UInt8)) : List ByteArray := l.map bs
def wordsY : List (List UInt8) := [[105, 110, 116], [98, 111, 111, 108], [115, 116, 114], [102, 108, 111, 97, 116], [100, 121, 110], [97, 110, 121], [110, 111, 110, 101]]
def zc0 (t : Tk) : Option TypD :=
 if t.1 = 2 then some ⟨10, (t.2.2 : Nat), bs t.2.1, [], [], false⟩
 else if t.1 = 7 ∧ wordsY.any (fun x => x == t.2.1) = true then some ⟨(wordsY.findIdx (fun x => x == t.2.1) : Nat), (t.2.2 : Nat), bs [], [], [], false⟩
 else none
def zay (T : St → R3 Nat) (s : St) : R3 Nat :=
 if isA ts s [[40]] = true then (T (s.on 1)).bind fun i s1 => (mustM ts [41] s1).bind fun _ s2 => .ok i s2
 else if isA ts s [[123]] = true then (zan ts T (posA ts s) [58] (s.on 1)).bind fun x s1 => newY s1 ⟨8, (posA ts s : Nat), bs [], bss x.1, x.2, false⟩
 else match zc0 (tkA ts s.k) with
  | some x => newY (s.on 1) x
  | none => .bad 4 (posA ts s)
abbrev Vr := Nat × List (List UInt8) × List Int
abbrev vrD (x : Vr) (opn : Bool) : TypD := ⟨9, (x.1 : Int), bs [], bss x.2.1, x.2.2, opn⟩
def itemM (x : Vr) (s : St) : R3 (Vr × Option Bool) :=
 if isA ts s [[93]] = true then .ok (x, some false) (s.on 1)
 else (if x.2.2.length = 0 then R3.ok () s else mustM ts [124] s).bind fun _ s1 =>
  if isA ts s1 [[46, 46]] = true then (mustM ts [93] (s1.on 1)).bind fun _ s2 => .ok (x, some true) s2
  else (ownM ts x.1 3 s1).bind fun n s2 => .ok ((x.1, x.2.1 ++ [n], x.2.2), none) s2
def zaq (T : St → R3 Nat) : Nat → Vr → List Vr → St → R3 Nat
 | 0, _, _, _ => .un
 | f + 1, x, r, s =>
  (itemM ts x s).bind fun y s1 =>
   match y.2 with
   | some o => (newY s1 (vrD y.1 o)).bind fun i s2 =>
    match r with
    | [] => .ok i s2
    | z :: r' => zaq T f (z.1, z.2.1, z.2.2 ++ [(i : Int)]) r' s2
   | none =>
    if isA ts s1 [[91]] = true then zaq T f (posA ts s1, [], []) (y.1 :: r) (s1.on 1)
    else (zay ts T s1).bind fun i s2 => zaq T f (y.1.1, y.1.2.1, y.1.2.2 ++ [(i : Int)]) r s2
def zbp (T : St → R3 Nat) (s : St) : R3 Nat := zaq ts T (2 * ts.length) (posA ts s, [], []) [] (s.on 1)
def zak (T : St → R3 Nat) (s : St) : R3 Nat := if isA ts s [[91]] = true then zbp ts T s else zay ts T s
def typeM : Nat → St → R3 Nat
 | 0, _ => .un
 | f + 1, s =>
  if s.op = 256 then .bad 5 (posA ts s) else
  (zak ts (typeM f) s.up).bind fun i s1 =>
   if isA ts s1 [[45, 62]] = true then
    (typeM f (s1.on 1)).bind fun j s2 => (newY s2 ⟨7, (posA ts s1 : Nat), bs [], [], [(i : Int), (j : Int)], false⟩).bind fun l s3 => .ok l s3.down
   else .ok i s1.down
section
variable (E : St → R3 Nat) (T : St → R3 Nat)
def zas (s : St) : R3 Nat :=
 (E (s.on 1)).bind fun i s1 =>
  if isA ts s1 [[41]] = true then .ok i (s1.on 1)
  else (mustM ts [58] s1).bind fun _ s2 => (T s2).bind fun j s3 =>
   if isA ts s3 [[61, 62]] = true then
    (T (s3.on 1)).bind fun l s4 => (mustM ts [41] s4).bind fun _ s5 => newT s5 ⟨16, (posA ts s : Nat), bs [], 0, 0, [], [(i : Int)], [(j : Int), (l : Int)]⟩
   else (mustM ts [41] s3).bind fun _ s5 => newT s5 ⟨15, (posA ts s : Nat), bs [], 0, 0, [], [(i : Int)], [(j : Int)]⟩
def zbu (s : St) : R3 Nat :=
 (zan ts E (posA ts s) [61] (s.on 1)).bind fun x s1 => newT s1 ⟨12, (posA ts s : Nat), bs [], 0, 0, bss x.1, x.2, []⟩
def atomM (s : St) : R3 Nat :=
 if isA ts s [[40]] = true then zas ts E T s
 else if isA ts s [[123]] = true then zbu ts E s
 else match leafM (tkA ts s.k) with
  | some x => newT (s.on 1) x
  | none => .bad 4 (posA ts s)
def postL : Nat → Nat → St → R3 Nat
 | 0, _, _ => .un
 | f + 1, left, s =>
  if isA ts s [[46]] = true then
   (zag ts 1 (s.on 1)).bind fun t s1 => (newT s1 ⟨13, (posA ts s : Nat), bs t.2.1, 0, 0, [], [(left : Int)], []⟩).bind (postL f)
  else .ok left s
def postM (s : St) : R3 Nat := (atomM ts E T s).bind (postL ts ts.length)
def unitM (s : St) : R3 Nat :=
 if (tkA ts s.k).1 = 3 then (postM ts E T (s.on 1)).bind fun i s1 => newT s1 ⟨11, (posA ts s : Nat), bs (tkA ts s.k).2.1, 0, 0, [], [(i : Int)], []⟩
 else postM ts E T s
def unitB (t : Tk) : Bool := t.1 == 3 || t.1 == 1 || t.1 == 4 || t.1 == 5 || t.1 == 6 || za2 t [[116, 114, 117, 101], [102, 97, 108, 115, 101], [40], [123]]
def zat : Nat → Nat → St → R3 Nat
 | 0, _, _ => .un
 | f + 1, left, s =>
  if unitB (tkA ts s.k) = true then
   (unitM ts E T s).bind fun i s' => (newT s' ⟨6, (posA ts s : Nat), bs [], 0, 0, [], [(left : Int), (i : Int)], []⟩).bind (zat f)
  else .ok left s
def zb0 (s : St) : R3 Nat := (unitM ts E T s).bind (zat ts E T ts.length)
end
def opM (P : St → R3 Nat) (left : Nat) (s : St) : R3 Nat :=
 (P (s.on 1)).bind fun i s' => newT s' ⟨14, (posA ts s : Nat), bs (tkA ts s.k).2.1, 0, 0, [], [(left : Int), (i : Int)], []⟩
def rowL (P : St → R3 Nat) (sg : List (List UInt8)) : Nat → Nat → St → R3 Nat
 | 0, _, _ => .un
 | f + 1, left, s => if isA ts s sg = true then (opM ts P left s).bind (rowL P sg f) else .ok left s
def rowM (P : St → R3 Nat) (sg : List (List UInt8)) (s : St) : R3 Nat := (P s).bind (rowL ts P sg ts.length)
section
variable (E : St → R3 Nat) (T : St → R3 Nat)
def zb2 (s : St) : R3 Nat := rowM ts (zb0 ts E T) [[42], [47], [42, 46], [47, 46]] s
def sumM (s : St) : R3 Nat := rowM ts (zb2 ts E T) [[43], [45], [43, 46], [45, 46]] s
def joinM (s : St) : R3 Nat := rowM ts (sumM ts E T) [[94]] s
def zad (s : St) : R3 Nat := (joinM ts E T s).bind fun i s' => if isA ts s' [[61, 61], [60], [60, 46]] = true then opM ts (joinM ts E T) i s' else .ok i s'
def funM (s : St) : R3 Nat :=
 (zag ts 1 (s.on 1)).bind fun t s1 => (mustM ts [45, 62] s1).bind fun _ s2 => (E s2).bind fun i s3 =>
  newT s3 ⟨5, (posA ts s : Nat), bs t.2.1, 0, 0, [], [(i : Int)], []⟩
def letM (s : St) : R3 Nat :=
 let r := isA ts (s.on 1) [[114, 101, 99]]
 (zag ts 1 (if r = true then s.on 2 else s.on 1)).bind fun t s1 => (mustM ts [61] s1).bind fun _ s2 => (E s2).bind fun i s3 => (mustM ts [105, 110] s3).bind fun _ s4 => (E s4).bind fun j s5 =>
  newT s5 ⟨if r = true then 8 else 7, (posA ts s : Nat), bs t.2.1, 0, 0, [], [(i : Int), (j : Int)], []⟩
def zby (s : St) : R3 Nat :=
 (E (s.on 1)).bind fun i s1 => (mustM ts [116, 104, 101, 110] s1).bind fun _ s2 => (E s2).bind fun j s3 => (mustM ts [101, 108, 115, 101] s3).bind fun _ s4 => (E s4).bind fun l s5 =>
  newT s5 ⟨9, (posA ts s : Nat), bs [], 0, 0, [], [(i : Int), (j : Int), (l : Int)], []⟩
def zbz (owner : Nat) : Nat → List (List UInt8) → List Int → St → R3 (List (List UInt8) × List Int)
 | 0, _, _, _ => .un
 | f + 1, names, kids, s =>
  if isA ts s [[124]] = true then
   if isA ts (s.on 1) [[101, 108, 115, 101]] = true then
    (mustM ts [45, 62] (s.on 2)).bind fun _ s1 => (E s1).bind fun i s2 => .ok (names, kids ++ [(i : Int)]) s2
   else (ownM ts owner 3 (s.on 1)).bind fun x s1 => (zag ts 1 s1).bind fun t s2 => (mustM ts [45, 62] s2).bind fun _ s3 => (E s3).bind fun i s4 =>
    zbz owner f (names ++ [x, t.2.1]) (kids ++ [(i : Int)]) s4
  else .ok (names, kids) s
def zci (s : St) : R3 Nat :=
 (E (s.on 1)).bind fun i s1 => (mustM ts [111, 102] s1).bind fun _ s2 => (zbz ts E (posA ts s) ts.length [] [(i : Int)] s2).bind fun x s3 => (mustM ts [101, 110, 100] s3).bind fun _ s4 =>
  newT s4 ⟨10, (posA ts s : Nat), bs [], 0, 0, bss x.1, x.2, []⟩
def zba (s : St) : R3 Nat :=
 if isA ts s [[102, 117, 110]] = true then funM ts E s
 else if isA ts s [[108, 101, 116]] = true then letM ts E s
 else if isA ts s [[105, 102]] = true then zby ts E s
 else if isA ts s [[99, 97, 115, 101]] = true then zci ts E s
 else zad ts E T s
end
def termM : Nat → St → R3 Nat
 | 0, _ => .un
 | f + 1, s =>
  if s.op = 256 then .bad 5 (posA ts s) else
  (zba ts (termM f) (typeM ts f) s.up).bind fun i s1 => .ok i s1.down
def zb7 (T : St → R3 Nat) : Nat → St → R3 Unit
 | 0, _ => .un
 | f + 1, s =>
  if isA ts s [[116, 121, 112, 101]] = true then
   (zag ts 2 (s.on 1)).bind fun t s1 => (mustM ts [61] s1).bind fun _ s2 => (T s2).bind fun i s3 => (mustM ts [59] (s3.addA ⟨bs t.2.1, (i : Int), (t.2.2 : Nat)⟩)).bind fun _ s4 => zb7 T f s4
  else .ok () s
def textM (f : Nat) (s : St) : R3 Unit := (zb7 ts (typeM ts f) ts.length s).bind fun _ s1 => (termM ts f s1).bind fun _ s2 => .ok () s2
end
end Go.Proofs.YtidmeodmkcomlaaGreatDoor
namespace Go.Proofs.YtidmeodmkcomlaaGreatDoor
open Go Go.Proofs Go.RowKit Go.Maps
theorem zDc : laidOutB Tryz.prog = true := by kernel_rfl
theorem zB2 : (152 : TypeId) < Tryz.prog.types.size := of_decide_eq_true (by kernel_rfl)
theorem fs152 : (match Tryz.prog.underlying 152 with | some (.struct fs) => fs.toList.map (fun f => (f.name, f.type, f.offset)) | _ => []) = [("owner", 3, 0), ("name", 9, 1)] := by kernel_rfl
theorem und71 : Tryz.prog.underlying 71 = some (.map 152 153) := by kernel_rfl
theorem zFc (w : World) : (zeroValue 153).run Tryz.prog w = .ok (.agg #[]) w := by kernel_rfl
theorem zFd : (match Tryz.prog.underlying 152 with | some (.array _ _) | some (.struct _) => true | _ => false) = true := by kernel_rfl
theorem zEx : Tryz.prog.keyTypeAt 2 152 = true := by kernel_rfl
theorem zIx : 2 + 1 ≤ 10000 := by decide
set_option maxRecDepth 100000 in
theorem law152 : Keyed Tryz.prog 152 := Keyed.of_law (deep_law_laid zDc zIx zB2 zEx zFd)
theorem zGq : Tryz.prog.keyType 152 = true := by kernel_rfl
theorem zr1 : Tryz.prog.cellsOf 152 = 2 := by kernel_rfl
theorem zFn : Tryz.prog.cellsOf 3 = 1 := by kernel_rfl
theorem zH8 : Tryz.prog.cellsOf 9 = 1 := by kernel_rfl
theorem und3' : Tryz.prog.underlying 3 = some (.int .i64) := by kernel_rfl
theorem und9' : Tryz.prog.underlying 9 = some .string := by kernel_rfl
theorem size2 : ∃ M, Tryz.prog.types.size + 1 = M + 2 := ⟨Tryz.prog.types.size - 1, by have h : (152 : Nat) < Tryz.prog.types.size := zB2; omega⟩
abbrev keyV (x : Bo) : Value := .agg #[.int .i64 (x.1 : Int), .string (bs x.2)]
theorem zq8 (x : Bo) (h1 : x.1 ≤ 4294967296) (h2 : x.2.length ≤ 1048576) : ∃ l, keyOf Tryz.prog 152 (keyV x) = some l := by
 have hf := fs152
 cases hu : Tryz.prog.underlying 152 with
 | none => rw [hu] at hf; simp at hf
 | some d =>
  rw [hu] at hf;cases d <;> simp at hf
  rename_i fs
  have hfo : (keyV x).formed Tryz.prog 152 = true := by simp [Value.formed, hu, zr1]
  obtain ⟨M, hM⟩ := size2;have hwf : (Lit.int .i64 (x.1 : Int)).wf = true := WalkArith.wf_i64 (by omega);have hsz : (bs x.2).size ≤ maxLen := by unfold bs maxLen; simp [ByteArray.size]; omega
  obtain ⟨f0, f1, hl⟩ : ∃ f0 f1, fs.toList = [f0, f1] := by
   have h2 := congrArg List.length hf;simp only [zKd, zK2, zKc] at h2;rcases hq : fs.toList with _ | ⟨f0, _ | ⟨f1, _ | ⟨f2, r⟩⟩⟩
   · rw [hq] at h2; simp at h2
   · rw [hq] at h2; simp at h2
   · exact ⟨f0, f1, rfl⟩
   · rw [hq] at h2; simp at h2
  rw [hl] at hf;simp only [List.map_cons, List.map_nil, List.cons.injEq, zKu, and_true] at hf;obtain ⟨⟨n0, t0, o0⟩, n1, t1, o1⟩ := hf
  have hall : fs.all (fun f => f.name != "_") = true := by
   rw [← Array.all_toList, hl];simp [n0, n1]
  refine ⟨.string (keyBytes [.int .i64 (x.1 : Int), .string (bs x.2).data.toList]), ?_⟩;unfold keyOf;rw [hu];dsimp only;rw [zGq, hfo, hM];simp only [Bool.and_self, if_true, Program.keyLits, hu, Value.cells];rw [if_pos ⟨by simp [zr1], hall⟩, hl];simp only [List.mapM_cons, List.mapM_nil, t0, t1, o0, o1, zFn, zH8, und3', und9', List.drop_zero, List.take_succ_cons, List.take_zero, List.drop_succ_cons, hwf, hsz, and_self, if_true];rfl
def MapAt (w : World) (b : Nat) (m : List Bo) : Prop := ∃ (D : DataW Unit) (n : Nat), w.ownsMap Tryz.prog 152 unitElem b n D ∧ n ≤ m.length ∧ ∀ x l, keyOf Tryz.prog 152 (keyV x) = some l → has D l = m.contains x
theorem zDt {x y : Bo} (h : keyV x = keyV y) : x = y := by
 simp only [keyV, bs, Value.agg.injEq, Array.mk.injEq, List.cons.injEq, Value.int.injEq, Value.string.injEq, ByteArray.mk.injEq, and_true, true_and] at h;exact Prod.ext (by omega) (by simpa using h.2)
theorem MapAt.lt {w : World} {b : Nat} {m : List Bo} (h : MapAt w b m) : b < w.heap.size := by
 obtain ⟨D, n, h, _⟩ := h;exact h.lt
theorem MapAt.same {w w' : World} {b : Nat} {m : List Bo} (h : MapAt w b m) (e : w'.heap[b]? = w.heap[b]?) : MapAt w' b m := by
 obtain ⟨D, n, ⟨es, clock, hb, r⟩, q⟩ := h;exact ⟨D, n, ⟨es, clock, e.trans hb, r⟩, q⟩
theorem MapAt.no_cells {w : World} {b : Nat} {m : List Bo} (h : MapAt w b m) {cs : Array Value} {t : TypeId} {f : Nat × Nat} : w.heap[b]? ≠ some (.cells cs t f) := by
 obtain ⟨D, n, ⟨es, clock, hb, r⟩, q⟩ := h;rw [hb];intro e;cases e
theorem MapAt.made (w : World) : MapAt (w.alloc (.map #[] 0)) w.heap.size [] := ⟨_, 0, World.ownsMap_made w _ _ _, zJw _, fun _ _ _ => rfl⟩
theorem MapAt.look {w : World} {b : Nat} {m : List Bo} (h : MapAt w b m) (x : Bo) {l : Lit} (hk : keyOf Tryz.prog 152 (keyV x) = some l) : (Instr.lookup 71 (.map (some b)) (keyV x) true).run Tryz.prog w = .ok (.tuple #[.agg #[], .bool (m.contains x)]) w := by
 obtain ⟨D, n, h, _, q⟩ := h;obtain ⟨v, ps, e, hv⟩ := h.look_ok law152 und71 (zFc w) unitElem_mk hk;obtain ⟨rfl, _⟩ := unitElem_inv hv;rw [e, q x l hk]
set_option maxRecDepth 100000 in
theorem MapAt.put {w : World} {b : Nat} {m : List Bo} (h : MapAt w b m) (hm : m.length ≤ 4294967296) (x : Bo) {l : Lit} (hk : keyOf Tryz.prog 152 (keyV x) = some l) : ∃ w', (Instr.mapUpdate 71 (.map (some b)) (keyV x) (.agg #[])).run Tryz.prog w = .ok () w' ∧ MapAt w' b (x :: m) ∧ w.grownBy w' (some b) := by
 obtain ⟨D, n, h, hn, q⟩ := h;obtain ⟨w', e, h1, h2⟩ := h.update law152 und71 (by unfold maxLen; omega) hk unitElem_mk;refine ⟨w', e, ⟨_, _, h1, by simp; omega, fun y l' hy => ?_⟩, h2⟩;by_cases hl : l' = l
 · subst hl
   rw [has_put_same h.isMap (law152.key hk)];rw [zDt (law152.inj hy hk)];simp
 · rw [has_put_other hl, q y l' hy]
   have hne : y ≠ x := fun e => hl (by rw [e, hk] at hy; injection hy with hy; exact hy.symm);simp [hne]
end Go.Proofs.YtidmeodmkcomlaaGreatDoor
