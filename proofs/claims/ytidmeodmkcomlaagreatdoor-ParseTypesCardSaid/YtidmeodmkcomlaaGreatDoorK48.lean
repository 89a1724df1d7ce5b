/- What the code and the document answer of the bytes of a type is the same. The document's answer: which bytes are which, words, names, ints and signs, at every -/
import Derived.Test.YtidmeodmkcomlaaGreatDoorK23
import Derived.Test.YtidmeodmkcomlaaGreatDoorK36
import Derived.Test.YtidmeodmkcomlaaGreatDoorK47
set_option linter.unusedSimpArgs false
set_option linter.unusedVariables false
namespace Go.Proofs.YtidmeodmkcomlaaGreatDoor
open Go Go.Proofs Go.RowKit
theorem zPu : ∀ x ∈ wordsY, ∃ c r, x = c :: r ∧ lowB c = true := by
 intro x hx;simp only [wordsY, zKf, zKn, or_false] at hx;rcases hx with rfl | rfl | rfl | rfl | rfl | rfl | rfl <;> exact ⟨_, _, rfl, by decide⟩
def zNx (t : Nat × List UInt8) : Prop := t.1 = 8 → wordsY.any (fun x => x == t.2) = false
theorem zPs {l : List UInt8} {t : Nat × List UInt8} {n : Nat} (h : tok l = some (t, n)) : zNx t := by
 cases l with
 | nil => simp [tok] at h
 | cons c r =>
  rw [tok] at h;split at h
  · split at h
    · simp only [zKt, zKu] at h
      obtain ⟨rfl, rfl⟩ := h;intro e; cases e
    · cases h
  split at h
  · simp only [zKg, zKu] at h
    obtain ⟨x, hx, rfl, rfl⟩ := h;intro e; cases e
  split at h
  · split at h
    · cases h
    · simp only [zKt, zKu] at h
      obtain ⟨rfl, rfl⟩ := h;intro e; cases e
  split at h
  · split at h
    · cases h
    · simp only [zKt, zKu] at h
      obtain ⟨rfl, rfl⟩ := h;intro e; cases e
  split at h
  · simp only [zKt, zKu] at h
    obtain ⟨rfl, rfl⟩ := h;intro e;split at e <;> cases e
  split at h
  · simp only [zKt, zKu] at h
    obtain ⟨rfl, rfl⟩ := h;intro e; cases e
  rename_i hlow _
  split at h
  · cases h
  · rename_i hs
    simp only [zKt, zKu] at h;obtain ⟨rfl, rfl⟩ := h;intro _
    cases ha : wordsY.any (fun x => x == (c :: r).take (signN (c :: r))) with
    | false => rfl
    | true =>
     obtain ⟨x, hx, he⟩ := List.any_eq_true.1 ha;obtain ⟨d, q, rfl, hd⟩ := zPu x hx;have he : d :: q = (c :: r).take (signN (c :: r)) := by simpa using he
     cases hn : signN (c :: r) with
     | zero => exact absurd hn hs
     | succ m =>
      rw [hn, List.take_succ_cons] at he;injection he with he _
      subst he;exact absurd hd hlow
theorem zOl : ∀ (n : Nat) (l : List UInt8) (k : Nat) (ts : List Tk), l.length ≤ n → lexR l k = .ok ts → ∀ t ∈ ts, zNx (t.1, t.2.1) := by
 have hend : ∀ p : Nat, zNx (((0, [], p) : Tk).1, ((0, [], p) : Tk).2.1) := fun p e => by cases e
 intro n
 induction n with
 | zero =>
  intro l k ts hl h;obtain rfl : l = [] := List.length_eq_zero_iff.1 (by omega);rw [zaz [] k (by simp)] at h;injection h with h
  subst h;intro t ht;simp only [zK7] at ht;subst ht; exact hend _
 | succ n ih =>
  intro l k ts hl h;by_cases h0 : l.drop (skipN l) = []
  · rw [zaz l k h0] at h
    injection h with h
    subst h;intro t ht;simp only [zK7] at ht;subst ht; exact hend _
  · cases ht : tok (l.drop (skipN l)) with
    | none => rw [zcd l k h0 ht] at h; cases h
    | some x =>
     obtain ⟨t, m⟩ := x;rw [zbw l k t m ht] at h;have hle := zg2 ht;rw [zKa] at hle
     cases hr : lexR (l.drop (skipN l + m)) (k + skipN l + m) with
     | error e => rw [hr] at h; cases h
     | ok us =>
      rw [hr] at h;injection h with h
      subst h;intro y hy;rcases List.mem_append.1 hy with hy | hy
      · simp only [zK7] at hy
        subst hy; exact zPs ht
      · exact ih _ _ us (by rw [zKa]; omega) hr y hy
theorem zO6 {l : List UInt8} {ts : List Tk} (h : lexA l = .ok ts) (k : Nat) : (tkA ts k).1 = 8 → wordsY.any (fun x => x == (tkA ts k).2.1) = false := by
 intro e;unfold tkA at e ⊢;rw [zK3] at e ⊢
 cases hk : ts[k]? with
 | none => rw [hk] at e; cases e
 | some t =>
  rw [hk] at e;exact zOl _ l 0 ts (zJw _) (zfn h).1 t (List.mem_of_getElem? hk) e
def docD (ts : List Tk) : Option Dst := (typeS ts 257 St.zero.sg).map fun y => endS ts y.2
theorem zO7 {l : List UInt8} {ts : List Tk} (hl : l.length ≤ 900) (hA : lexA l = .ok ts) : ∃ s, docD ts = some s ∧
 ((s.bad = true ∧ typeR l = .error (s.c, s.p)) ∨ (s.bad = false ∧ s.c = 0 ∧ s.p = 0 ∧ typeR l = .ok ⟨[], s.t2, []⟩ ∧ DwnY ⟨[], s.t2, []⟩ ∧ 0 < s.t2.length)) := by
 obtain ⟨hG, hlen⟩ := zt0 hA hl;have hT := hG.ok;have hS := zOz hT (fun i j h1 h2 => zJ1 hA h1 h2);have hL := (zPz hT (zO6 hA) 257).1 St.zero hT.pos ⟨by simp, rfl, rfl⟩;have hW := zur hG 257 St.zero [] []
 have hR : typeR l = match typeM ts 257 St.zero with
  | .ok _ s' => if (tkA ts s'.k).1 = 0 then .ok ⟨s'.t1, s'.t2, s'.t3⟩ else .error (4, (tkA ts s'.k).2.2)
  | .bad e p => .error (e, p)
  | .un => .error (0, 0) := by
  unfold typeR readM;rw [hA];dsimp only;cases typeM ts 257 St.zero <;> rfl
 rw [hR];unfold docD;rw [show (st0 : St) = St.zero from rfl] at hS
 cases hM : typeM ts 257 St.zero with
 | un =>
  rw [hM] at hS;cases hRR : zM5 ts 257 St.zero <;> rw [hRR] at hS <;> exact hS.elim
 | bad e p =>
  rw [hM] at hS
  cases hRR : zM5 ts 257 St.zero with
  | un => rw [hRR] at hS; exact hS.elim
  | ok i s => rw [hRR] at hS; exact hS.elim
  | bad e' p' =>
   rw [hRR] at hS hL;obtain ⟨rfl, rfl⟩ := hS;obtain ⟨he, i, s, hO, h1, h2⟩ := hL;have hb : s.bad = true := zMy (by omega);have hE : endS ts s = s := by unfold endS; rw [hb]; rfl
   refine ⟨s, by rw [hO]; exact congrArg some hE, .inl ⟨hb, by rw [h1, h2]⟩⟩
 | ok i s =>
  rw [hM] at hS hW
  cases hRR : zM5 ts 257 St.zero with
  | un => rw [hRR] at hS; exact hS.elim
  | bad e' p' => rw [hRR] at hS; exact hS.elim
  | ok j s' =>
   rw [hRR] at hS hL;obtain ⟨rfl, ⟨e1, e2, e3, e4, e5⟩, hk⟩ := hS;obtain ⟨hO, hk', hF⟩ := hL;rw [hO];by_cases hE : (tkA ts s.k).1 = 0
   · have hEE : endS ts s'.sg = s'.sg := by
      unfold endS;rw [zMp, show tkA ts s'.sg.k = tkA ts s.k by rw [e1]; rfl, hE];rfl
     refine ⟨s'.sg, congrArg some hEE, .inr ⟨rfl, rfl, rfl, ?_, ?_⟩⟩
     · dsimp only
       rw [if_pos hE];show Except.ok (⟨s.t1, s.t2, s.t3⟩ : TreeD) = .ok ⟨[], s'.t2, []⟩
       rw [e3, e4, e5, hF.2.1, hF.2.2]
     · obtain ⟨hI, _⟩ := hW (zBt hG)
       show DwnY ⟨[], s'.t2, []⟩ ∧ 0 < s'.t2.length
       rw [← e4];refine ⟨⟨fun j x hx => (hI.typ j x hx).1, fun x hx => ?_, by simp, by show s.t2.length ≤ 1000000; have := hI.big.2; omega, by simp⟩, ?_⟩
       · obtain ⟨j, hj⟩ := List.getElem?_of_mem hx
         have := (hI.typ j x hj).2.2;exact ⟨zK4 this.2.1 (by decide), zK4 this.2.2.2 (by decide)⟩
       · have := hI.ltT (List.mem_cons_self (a := i) (l := []))
         omega
   · have hEE : endS ts s'.sg = stopS 4 (posS ts s'.sg) s'.sg := by
      unfold endS;rw [zMp, show tkA ts s'.sg.k = tkA ts s.k by rw [e1]; rfl];rw [if_pos (by simpa using hE)]
     obtain ⟨q1, q2⟩ := zMa 4 (posS ts s'.sg) s';refine ⟨stopS 4 (posS ts s'.sg) s'.sg, congrArg some hEE, .inl ⟨zMy (by rw [q1]; decide), ?_⟩⟩;dsimp only;rw [if_neg hE, q1, q2, show posS ts s'.sg = (tkA ts s.k).2.2 by rw [e1]; rfl]
set_option maxHeartbeats 2000000
theorem zMj (c : UInt8) (w : World) : Calls Tryz.prog 85 #[.int .u8 (c.toNat : Int)] w fun e w' => e = .returned (.bool (lowB c)) ∧ w = w' := by
 have h := c.toNat_lt;by_cases h1 : 97 ≤ c.toNat
 · by_cases h2 : c.toNat ≤ 122
   all_goals
    go_enter Tryz.func85, Tryz.ntmps85
    go_wp2
    go_ret;exact ⟨za7 (by rw [zJz]; simp [lowB]; omega), rfl⟩
 · go_enter Tryz.func85, Tryz.ntmps85
   go_wp2
   go_ret;exact ⟨za7 (by rw [zJz]; simp [lowB]; omega), rfl⟩
theorem zMe (c : UInt8) (w : World) : Calls Tryz.prog 89 #[.int .u8 (c.toNat : Int)] w fun e w' => e = .returned (.bool (digB c)) ∧ w = w' := by
 have h := c.toNat_lt;by_cases h1 : 48 ≤ c.toNat
 all_goals
  go_enter Tryz.func89, Tryz.ntmps89
  go_wp2
  go_ret;exact ⟨za7 (by rw [zJz]; simp [digB]; omega), rfl⟩
theorem zMo (c : UInt8) (w : World) : Calls Tryz.prog 88 #[.int .u8 (c.toNat : Int)] w fun e w' => e = .returned (.bool (highB c)) ∧ w = w' := by
 have h := c.toNat_lt;by_cases h1 : 65 ≤ c.toNat
 all_goals
  go_enter Tryz.func88, Tryz.ntmps88
  go_wp2
  go_ret;exact ⟨za7 (by rw [zJz]; simp [highB]; omega), rfl⟩
theorem zPc (c : UInt8) (w : World) : Calls Tryz.prog 84 #[.int .u8 (c.toNat : Int)] w fun e w' => e = .returned (.bool (hexB c)) ∧ w = w' := by
 have h := c.toNat_lt;have cD := zMe c;cases hd : digB c
 · rw [hd] at cD
   by_cases h1 : 97 ≤ c.toNat
   all_goals
    go_enter Tryz.func84, Tryz.ntmps84
    go_wp2_with (go_at_call 89; refine (cD _).mono ?_; rintro e w' ⟨rfl, rfl⟩)
    go_ret;exact ⟨za7 (by unfold hexB; rw [hd, zJz]; simp; omega), rfl⟩
 · rw [hd] at cD
   go_enter Tryz.func84, Tryz.ntmps84
   go_wp2_with (go_at_call 89; refine (cD _).mono ?_; rintro e w' ⟨rfl, rfl⟩)
   go_ret;exact ⟨za7 (by unfold hexB; rw [hd]; rfl), rfl⟩
theorem Holds.at {W : World} {b off : Nat} {l : List UInt8} (h : Holds W b off l) (j : Nat) (hj : j < l.length) : W.cell? ⟨b, off + j, none⟩ = some (.int .u8 ((l[j]'hj).toNat : Int)) := by
 rw [h j hj]; simp [zK3, zK1 hj]
theorem zM3 (l : List UInt8) (k : Nat) (h : k < l.length) : l.drop k = l[k] :: l.drop (k + 1) := List.drop_eq_getElem_cons h
theorem zNh (p q : UInt8 → Bool) (l : List UInt8) (a : Nat) (ha : a < l.length) (hp : p (l[a]'ha) = true) (n : Nat) (h1 : 1 ≤ n) (h2 : a + n ≤ l.length)
 (hj : ∀ j (hj : j < l.length), a + 1 ≤ j → j < a + n → q (l[j]'hj) = true) (he : a + n = l.length ∨ ∃ hk : a + n < l.length, q (l[a + n]'hk) = false) : spanN p q (l.drop a) = n := by
 rw [zM3 l a ha, zdg _ _ _ _ hp];have hl : (l.drop (a + 1)).length = l.length - (a + 1) := zKa;rw [zGe q (l.drop (a + 1)) (n - 1) (by omega)]
 · omega
 · intro j hj'
   rw [List.getElem_drop];exact hj _ _ (by omega) (by omega)
 · rcases he with he | ⟨hk, he⟩
   · left; omega
   · right
     refine ⟨by omega, ?_⟩;rw [List.getElem_drop];simpa [show a + 1 + (n - 1) = a + n by omega] using he
theorem zNk (b off cap : Nat) (l : List UInt8) (hlen : l.length ≤ 1048576) (a : Nat) (ha : a ≤ l.length) (w : World) (hh : Holds w b off l) :
 Calls Tryz.prog 86 #[.slice (some ⟨b, off, none⟩) l.length cap, .int .i64 a] w fun e w' => e = .returned (.int .i64 (nameN (l.drop a) : Nat)) ∧ w = w' := by
 by_cases hal : a < l.length
 · have hnle : ¬ l.length ≤ a := by omega
   have hc0 := hh.at a hal;have c0 := zMj (l[a]'hal);cases hp : lowB (l[a]'hal)
   · have hN : nameN (l.drop a) = 0 := by rw [zM3 l a hal]; exact zdz _ _ _ _ hp
     rw [hN];rw [hp] at c0;clear hN hp hh;go_enter Tryz.func86, Tryz.ntmps86
     go_wp2_with (go_at_call 85; refine (c0 _).mono ?_; rintro e w' ⟨rfl, rfl⟩)
     go_ret;exact ⟨rfl, rfl⟩
   · rw [hp] at c0
     have HN := zJv (zNh lowB zbj l a hal hp);have HH := zJv hh;obtain ⟨R, hR⟩ : ∃ R, nameN (l.drop a) = R := ⟨_, rfl⟩;have hR' : spanN lowB zbj (l.drop a) = R := hR;rw [hR'] at HN;rw [hR];clear hR hR' hp hh;go_enter Tryz.func86, Tryz.ntmps86
     go_wp2_with (go_at_call 85; refine (c0 _).mono ?_; rintro e w' ⟨rfl, rfl⟩)
     clear c0;go_loopw [5] (fun i wr => wr = w ∧ ∃ n : Nat, 1 ≤ n ∧ a + n ≤ l.length ∧ i = .int .i64 n ∧ Hid (∀ j (hj : j < l.length), a + 1 ≤ j → j < a + n → zbj (l[j]'hj) = true)) (fun i _ => l.length - (intOf i).toNat)
     case atStart => exact ⟨rfl, 1, zJw _, hal, rfl, zJv (fun j hj h1 h2 => by omega)⟩
     case round =>
      obtain ⟨rfl, n, hn1, hn2, rfl, HJ⟩ := hrel;by_cases hlt : a + n < l.length
      · have hck := HH.out.at (a + n) hlt
        have ck := zMj (l[a + n]'hlt);have dk := zMe (l[a + n]'hlt);have hsplit : zbj (l[a + n]'hlt) = (lowB (l[a + n]'hlt) || digB (l[a + n]'hlt)) := rfl;cases hlo : lowB (l[a + n]'hlt)
        · cases hdi : digB (l[a + n]'hlt)
          · have hR := zJv (HN.out n hn1 hn2 HJ.out (.inr ⟨hlt, by rw [hsplit, hlo, hdi]; rfl⟩))
            rw [hlo] at ck;rw [hdi] at dk;clear hlo hdi hsplit;go_wp2_with (first | (go_at_call 85; refine (ck _).mono ?_; rintro e w' ⟨rfl, rfl⟩) | (go_at_call 89; refine (dk _).mono ?_; rintro e w' ⟨rfl, rfl⟩))
            go_ret;exact ⟨zgl hR.out.symm, rfl⟩
          · have HJ2 : Hid (∀ j (hj : j < l.length), a + 1 ≤ j → j < a + (n + 1) → zbj (l[j]'hj) = true) := zJv (fun j hj h1 h2 => by
             by_cases h : j < a + n
             · exact HJ.out j hj h1 h
             · obtain rfl : j = a + n := by omega
               rw [hsplit, hlo, hdi]; rfl)
            rw [hlo] at ck;rw [hdi] at dk;clear hlo hdi hsplit;go_wp2_with (first | (go_at_call 85; refine (ck _).mono ?_; rintro e w' ⟨rfl, rfl⟩) | (go_at_call 89; refine (dk _).mono ?_; rintro e w' ⟨rfl, rfl⟩))
            go_roundw
            case rel => exact ⟨trivial, n + 1, by omega, by omega, by go_num, HJ2⟩
            case measure => simp [intOf]; omega
        · have HJ2 : Hid (∀ j (hj : j < l.length), a + 1 ≤ j → j < a + (n + 1) → zbj (l[j]'hj) = true) := zJv (fun j hj h1 h2 => by
           by_cases h : j < a + n
           · exact HJ.out j hj h1 h
           · obtain rfl : j = a + n := by omega
             rw [hsplit, hlo]; rfl)
          rw [hlo] at ck;clear hlo hsplit;go_wp2_with (first | (go_at_call 85; refine (ck _).mono ?_; rintro e w' ⟨rfl, rfl⟩) | (go_at_call 89; refine (dk _).mono ?_; rintro e w' ⟨rfl, rfl⟩))
          go_roundw
          case rel => exact ⟨trivial, n + 1, by omega, by omega, by go_num, HJ2⟩
          case measure => simp [intOf]; omega
      · have hR := zJv (HN.out n hn1 hn2 HJ.out (.inl (by omega)))
        go_wp2
        go_ret;exact ⟨zgl hR.out.symm, rfl⟩
 · obtain rfl : a = l.length := by omega
   have hN : nameN (l.drop l.length) = 0 := by rw [List.drop_eq_nil_of_le (zJw _)]; rfl
   rw [hN];go_enter Tryz.func86, Tryz.ntmps86
   go_wp2
   go_ret;exact ⟨rfl, rfl⟩
set_option maxHeartbeats 4000000
def okI (l : List UInt8) : Bool := decide ((digN l = 1 ∨ (l.getD 0 0).toNat ≠ 48) ∧ decV 0 (l.take (digN l)) ≤ 9223372036854775807)
theorem zP8 (l : List UInt8) : intN l = if okI l then digN l else 0 := by
 unfold intN okI;by_cases hc : (digN l = 1 ∨ (l.getD 0 0).toNat ≠ 48) ∧ decV 0 (l.take (digN l)) ≤ 9223372036854775807
 · rw [if_pos hc, decide_eq_true hc, if_pos rfl]
 · rw [if_neg hc, decide_eq_false hc]; rfl
theorem zOf (m : List UInt8) (c : UInt8) (n : Nat) : decV n (m ++ [c]) = decV n m * 10 + (c.toNat - 48) := by
 unfold decV; rw [List.foldl_append]; rfl
theorem zMi {a c : Nat} {b d : Bool} (h : c = a) (h2 : d = b) : Ending.returned (.tuple #[.int .i64 (a : Nat), .bool b]) = .returned (.tuple #[.int .i64 (c : Nat), .bool d]) := by rw [h, h2]
def NumS (l : List UInt8) (a n X : Nat) (f : Bool) : Prop :=
 (f = true ∧ X = decV 0 ((l.drop a).take n) ∧ X ≤ 9223372036854775807) ∨ (f = false ∧ 9223372036854775807 < decV 0 ((l.drop a).take n) ∧ X ≤ 9223372036854775807)
theorem zOx (l : List UInt8) (a n : Nat) (h : a + n < l.length) : (l.drop a).take (n + 1) = (l.drop a).take n ++ [l[a + n]] := by
 rw [zK9 (by rw [zKa]; omega), List.getElem_drop]
theorem zPf (b off cap : Nat) (l : List UInt8) (hlen : l.length ≤ 1048576) (a : Nat) (ha : a < l.length) (hd : digB (l[a]'ha) = true) (w : World) (hh : Holds w b off l) :
 Calls Tryz.prog 90 #[.slice (some ⟨b, off, none⟩) l.length cap, .int .i64 a] w fun e w' => e = .returned (.tuple #[.int .i64 (digN (l.drop a) : Nat), .bool (okI (l.drop a))]) ∧ Below w.heap.size w w' := by
 have mixed : Tryz.prog.follows .mixedOrders = true := by kernel_rfl
 have HN := zJv (zNh digB digB l a ha hd);have HH := zJv hh
 have HOK : Hid (∀ f n, 1 ≤ n → digN (l.drop a) = n → (∃ X, NumS l a n X f) → okI (l.drop a) = (f && (decide (n = 1) || !decide ((l[a]'ha).toNat = 48)))) := zJv (fun f n hn hdn ⟨X, hS⟩ => by
  unfold okI;rw [hdn];have hg : (l.drop a).getD 0 0 = l[a] := by rw [zM3 l a ha]; rfl
  rw [hg];rcases hS with ⟨rfl, h1, h2⟩ | ⟨rfl, h1, _⟩
  · rw [zJz]
    simp
    intro _;omega
  · simp
    intro _
    exact h1)
 clear hh;obtain ⟨R, hR⟩ : ∃ R, digN (l.drop a) = R := ⟨_, rfl⟩;have hR' : spanN digB digB (l.drop a) = R := hR;rw [hR'] at HN;rw [hR] at HOK ⊢;clear hR hR';obtain ⟨OK, hOK⟩ : ∃ OK, okI (l.drop a) = OK := ⟨_, rfl⟩;rw [hOK] at HOK ⊢;clear hOK;go_enter Tryz.func90, Tryz.ntmps90
 obtain ⟨T, hT⟩ : ∃ T : Int, T = 922337203685477580 := ⟨_, rfl⟩;rw [← hT];have HT := zJv hT;clear hT;go_wp2_with fail
 go_loopw [6, 7, 8, 9] (fun i x f _ wr => wr = w ∧ ∃ (n X : Nat) (fb : Bool), a + n ≤ l.length ∧ i = .int .i64 n ∧ x = .int .u64 X ∧ f = .bool fb ∧ Hid (NumS l a n X fb) ∧ Hid (∀ j (hj : j < l.length), a ≤ j → j < a + n → digB (l[j]'hj) = true)) (fun i _ _ _ _ => l.length - (intOf i).toNat)
 case atStart => exact ⟨rfl, 0, 0, true, by omega, rfl, rfl, rfl, zJv (.inl ⟨rfl, rfl, by decide⟩), zJv (fun j hj h1 h2 => by omega)⟩
 case round =>
  obtain ⟨rfl, n, X, fb, hn, rfl, rfl, rfl, HS, HJ⟩ := hrel;by_cases hlt : a + n < l.length
  · have hck := HH.out.at (a + n) hlt
    have ck := zMe (l[a + n]'hlt);have hc256 := (l[a + n]'hlt).toNat_lt;cases hdi : digB (l[a + n]'hlt)
    · have hR := zJv (fun h1 => HN.out n h1 hn (fun j hj q1 q2 => HJ.out j hj (by omega) q2) (.inr ⟨hlt, hdi⟩))
      have hn1 : 1 ≤ n := by
       rcases Nat.eq_zero_or_pos n with h | h
       · subst h
         rw [show l[a + 0]'hlt = l[a]'ha from rfl, hd] at hdi;cases hdi
       · exact h
      have HX := zJv (HOK.out fb n hn1 (hR.out hn1) ⟨X, HS.out⟩);rw [hdi] at ck;have hca := HH.out.at a ha;clear hdi;cases fb
      · go_wp2_with (go_at_call 89; refine (ck _).mono ?_; rintro e w' ⟨rfl, rfl⟩)
        go_quiet (fail)
        go_wp2_with fail
        go_ret2
        exact ⟨zMi (hR.out hn1) (by rw [HX.out]; simp ), ze7 _ _⟩
      · by_cases h1 : n = 1
        · subst h1
          go_wp2_with (go_at_call 89; refine (ck _).mono ?_; rintro e w' ⟨rfl, rfl⟩)
          go_quiet (fail)
          go_wp2_with fail
          go_ret2
          exact ⟨zMi (hR.out hn1) (by rw [HX.out]; simp), ze7 _ _⟩
        · have h1' : ((n : Int) == 1) = false := by simp; omega
          by_cases h2 : (l[a]'ha).toNat = 48
          · have h2' : (((l[a]'ha).toNat : Int) != 48) = false := by simp; omega
            go_wp2_with (go_at_call 89; refine (ck _).mono ?_; rintro e w' ⟨rfl, rfl⟩)
            go_quiet (fail)
            go_wp2_with fail
            go_ret2
            exact ⟨zMi (hR.out hn1) (by rw [HX.out]; simp [h1, h2]), ze7 _ _⟩
          · have h2' : (((l[a]'ha).toNat : Int) != 48) = true := by simp; omega
            go_wp2_with (go_at_call 89; refine (ck _).mono ?_; rintro e w' ⟨rfl, rfl⟩)
            go_quiet (fail)
            go_wp2_with fail
            go_ret2
            exact ⟨zMi (hR.out hn1) (by rw [HX.out]; simp [h1, h2]), ze7 _ _⟩
    · have hdg : 48 ≤ (l[a + n]'hlt).toNat ∧ (l[a + n]'hlt).toNat ≤ 57 := by simpa [digB] using hdi
      have hsn : decV 0 ((l.drop a).take (n + 1)) = decV 0 ((l.drop a).take n) * 10 + ((l[a + n]'hlt).toNat - 48) := by rw [zOx l a n hlt, zOf]
      rw [hdi] at ck
      have HJ2 : Hid (∀ j (hj : j < l.length), a ≤ j → j < a + (n + 1) → digB (l[j]'hj) = true) := zJv (fun j hj h1 h2 => by
       by_cases h : j < a + n
       · exact HJ.out j hj h1 h
       · obtain rfl : j = a + n := by omega
         exact hdi)
      have hS := HS.out;have hT := HT.out;obtain ⟨c, hc⟩ : ∃ c, (l[a + n]'hlt).toNat = c := ⟨_, rfl⟩;rw [hc] at hck ck hc256 hdg hsn;obtain ⟨V, hV⟩ : ∃ V, decV 0 ((l.drop a).take n) = V := ⟨_, rfl⟩;have HV := zJv hV;have HSN := zJv hsn;unfold NumS at hS;rw [hV] at hsn hS;have hX0 : (0 : Int) ≤ (X : Int) := by omega
      clear hV hsn hdi HJ hc HS;by_cases g1 : T < (X : Int)
      · have HF : Hid (NumS l a (n + 1) X false) := zJv (by
         unfold NumS;right
         refine ⟨rfl, ?_, ?_⟩
         · rw [HSN.out, HV.out]
           rcases hS with ⟨_, h1, _⟩ | ⟨_, h1, _⟩ <;> omega
         · rcases hS with ⟨_, _, h2⟩ | ⟨_, _, h2⟩ <;> exact h2)
        clear hS hT HSN HV;go_wp2_with (go_at_call 89; refine (ck _).mono ?_; rintro e w' ⟨rfl, rfl⟩)
        go_roundw
        case rel => exact ⟨trivial, n + 1, X, false, by omega, by go_num, rfl, rfl, HF, HJ2⟩
        case measure => simp [intOf]; omega
      · by_cases g2 : (X : Int) = T
        · by_cases g3 : 55 < c
          · have HF : Hid (NumS l a (n + 1) X false) := zJv (by
             unfold NumS;right
             refine ⟨rfl, ?_, ?_⟩
             · rw [HSN.out, HV.out]
               rcases hS with ⟨_, h1, _⟩ | ⟨_, h1, _⟩ <;> omega
             · rcases hS with ⟨_, _, h2⟩ | ⟨_, _, h2⟩ <;> exact h2)
            have g1' : decide (T < (X : Int)) = false := by simpa using g1
            have g2' : ((X : Int) == T) = true := by simpa using g2
            have g3' : decide ((7 : Int) < (c : Int) - 48) = true := by simp; omega
            clear hS hT HSN HV g1 g2;go_wp2_with (go_at_call 89; refine (ck _).mono ?_; rintro e w' ⟨rfl, rfl⟩)
            go_roundw
            case rel => exact ⟨trivial, n + 1, X, false, by omega, by go_num, rfl, rfl, HF, HJ2⟩
            case measure => simp [intOf]; omega
          · cases fb
            · have HF : Hid (NumS l a (n + 1) X false) := zJv (by
               unfold NumS;right
               refine ⟨rfl, ?_, ?_⟩
               · rw [HSN.out, HV.out]
                 rcases hS with ⟨h0, h1, _⟩ | ⟨_, h1, _⟩
                 · cases h0
                 · omega
               · rcases hS with ⟨_, _, h2⟩ | ⟨_, _, h2⟩ <;> exact h2)
              have g1' : decide (T < (X : Int)) = false := by simpa using g1
              have g2' : ((X : Int) == T) = true := by simpa using g2
              have g3' : decide ((7 : Int) < (c : Int) - 48) = false := by simp; omega
              clear hS hT HSN HV g1 g2;go_wp2_with (go_at_call 89; refine (ck _).mono ?_; rintro e w' ⟨rfl, rfl⟩)
              go_roundw
              case rel => exact ⟨trivial, n + 1, X, false, by omega, by go_num, rfl, rfl, HF, HJ2⟩
              case measure => simp [intOf]; omega
            · have HF : Hid (NumS l a (n + 1) (X * 10 + (c - 48)) true) := zJv (by
               unfold NumS;left
               rw [HSN.out, HV.out];rcases hS with ⟨h0, h1, _⟩ | ⟨h0, _⟩
               · refine ⟨rfl, by omega, by omega⟩
               · cases h0)
              have HW : Hid (IntKind.u64.wrap ((X : Int) * 10) = (X : Int) * 10) := zJv (by
               unfold IntKind.wrap; simp only [IntKind.bits, IntKind.signed];have : (2:Int) ^ 64 = 18446744073709551616 := by decide
               simp [this]; omega)
              have HW2 : Hid (IntKind.u64.wrap ((X : Int) * 10 + ((c : Int) - 48)) = ((X * 10 + (c - 48) : Nat) : Int)) := zJv (by
               unfold IntKind.wrap; simp only [IntKind.bits, IntKind.signed];have : (2:Int) ^ 64 = 18446744073709551616 := by decide
               simp [this]; omega)
              have g1' : decide (T < (X : Int)) = false := by simpa using g1
              have g2' : ((X : Int) == T) = true := by simpa using g2
              have g3' : decide ((7 : Int) < (c : Int) - 48) = false := by simp; omega
              clear hS hT HSN HV g1 g2;go_wp2_with (go_at_call 89; refine (ck _).mono ?_; rintro e w' ⟨rfl, rfl⟩)
              go_roundw
              case rel => exact ⟨trivial, n + 1, X * 10 + (c - 48), true, by omega, by go_num, by rw [HW.out, HW2.out], rfl, HF, HJ2⟩
              case measure => simp [intOf]; omega
        · cases fb
          · have HF : Hid (NumS l a (n + 1) X false) := zJv (by
             unfold NumS;right
             refine ⟨rfl, ?_, ?_⟩
             · rw [HSN.out, HV.out]
               rcases hS with ⟨h0, h1, _⟩ | ⟨_, h1, _⟩
               · cases h0
               · omega
             · rcases hS with ⟨_, _, h2⟩ | ⟨_, _, h2⟩ <;> exact h2)
            have g1' : decide (T < (X : Int)) = false := by simpa using g1
            have g2' : ((X : Int) == T) = false := by simpa using g2
            clear hS hT HSN HV g1 g2;go_wp2_with (go_at_call 89; refine (ck _).mono ?_; rintro e w' ⟨rfl, rfl⟩)
            go_roundw
            case rel => exact ⟨trivial, n + 1, X, false, by omega, by go_num, rfl, rfl, HF, HJ2⟩
            case measure => simp [intOf]; omega
          · have HF : Hid (NumS l a (n + 1) (X * 10 + (c - 48)) true) := zJv (by
             unfold NumS;left
             rw [HSN.out, HV.out];rcases hS with ⟨h0, h1, _⟩ | ⟨h0, _⟩
             · refine ⟨rfl, by omega, by omega⟩
             · cases h0)
            have HW : Hid (IntKind.u64.wrap ((X : Int) * 10) = (X : Int) * 10) := zJv (by
             unfold IntKind.wrap; simp only [IntKind.bits, IntKind.signed];have : (2:Int) ^ 64 = 18446744073709551616 := by decide
             simp [this]; omega)
            have HW2 : Hid (IntKind.u64.wrap ((X : Int) * 10 + ((c : Int) - 48)) = ((X * 10 + (c - 48) : Nat) : Int)) := zJv (by
             unfold IntKind.wrap; simp only [IntKind.bits, IntKind.signed];have : (2:Int) ^ 64 = 18446744073709551616 := by decide
             simp [this]; omega)
            have g1' : decide (T < (X : Int)) = false := by simpa using g1
            have g2' : ((X : Int) == T) = false := by simpa using g2
            clear hS hT HSN HV g1 g2;go_wp2_with (go_at_call 89; refine (ck _).mono ?_; rintro e w' ⟨rfl, rfl⟩)
            go_roundw
            case rel => exact ⟨trivial, n + 1, X * 10 + (c - 48), true, by omega, by go_num, by rw [HW.out, HW2.out], rfl, HF, HJ2⟩
            case measure => simp [intOf]; omega
  · have hn1 : 1 ≤ n := by omega
    have hR := zJv (HN.out n hn1 hn (fun j hj q1 q2 => HJ.out j hj (by omega) q2) (.inl (by omega)));have HX := zJv (HOK.out fb n hn1 hR.out ⟨X, HS.out⟩);have hca := HH.out.at a ha;cases fb
    · go_wp2_with fail
      go_quiet (fail)
      go_wp2_with fail
      go_ret2
      exact ⟨zMi hR.out (by rw [HX.out]; simp ), ze7 _ _⟩
    · by_cases h1 : n = 1
      · subst h1
        go_wp2_with fail
        go_quiet (fail)
        go_wp2_with fail
        go_ret2
        exact ⟨zMi hR.out (by rw [HX.out]; simp), ze7 _ _⟩
      · have h1' : ((n : Int) == 1) = false := by simp; omega
        by_cases h2 : (l[a]'ha).toNat = 48
        · have h2' : (((l[a]'ha).toNat : Int) != 48) = false := by simp; omega
          go_wp2_with fail
          go_quiet (fail)
          go_wp2_with fail
          go_ret2
          exact ⟨zMi hR.out (by rw [HX.out]; simp [h1, h2]), ze7 _ _⟩
        · have h2' : (((l[a]'ha).toNat : Int) != 48) = true := by simp; omega
          go_wp2_with fail
          go_quiet (fail)
          go_wp2_with fail
          go_ret2
          exact ⟨zMi hR.out (by rw [HX.out]; simp [h1, h2]), ze7 _ _⟩
end Go.Proofs.YtidmeodmkcomlaaGreatDoor
