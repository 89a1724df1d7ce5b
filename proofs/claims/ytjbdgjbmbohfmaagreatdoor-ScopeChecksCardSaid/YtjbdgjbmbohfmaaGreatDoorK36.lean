/- The library's slices.Sorted over maps.Keys, as this program has them. The free names of a tree, rising: the walks of freeNames and Free. For each alias the one -/
import Derived.Shelf.SlIter.Nil
import Derived.Shelf.SortM.Plain
import Derived.Shelf.SortM.SortNone
import Derived.Ground.GgzProg
import Derived.Ground.SlgmProg
import Derived.Test.YtjbdgjbmbohfmaaGreatDoorK35
import Derived.Test.YtjbdgjbmbohfmaaGreatDoorK22
import Derived.Laws.MakeOwn
namespace Go.Proofs
open Go.RowKit Go.Maps Go.Sort Go.Shelf
def Tryz.keys143_ren : Go.Shelf.Ren := ⟨fun | 7 => 143 | 10 => 191 | n => n, fun | 23 => 154 | 26 => 9 | 3 => 161 | 28 => 159 | 0 => 0 | 27 => 158 | 33 => 63 | 4 => 4 | n => n, fun | n => n⟩
theorem Tryz.keys143 : Go.Proofs.SlLaysZ.n7 Tryz.prog Tryz.keys143_ren := {
 mixed := by kernel_rfl
 f7 := ⟨Tryz.f143.name, by decide, Tryz.func143.trans (congrArg some (by kernel_rfl))⟩
 f10 := ⟨Tryz.f191.name, by decide, Tryz.func191.trans (congrArg some (by kernel_rfl))⟩
 t0 := Tryz.underlying0
 a0 := Tryz.isAgg0
 z0 := Tryz.sizeOf0
 v0 := Tryz.zeroValue0
 t4 := Tryz.underlying4
 a4 := Tryz.isAgg4
 z4 := Tryz.sizeOf4
 v4 := Tryz.zeroValue4
 t23 := Tryz.underlying154
 a23 := Tryz.isAgg154
 z23 := Tryz.sizeOf154
 v23 := Tryz.zeroValue154
 t26 := Tryz.underlying9
 a26 := Tryz.isAgg9
 z26 := Tryz.sizeOf9
 v26 := Tryz.zeroValue9
 t27 := Tryz.underlying158
 a27 := Tryz.isAgg158
 z27 := Tryz.sizeOf158
 v27 := Tryz.zeroValue158
 t28 := Tryz.underlying159
 a28 := Tryz.isAgg159
 z28 := Tryz.sizeOf159
 v28 := Tryz.zeroValue159
 t33 := Tryz.underlying63
 a33 := Tryz.isAgg63
 z33 := Tryz.sizeOf63
 v33 := Tryz.zeroValue63 }
def Tryz.sorted142_ren : Go.Shelf.Ren := ⟨fun | 6 => 142 | 8 => 189 | 9 => 190 | 11 => 230 | 13 => 232 | 12 => 231 | 23 => 276 | 24 => 277 | 14 => 267 | 15 => 268 | 16 => 269 | 17 => 270 | 18 => 271 | 19 => 272 | 20 => 273 | 21 => 274 | 22 => 275 | 25 => 292 | 26 => 293 | 27 => 294 | 28 => 295 | 29 => 296 | 30 => 140 | 31 => 308 | n => n, fun | 26 => 9 | 28 => 159 | 24 => 48 | 0 => 0 | 3 => 3 | 37 => 37 | 48 => 259 | 50 => 58 | 4 => 4 | 40 => 253 | 39 => 252 | 45 => 56 | 5 => 5 | 9 => 9 | 51 => 269 | 55 => 273 | 57 => 286 | 58 => 164 | 33 => 63 | n => n, fun | n => n⟩
theorem Tryz.sorted142 : Go.Proofs.SlLaysZ.n6 Tryz.prog Tryz.sorted142_ren := {
 mixed := by kernel_rfl
 f6 := ⟨Tryz.f142.name, by decide, Tryz.func142.trans (congrArg some (by kernel_rfl))⟩
 f8 := ⟨Tryz.f189.name, by decide, Tryz.func189.trans (congrArg some (by kernel_rfl))⟩
 f11 := ⟨Tryz.f230.name, by decide, Tryz.func230.trans (congrArg some (by kernel_rfl))⟩
 t0 := Tryz.underlying0
 a0 := Tryz.isAgg0
 z0 := Tryz.sizeOf0
 v0 := Tryz.zeroValue0
 t24 := Tryz.underlying48
 a24 := Tryz.isAgg48
 z24 := Tryz.sizeOf48
 v24 := Tryz.zeroValue48
 t26 := Tryz.underlying9
 a26 := Tryz.isAgg9
 z26 := Tryz.sizeOf9
 v26 := Tryz.zeroValue9
 t28 := Tryz.underlying159
 a28 := Tryz.isAgg159
 z28 := Tryz.sizeOf159
 v28 := Tryz.zeroValue159
 i26 := by kernel_rfl }
def Tryz.sort190_ren : Go.Shelf.Ren := ⟨fun | 6 => 190 | 8 => 232 | 9 => 231 | 19 => 276 | 20 => 277 | 21 => 267 | 22 => 268 | 23 => 269 | 24 => 270 | 25 => 271 | 26 => 272 | 27 => 273 | 28 => 274 | 29 => 275 | 36 => 292 | 31 => 293 | 32 => 294 | 37 => 295 | 38 => 296 | 39 => 140 | 41 => 308 | n => n, fun | 27 => 48 | 29 => 9 | 3 => 3 | 32 => 37 | 26 => 48 | 0 => 0 | 44 => 259 | 46 => 58 | 4 => 4 | 36 => 253 | 35 => 252 | 41 => 56 | 5 => 5 | 9 => 9 | 53 => 269 | 57 => 273 | 63 => 286 | 64 => 164 | n => n, fun | n => n⟩
theorem Tryz.sort190 : Go.Proofs.SlLaysM.n6 Tryz.prog Tryz.sort190_ren := {
 mixed := by kernel_rfl
 f6 := ⟨Tryz.f190.name, by decide, Tryz.func190.trans (congrArg some (by kernel_rfl))⟩
 f8 := Tryz.func232.trans (congrArg some (by kernel_rfl))
 f9 := ⟨Tryz.f231.name, by decide, Tryz.func231.trans (congrArg some (by kernel_rfl))⟩
 f19 := Tryz.func276.trans (congrArg some (by kernel_rfl))
 f20 := Tryz.func277.trans (congrArg some (by kernel_rfl))
 f21 := ⟨Tryz.f267.name, by decide, Tryz.func267.trans (congrArg some (by kernel_rfl))⟩
 f22 := ⟨Tryz.f268.name, by decide, Tryz.func268.trans (congrArg some (by kernel_rfl))⟩
 f23 := ⟨Tryz.f269.name, by decide, Tryz.func269.trans (congrArg some (by kernel_rfl))⟩
 f24 := ⟨Tryz.f270.name, by decide, Tryz.func270.trans (congrArg some (by kernel_rfl))⟩
 f25 := ⟨Tryz.f271.name, by decide, Tryz.func271.trans (congrArg some (by kernel_rfl))⟩
 f26 := ⟨Tryz.f272.name, by decide, Tryz.func272.trans (congrArg some (by kernel_rfl))⟩
 f27 := ⟨Tryz.f273.name, by decide, Tryz.func273.trans (congrArg some (by kernel_rfl))⟩
 f28 := ⟨Tryz.f274.name, by decide, Tryz.func274.trans (congrArg some (by kernel_rfl))⟩
 f29 := ⟨Tryz.f275.name, by decide, Tryz.func275.trans (congrArg some (by kernel_rfl))⟩
 f31 := Tryz.func293.trans (congrArg some (by kernel_rfl))
 f32 := Tryz.func294.trans (congrArg some (by kernel_rfl))
 f36 := ⟨Tryz.f292.name, by decide, Tryz.func292.trans (congrArg some (by kernel_rfl))⟩
 f37 := ⟨Tryz.f295.name, by decide, Tryz.func295.trans (congrArg some (by kernel_rfl))⟩
 f38 := ⟨Tryz.f296.name, by decide, Tryz.func296.trans (congrArg some (by kernel_rfl))⟩
 f39 := ⟨Tryz.f140.name, by decide, Tryz.func140.trans (congrArg some (by kernel_rfl))⟩
 f41 := ⟨Tryz.f308.name, by decide, Tryz.func308.trans (congrArg some (by kernel_rfl))⟩
 t0 := Tryz.underlying0
 a0 := Tryz.isAgg0
 z0 := Tryz.sizeOf0
 v0 := Tryz.zeroValue0
 t3 := Tryz.underlying3
 a3 := Tryz.isAgg3
 z3 := Tryz.sizeOf3
 v3 := Tryz.zeroValue3
 t4 := Tryz.underlying4
 a4 := Tryz.isAgg4
 z4 := Tryz.sizeOf4
 v4 := Tryz.zeroValue4
 t5 := Tryz.underlying5
 a5 := Tryz.isAgg5
 z5 := Tryz.sizeOf5
 v5 := Tryz.zeroValue5
 t9 := Tryz.underlying9
 a9 := Tryz.isAgg9
 z9 := Tryz.sizeOf9
 v9 := Tryz.zeroValue9
 t26 := Tryz.underlying48
 a26 := Tryz.isAgg48
 z26 := Tryz.sizeOf48
 v26 := Tryz.zeroValue48
 t27 := Tryz.underlying48
 a27 := Tryz.isAgg48
 z27 := Tryz.sizeOf48
 v27 := Tryz.zeroValue48
 t29 := Tryz.underlying9
 a29 := Tryz.isAgg9
 z29 := Tryz.sizeOf9
 v29 := Tryz.zeroValue9
 t32 := Tryz.underlying37
 a32 := Tryz.isAgg37
 z32 := Tryz.sizeOf37
 v32 := Tryz.zeroValue37
 t35 := Tryz.underlying252
 a35 := Tryz.isAgg252
 z35 := Tryz.sizeOf252
 v35 := Tryz.zeroValue252
 t36 := Tryz.underlying253
 a36 := Tryz.isAgg253
 z36 := Tryz.sizeOf253
 v36 := Tryz.zeroValue253
 t41 := Tryz.underlying56
 a41 := Tryz.isAgg56
 z41 := Tryz.sizeOf56
 v41 := Tryz.zeroValue56
 t44 := Tryz.underlying259
 a44 := Tryz.isAgg259
 z44 := Tryz.sizeOf259
 v44 := Tryz.zeroValue259
 t46 := Tryz.underlying58
 a46 := Tryz.isAgg58
 z46 := Tryz.sizeOf58
 v46 := Tryz.zeroValue58
 t53 := Tryz.underlying269
 a53 := Tryz.isAgg269
 z53 := Tryz.sizeOf269
 v53 := Tryz.zeroValue269
 t57 := Tryz.underlying273
 a57 := Tryz.isAgg273
 z57 := Tryz.sizeOf273
 v57 := Tryz.zeroValue273
 t63 := Tryz.underlying286
 a63 := Tryz.isAgg286
 z63 := Tryz.sizeOf286
 v63 := Tryz.zeroValue286
 t64 := Tryz.underlying164
 a64 := Tryz.isAgg164
 z64 := Tryz.sizeOf164
 v64 := Tryz.zeroValue164 }
/-- slices.Sort's two contracts at this dump, at the fence that asks nothing. -/
theorem Tryz.sorts142 (m : Nat) : AnyZ.SortsIn Tryz.prog Tryz.sorted142_ren Fence.wide m :=
 ⟨fun blk off cap ss W hH hblk hsz => callsIn_wide.2 (AnyM.slices_Sort_string Tryz.sort190 blk off cap ss W hH hblk hsz),
  fun p cap W => callsIn_wide.2 (AnyM.slices_Sort_string_none Tryz.sort190 p cap W)⟩

/-- **maps.Keys[map[string]struct{},string,struct{}], at whatever map, the nil one too:** a function value over ONE NEW BLOCK, which holds the map. -/
theorem Tryz.maps_Keys_143 (mb : Option Nat) (W : World) : CallsIn Fence.wide 5 Tryz.prog 143 #[.map mb] W fun e w' => e = .returned (.func (.func 191) #[] #[.pointer (some ⟨W.heap.size, 0, none⟩)]) ∧ w' = W.alloc (.cells #[.map mb] 154) :=
 AnyZ.keys_in Tryz.keys143 Fence.wide 5 trivial rfl mb W

set_option maxHeartbeats 1000000 in
/-- **slices.Sorted[string] AT WHAT maps.Keys[map[string]struct{},string,struct{}] HANDED BACK FOR A MAP THAT IS NOT nil** ('w': the world AHEAD of maps.Keys' call): A NEW SLICE THAT HOLDS THE MAP's KEYS, SORTED; nil just where it has none; nothing that lay before has turned. -/
theorem Tryz.slices_Sorted_keys_142_143 {H : Type} (b nn : Nat) (D0 : DataW H) (R : Value → Option (DataW H × List MemPlace)) (w : World) (hown : w.ownsMap Tryz.prog 9 R b nn D0) (hmax : Maps.size D0 ≤ maxLen) (hbytes : Maps.size D0 * 16 ≤ 140737488355328) :
 CallsIn Fence.wide 5 Tryz.prog 142 #[.func (.func 191) #[] #[.pointer (some ⟨w.heap.size, 0, none⟩)]] (w.alloc (.cells #[.map (some b)] 154)) fun e w' => ∃ (v : Value) (ss : List (List UInt8)), e = .returned v ∧ ss.Perm (strKeys D0) ∧
  w'.ownsRow (w.alloc (.cells #[.map (some b)] 154)).heap.size 9 1 v ss.length ((ss.mergeSort (fun x y => decide (x ≤ y))).map encStr) ∧ (v = .slice none 0 0 ↔ ss = []) ∧ Below (w.alloc (.cells #[.map (some b)] 154)).heap.size (w.alloc (.cells #[.map (some b)] 154)) w' := by
 have hbl := hown.lt
 have hseq : SeqGives Fence.wide 2 Tryz.prog 191 #[.pointer (some ⟨w.heap.size, 0, none⟩)] encStr (fun ss => ss.Perm (strKeys D0)) (Maps.size D0) (w.alloc (.cells #[.map (some b)] 154)) :=
  AnyZ.keys_gives (ρ := Tryz.keys143_ren) { Tryz.keys143 with } Fence.wide _ trivial rfl (by omega) w.heap.size b nn D0 _ (by simp) (by simp) (by
   obtain ⟨es, clock, hb, Ft, hs, hD⟩ := hown
   exact ⟨es, clock, (Below.heap_alloc _ _ b hbl).trans hb, Ft, hs, hD⟩)
 exact AnyZ.sorted_in Tryz.sorted142 Fence.wide 5 trivial trivial trivial trivial rfl (by omega) (Tryz.sorts142 _) (enters_of Tryz.func190 (by kernel_rfl) rfl) 191 #[.pointer (some ⟨w.heap.size, 0, none⟩)] trivial (enters_of Tryz.func191 (by kernel_rfl) rfl) _ _ hmax hbytes _ hseq
end Go.Proofs
namespace Go.Proofs.YtjbdgjbmbohfmaaGreatDoor
open Go Go.Proofs Go.RowKit
def FreePost (P : ByteArray → Prop) (w : World) (e : Ending) (w' : World) : Prop :=
 ∃ v ns, e = .returned v ∧ w'.ownsRow w.heap.size 9 1 v ns.length (ns.map .string) ∧ Rise ns ∧ (∀ s, s ∈ ns ↔ P s) ∧ Below w.heap.size w w'

theorem bytes_list (s : ByteArray) : (⟨s.data.toList.toArray⟩ : ByteArray) = s := by obtain ⟨⟨l⟩⟩ := s; rfl
/-- The keys of a map, sorted, are a row that rises. -/
theorem keys_rise {D : DataW Unit} {L : List ByteArray} {ss : List (List UInt8)} (hD : Maps.Tidy D) (hK : KeysIn L D) (hS : ss.Perm (strKeys D)) {G : ByteArray → Prop} (hG : ∀ s : ByteArray, Maps.has D (.string s.data.toList) = true ↔ G s) :
 Rise ((ss.mergeSort (fun x y => decide (x ≤ y))).map fun l => (⟨l.toArray⟩ : ByteArray)) ∧ ∀ s, s ∈ ((ss.mergeSort (fun x y => decide (x ≤ y))).map fun l => (⟨l.toArray⟩ : ByteArray)) ↔ G s := by
 obtain ⟨l, hl, hp⟩ := hD
 obtain ⟨l2, hl2, hk⟩ := hK
 rw [hl] at hl2
 injection hl2 with hl2
 subst hl2
 have hmem : ∀ x : List UInt8, x ∈ ss ↔ Maps.has D (.string x) = true := by
  intro x
  rw [hS.mem_iff, hl]
  unfold strKeys
  rw [Maps.has_eq, List.any_eq_true, List.mem_map]
  constructor
  ·rintro ⟨p, hp1, rfl⟩
   obtain ⟨s, _, e⟩ := hk p hp1
   refine ⟨p, hp1, ?_⟩
   rw [e]
   exact WideAt.sameKey_self (kl _)
  ·rintro ⟨p, hp1, e⟩
   exact ⟨p, hp1, by rw [WideAt.sameKey_eq e]; rfl⟩
 have hnod : ss.Nodup := by
  rw [hS.nodup_iff, hl]
  unfold strKeys
  rw [List.nodup_iff_pairwise_ne, List.pairwise_map]
  refine hp.imp_of_mem (fun {a b} ha hb hne e => hne ?_)
  obtain ⟨s, _, e1⟩ := hk a ha
  obtain ⟨s', _, e2⟩ := hk b hb
  rw [e1, e2] at e ⊢
  exact congrArg Lit.string e
 have hsrt : (ss.mergeSort (fun x y => decide (x ≤ y))).Pairwise fun x y => x ≤ y := by
  have := List.pairwise_mergeSort (le := fun x y : List UInt8 => decide (x ≤ y)) (fun a b c h1 h2 => by simp only [decide_eq_true_eq] at *; exact List.le_trans h1 h2) (fun a b => by simp only [Bool.or_eq_true, decide_eq_true_eq]; exact List.le_total a b) ss
  exact this.imp (fun h => by simpa using h)
 have hnod2 : (ss.mergeSort (fun x y => decide (x ≤ y))).Nodup := (List.mergeSort_perm ss _).nodup_iff.2 hnod
 constructor
 ·rw [Rise, List.pairwise_map]
  have := List.pairwise_and_iff.2 ⟨hsrt, (List.nodup_iff_pairwise_ne.1 hnod2)⟩
  refine this.imp (fun {a b} h => ?_)
  show a < b
  refine Decidable.byContradiction fun hn => h.2 ?_
  exact List.le_antisymm h.1 hn
 ·intro s
  rw [List.mem_map, ← hG s, ← hmem s.data.toList]
  constructor
  ·rintro ⟨x, hx, rfl⟩
   have := (List.mergeSort_perm ss (fun x y => decide (x ≤ y))).mem_iff.1 hx
   simpa using this
  ·intro h
   exact ⟨_, (List.mergeSort_perm ss (fun x y => decide (x ≤ y))).mem_iff.2 h, bytes_list s⟩

set_option maxRecDepth 100000 in
set_option maxHeartbeats 4000000 in
theorem freeNames_any (t : TreeD) (p : Ptr6) (w : World) (hT : TreeAt (Lt w.heap.size) w t p) (hN : NdOk t) (hS : TmSm t) (hl : 1 ≤ t.nodes.length) (hl2 : t.nodes.length ≤ 65536) :
 Calls Tryz.prog 77 #[treeV t p] w (FreePost (fun s => s ∈ freeL t t.nodes.length (t.nodes.length - 1) []) w) := by
 have hmm := @run_makeMap Tryz.prog
 obtain ⟨z, hz⟩ : ∃ z, w.heap.size = z := ⟨_, rfl⟩
 obtain ⟨W0, hW0⟩ : ∃ W0, (((w.alloc (.cells #[.slice p.a1 t.nodes.length p.c1, .slice p.a2 t.types.length p.c2, .slice p.a3 t.aliases.length p.c3] 28)).alloc (.map #[] 0)).alloc (.map #[] 0)).alloc (.cells (FinV t p (z + 1) (z + 1 + 1)) 156) = W0 := ⟨_, rfl⟩
 have hb0 : Below z w W0 := by
  rw [← hW0]
  exact ((((Below.refl z w).alloc (by omega) _).alloc (by simp; omega) _).alloc (by simp; omega) _).alloc (by simp; omega) _
 have hs0 : W0.heap.size = z + 4 := by rw [← hW0]; simp; omega
 have hX0 : Blk W0 z 28 #[.slice p.a1 t.nodes.length p.c1, .slice p.a2 t.types.length p.c2, .slice p.a3 t.aliases.length p.c3] := by rw [← hW0, ← hz]; exact (((Blk.new w 28 _).alloc _).alloc _).alloc _
 have hF0 : Blk W0 (z + 1 + 1 + 1) 156 (FinV t p (z + 1) (z + 1 + 1)) := by
  rw [← hW0]
  have := Blk.new (((w.alloc (.cells #[.slice p.a1 t.nodes.length p.c1, .slice p.a2 t.types.length p.c2, .slice p.a3 t.aliases.length p.c3] 28)).alloc (.map #[] 0)).alloc (.map #[] 0)) 156 (FinV t p (z + 1) (z + 1 + 1))
  simp only [World.size_alloc, hz] at this
  exact this
 have hA0 : AOk (allN t) (z + 1) [] W0 := by
  have h1 := World.ownsMap_made (H := Unit) (w.alloc (.cells #[.slice p.a1 t.nodes.length p.c1, .slice p.a2 t.types.length p.c2, .slice p.a3 t.aliases.length p.c3] 28)) Tryz.prog 9 (plainElem Tryz.prog 3)
  simp only [World.size_alloc, hz] at h1
  refine ⟨_, by rw [← hW0]; exact (((h1.alloc _).alloc _).mono (Nat.zero_le _)), KeysIn.nil _, fun s => rfl⟩
 have hR0 : ROk (allN t) (z + 1 + 1) (fun _ => False) W0 := by
  have h1 := World.ownsMap_made (H := Unit) ((w.alloc (.cells #[.slice p.a1 t.nodes.length p.c1, .slice p.a2 t.types.length p.c2, .slice p.a3 t.aliases.length p.c3] 28)).alloc (.map #[] 0)) Tryz.prog 9 unitElem
  simp only [World.size_alloc, hz] at h1
  refine ⟨_, by rw [← hW0]; exact ((h1.alloc _).mono (Nat.zero_le _)), KeysIn.nil _, fun s => ⟨fun e => (by cases e), fun e => False.elim e⟩⟩
 have cT := term_anyZ t p (z + 1 + 1 + 1) (z + 1) (z + 1 + 1) z hN hS (by omega) (by omega) (by omega) (by omega) (by omega) (by omega) t.nodes.length (t.nodes.length - 1) [] (fun _ => False) W0 (by omega) (by omega) (by simp; omega) (hz ▸ hT.keep (keep_below (hz ▸ hb0))) hF0 hA0 hR0
 rw [show ((t.nodes.length - 1 : Nat) : Int) = (t.nodes.length : Int) - 1 by omega] at cT
 have HCT := Lib.hid cT
 have HB0 := Lib.hid hb0
 have HF0 := Lib.hid hF0
 have HZ := Lib.hid hz
 clear cT hA0 hR0 hb0
 have x0 := hX0.cell 0
 simp only [List.getElem?_toArray, List.getElem?_cons_zero] at x0
 unfold FinV at hW0
 go_enter Tryz.func77, Tryz.ntmps77
 go_wp2_with fail
 refine HCT.out.mono ?_
 rintro e w1 ⟨rfl, _, hR1, hK1⟩
 obtain ⟨D, h1, h2, h3⟩ := hR1
 have hF1 : Blk w1 (z + 1 + 1 + 1) 156 (FinV t p (z + 1) (z + 1 + 1)) := (hK1.block _ (by omega) (by omega) (by omega)).trans HF0.out
 have hsz1 := hK1.size
 have x4 := hF1.cell 4
 simp only [FinV, List.getElem?_toArray, List.getElem?_cons_zero, List.getElem?_cons_succ] at x4
 have hsize : Maps.size D ≤ 100000000 := by
  obtain ⟨es, clock, _, _, hs, hD⟩ := h1
  rw [hD, Maps.size_eq, length_sorted]
  have := hS.all
  simp only [List.length_map, Array.length_toList]
  omega
 have cK := fun (mb : Option Nat) (W : World) => callsIn_wide.1 (Tryz.maps_Keys_143 mb W)
 have cS := callsIn_wide.1 (Tryz.slices_Sorted_keys_142_143 (z + 1 + 1) _ D unitElem w1 h1 (by unfold maxLen; omega) (by omega))
 have htd := h1.tidy (Maps.string_keyed Tryz.underlying9)
 have HB1 := Lib.hid (HB0.out.trans (hK1.to_below (n := z) (by omega) (by omega) (by omega)))
 have HCS := Lib.hid cS
 have HTD := Lib.hid htd
 have HH := Lib.hid h3
 have HK2 := Lib.hid h2
 clear cS htd h3 hF1 hX0 h1 h2 x0 hW0 hK1
 go_wp2_with (go_at_call 143; refine (cK _ _).mono ?_; rintro e w2 ⟨rfl, rfl⟩)
 refine HCS.out.mono ?_
 rintro e w3 ⟨v, ss, rfl, hS2, hrow, hnil, hb3⟩
 obtain ⟨k1, k2⟩ := keys_rise HTD.out HK2.out hS2 HH.out
 have K1 := Lib.hid k1
 have K2 := Lib.hid k2
 have hR3 : Hid (w3.ownsRow z 9 1 v ((ss.mergeSort (fun x y => decide (x ≤ y))).map fun l => (⟨l.toArray⟩ : ByteArray)).length (((ss.mergeSort (fun x y => decide (x ≤ y))).map fun l => (⟨l.toArray⟩ : ByteArray)).map .string)) := Lib.hid (by
  have h := own_baseZ hrow (base' := z) (by have := HB1.out.size; simp; omega)
  rw [List.length_map, List.length_mergeSort, List.map_map]
  exact h)
 have hB3 : Hid (Below z w w3) := Lib.hid ((HB1.out.alloc (by have := HB1.out.size; omega) (.cells #[.map (some (z + 1 + 1))] 154)).trans (hb3.mono (by have := HB1.out.size; simp; omega)))
 clear k1 k2 hrow hb3 hnil
 go_wp2
 go_ret
 refine ⟨v, _, rfl, hz ▸ hR3.out, K1.out, fun s => (K2.out s).trans ⟨fun h => h.elim (fun h => h.elim) id, .inr⟩, hz ▸ hB3.out⟩
theorem info3s : (Tryz.prog.info? 3).map (fun i => (i.zero, i.size, i.bytes)) = some (some (.int .i64 0), 1, 8) := by kernel_rfl
theorem made_zero (n : Nat) : madeCells #[.int .i64 0] n = ivs (List.replicate n 0) := by
 apply Array.ext
 ·simp [size_madeCells, ivs]
 ·intro i h1 h2
  simp [madeCells, ivs, Nat.mod_one]
theorem made49 (n : Nat) (hn : n ≤ 65536) (W : World) : (Instr.makeSlice 49 (.int .i64 (n : Int)) (.int .i64 (n : Int))).run Tryz.prog W = .ok (.slice (some ⟨W.heap.size, 0, none⟩) n n) (W.alloc (.cells (ivs (List.replicate n 0)) 3)) := by
 obtain ⟨i0, hi, hz0, hz1, hz2⟩ := info_parts info3s
 have := run_make (P := Tryz.prog) W 49 3 i0 (.int .i64 0) Tryz.underlying49 hi hz0 .i64 .i64 (n : Int) (n : Int) (by omega) (by omega) (by rw [hz2]; omega) (by omega)
 rw [this, hz1]
 simp only [Int.toNat_natCast, Nat.mul_one]
 have e : (Value.int IntKind.i64 0).cells = #[.int .i64 0] := rfl
 rw [e, made_zero]
theorem fill_set (L : List Int) (n k : Nat) (hL : L.length = n) (hk : k < n) (v : Int) (hv : L[k]? = some v) : (L.take k ++ List.replicate (n - k) 0).set k v = L.take (k + 1) ++ List.replicate (n - (k + 1)) 0 := by
 have h1 : (L.take k).length = k := by simp; omega
 rw [List.set_append_right _ _ (by omega), h1, Nat.sub_self, show n - k = (n - (k + 1)) + 1 by omega, List.replicate_succ, List.set_cons_zero, List.take_add_one, hv]
 simp
def OnPost (L : List Int) (w : World) (e : Ending) (w' : World) : Prop :=
 ∃ g, e = .returned (.slice (some ⟨g, 0, none⟩) L.length L.length) ∧ w.heap.size ≤ g ∧ Blk w' g 3 (ivs L) ∧ Below w.heap.size w w'

set_option maxRecDepth 100000 in
set_option maxHeartbeats 4000000 in
theorem onward_any (t : TreeD) (p : Ptr6) (M n : Nat) (D : DataW Unit) (w : World) (hT : TreeAt (Lt w.heap.size) w t p) (hN : NmOk t) (hS : Sm t) (hown : w.ownsMap Tryz.prog 9 (plainElem Tryz.prog 3) M n D) (hM : Means t.aliases D) :
 Calls Tryz.prog 137 #[treeV t p, .map (some M)] w (OnPost (onL t) w) := by
 obtain ⟨nodes, types, al⟩ := t
 obtain ⟨a1, c1, a2, c2, a3, c3⟩ := p
 have hla := hS.la
 dsimp only at hla
 have HS := Lib.hid hS
 have HN := Lib.hid hN
 have HM := Lib.hid hM
 have hTY := hT.2.1
 have hAL := hT.2.2
 dsimp only at hTY hAL
 clear hT hS hN hM
 have hmk := made49 al.length (by omega)
 have hon : (onL ⟨nodes, types, al⟩).length = al.length := by unfold onL; rw [List.length_map]
 have HON := Lib.hid hon
 clear hon
 obtain ⟨W0, hW0⟩ : ∃ W0, (w.alloc (.cells #[.slice a1 nodes.length c1, .slice a2 types.length c2, .slice a3 al.length c3] 28)).alloc (.cells (ivs (List.replicate al.length 0)) 3) = W0 := ⟨_, rfl⟩
 have hb0 : Below w.heap.size w W0 := by rw [← hW0]; exact ((Below.refl _ w).alloc (Nat.le_refl _) _).alloc (by simp) _
 have hX0 : Blk W0 w.heap.size 28 #[.slice a1 nodes.length c1, .slice a2 types.length c2, .slice a3 al.length c3] := by rw [← hW0]; exact (Blk.new w 28 _).alloc _
 have hZ0 : Blk W0 (w.heap.size + 1) 3 (ivs (List.replicate al.length 0)) := by
  rw [← hW0]
  have := Blk.new (w.alloc (.cells #[.slice a1 nodes.length c1, .slice a2 types.length c2, .slice a3 al.length c3] 28)) 3 (ivs (List.replicate al.length 0))
  rwa [World.size_alloc] at this
 have hown0 : W0.ownsMap Tryz.prog 9 (plainElem Tryz.prog 3) M n D := by rw [← hW0]; exact (hown.alloc _).alloc _
 have hMl := hown.lt
 have x0 := hX0.cell 0
 have x1 := hX0.cell 1
 have x2 := hX0.cell 2
 simp only [List.getElem?_toArray, List.getElem?_cons_zero, List.getElem?_cons_succ] at x0 x1 x2
 have hz01 : w.heap.size < W0.heap.size := hX0.lt
 have HB := Lib.hid hb0
 clear hb0 hown
 go_enter Tryz.func137, Tryz.ntmps137
 go_wp2
 have x1' := x1
 clear hW0
 go_loopw [6, 7, 8, 9, 17] (fun _ _ _ _ vc wr => ∃ (k : Nat) (cur : List Int), k ≤ al.length ∧ vc = .int .i64 (k : Int) ∧ Blk wr (w.heap.size + 1) 3 (ivs cur) ∧ Hid (cur = (onL ⟨nodes, types, al⟩).take k ++ List.replicate (al.length - k) 0) ∧ W0.grownBy wr (some (w.heap.size + 1))) (fun _ _ _ _ vc _ => al.length - (intOf vc).toNat)
 case atStart => exact ⟨0, _, Nat.zero_le _, rfl, hZ0, Lib.hid rfl, only_refl _ _⟩
 case round =>
  obtain ⟨k, cur, hk, rfl, hBc, HC, hgr⟩ := hrel
  have hzr := hgr.size
  have hXr := hX0.grown hgr (by simp)
  have y1 := hXr.cell 1
  simp only [List.getElem?_toArray, List.getElem?_cons_zero, List.getElem?_cons_succ] at y1
  have hzc := hBc.lt
  by_cases hlk : k < al.length
  ·obtain ⟨b, off, rfl, hb, hcell⟩ := hAL (by omega)
   dsimp only [Lt] at hb
   have hbz : ∀ b o, b < w.heap.size → wr.cell? ⟨b, o, none⟩ = w.cell? ⟨b, o, none⟩ := fun b o hb => (only_cell hgr (p := ⟨b, o, none⟩) (by dsimp only; omega) (by dsimp only; omega)).trans (HB.out.cell (p := ⟨b, o, none⟩) hb)
   have hq := hcell k al[k] (List.getElem?_eq_getElem hlk)
   have hty := HN.out.rng al[k] (List.getElem_mem hlk)
   have hps := HS.out.pos al[k] (List.getElem_mem hlk)
   try dsimp only at hty
   obtain ⟨⟨nm, ty, ps⟩, hx⟩ : ∃ x, al[k] = x := ⟨_, rfl⟩
   have hget : al[k]? = some ⟨nm, ty, ps⟩ := by rw [List.getElem?_eq_getElem hlk, hx]
   rw [hx] at hq hty hps
   dsimp only at hty hps
   obtain ⟨T, rfl⟩ : ∃ T : Nat, ty = (T : Int) := ⟨ty.toNat, by omega⟩
   rw [Int.toNat_natCast] at hty
   have e0 := (hbz _ _ hb).trans (hq 0 _ rfl)
   have e1 := (hbz _ _ hb).trans (hq 1 _ rfl)
   have e2 := (hbz _ _ hb).trans (hq 2 _ rfl)
   rw [Nat.add_zero] at e0
   obtain ⟨b2, off2, rfl, hb2, hcell2⟩ := hTY (by omega)
   dsimp only [Lt] at hb2
   obtain ⟨q, _, hq2⟩ := hcell2 T types[T] (List.getElem?_eq_getElem hty)
   have hnm := HS.out.ty types[T] (List.getElem_mem hty)
   obtain ⟨y, hy⟩ : ∃ y, types[T] = y := ⟨_, rfl⟩
   have hget2 : types[T]? = some y := by rw [List.getElem?_eq_getElem hty, hy]
   rw [hy] at hq2 hnm
   have d2 := (hbz _ _ hb2).trans (hq2 2 _ rfl)
   try dsimp only at d2
   have hf0 := hBc.frozen k
   have hkc : k < cur.length := by rw [HC.out]; simp; have := HON.out; omega
   have hc0 := (hBc.cell k).trans (ivs_get cur k hkc)
   obtain ⟨cv, hcv⟩ : ∃ cv, cur[k] = cv := ⟨_, rfl⟩
   rw [hcv] at hc0
   have hon1 : (onL ⟨nodes, types, al⟩)[k]? = some (match firstA al y.name with | some k => (k : Int) | none => -1) := by
    unfold onL
    rw [List.getElem?_map]
    dsimp only
    rw [hget]
    simp only [Option.map_some]
    unfold onA
    dsimp only
    rw [Int.toNat_natCast, hget2]
    rfl
   have HO1 := Lib.hid hon1
   have hb2w : b2 < wr.heap.size := by omega
   have hzw : w.heap.size < wr.heap.size := by omega
   have hMz : M ≠ w.heap.size + 1 := by omega
   have hownr := ((hown0.kept hgr (fun e => hMz (by injection e))).setCell (a := ⟨w.heap.size + 1, k, none⟩) hMz (.int .i64 (-1))).alloc (.cells #[.string nm, .int .i64 (T : Int), .int .i64 ps] 77)
   have hB1 : Blk ((wr.setCell ⟨w.heap.size + 1, k, none⟩ (.int .i64 (-1))).alloc (.cells #[.string nm, .int .i64 (T : Int), .int .i64 ps] 77)) (w.heap.size + 1) 3 (ivs (cur.set k (-1))) := by rw [← ivs_set]; exact (hBc.set_ k _).alloc _
   have hg1 : W0.grownBy ((wr.setCell ⟨w.heap.size + 1, k, none⟩ (.int .i64 (-1))).alloc (.cells #[.string nm, .int .i64 (T : Int), .int .i64 ps] 77)) (some (w.heap.size + 1)) := only_alloc (only_setCell hgr (.inl rfl) _) _
   have hBc' := hBc
   have HB1 := Lib.hid hB1
   have HG1 := Lib.hid hg1
   clear hon1 hget hget2 hy hq2 hcell2 hx hq hcell hbz hAL hTY hcv hX0 hXr hB1 hg1 x0 x1 x2 x1' hZ0
   cases hf : firstA al y.name with
   | none =>
    have hlk2 := look_no hownr HM.out hnm hf
    clear hownr hown0
    go_wp2
    go_roundw
    case rel => exact ⟨k + 1, cur.set k (-1), by omega, by go_num, HB1.out, Lib.hid (by rw [HC.out]; exact fill_set _ _ _ HON.out hlk _ (by rw [HO1.out, hf])), HG1.out⟩
    case measure => simp [intOf]; omega
   | some a =>
    have hlk2 := look_yes hownr HM.out hnm hf
    have HB2 := Lib.hid (show Blk (((wr.setCell ⟨w.heap.size + 1, k, none⟩ (.int .i64 (-1))).setCell ⟨w.heap.size + 1, k, none⟩ (.int .i64 (a : Int))).alloc (.cells #[.string nm, .int .i64 (T : Int), .int .i64 ps] 77)) (w.heap.size + 1) 3 (ivs ((cur.set k (-1)).set k (a : Int))) by rw [← ivs_set, ← ivs_set]; exact ((hBc'.set_ k _).set_ k _).alloc _)
    have HG2 := Lib.hid (only_alloc (only_setCell (only_setCell hgr (p := ⟨w.heap.size + 1, k, none⟩) (.inl rfl) (.int .i64 (-1))) (p := ⟨w.heap.size + 1, k, none⟩) (.inl rfl) (.int .i64 (a : Int))) (.cells #[.string nm, .int .i64 (T : Int), .int .i64 ps] 77))
    clear hownr hown0
    go_wp2
    go_roundw
    case rel => exact ⟨k + 1, _, by omega, by go_num, HB2.out, Lib.hid (by rw [List.set_set, HC.out]; exact fill_set _ _ _ HON.out hlk _ (by rw [HO1.out, hf])), HG2.out⟩
    case measure => simp [intOf]; omega
  ·obtain rfl : k = al.length := by omega
   have hfin : cur = onL ⟨nodes, types, al⟩ := by rw [HC.out, Nat.sub_self, List.take_of_length_le (by rw [HON.out]; exact Nat.le_refl _)]; simp
   have hE : Below w.heap.size w wr := HB.out.grown hgr (by omega) (fun k e => by cases e; omega)
   have HE := Lib.hid hE
   have HF := Lib.hid hfin
   clear hfin hE hTY hAL hX0 hXr
   go_wp2
   go_ret
   exact ⟨w.heap.size + 1, by rw [HON.out]; rfl, by omega, by rw [← HF.out]; exact hBc, HE.out⟩
end Go.Proofs.YtjbdgjbmbohfmaaGreatDoor
