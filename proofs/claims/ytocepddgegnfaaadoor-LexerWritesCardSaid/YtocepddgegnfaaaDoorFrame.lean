/- What the rows' conditions give the walks: the two tables, and a text for each slice of bytes. -/
import Derived.Test.YtocepddgegnfaaaDoorLexer
import Derived.Test.YtocepddgegnfaaaDoorCards
import Derived.Test.YtocepddgegnfaaaDoorTie
import Derived.ProofKit
import Derived.OpenShut
import Derived.LaidMore
import Derived.Lay
import Derived.PinnedBridge
import Derived.Lib.LaidU8T
import Derived.Stop.Joined
import Derived.SevenTiedAt
import Derived.Stop.LaidErr
namespace Go.Proofs.YtocepddgegnfaaaDoor
open Go Go.Proofs Go.RowKit Go.Shelf Go.Lib
open Go.ChangeShapes Go.WideShapes Go.ChangeAt

theorem own : ownKnob Tryd.prog.godebug = none := by kernel_rfl
theorem laidOut : laidOutB Tryd.prog = true := by kernel_rfl

def laid2 : List (String × DataW Unit) := Rows.lexerLongRow.laid

/-- The numbers of this dump's types and tables. -/
def tabRen : Ren := ⟨fun n => n, fun | 5 => 5 | 119 => 80 | 138 => 82 | 139 => 83 | n => n, fun | 3 => 0 | 4 => 1 | n => n⟩
theorem tabTypes : U8Types Tryd.prog tabRen := ⟨by kernel_rfl, by kernel_rfl, by kernel_rfl, by kernel_rfl⟩
theorem tabExtra : U8Extra Tryd.prog tabRen := ⟨by kernel_rfl, by kernel_rfl, by kernel_rfl, by kernel_rfl, by kernel_rfl, by kernel_rfl, by kernel_rfl⟩
theorem accept_eq : (Rows.laid_unicode_utf8_acceptRanges : DataW Unit) = acceptData := by kernel_rfl
theorem first_eq : Rows.laid_unicode_utf8_first = firstData := Pinned.utf8First_eq

theorem gER : Tryd.prog.globalNamed "strconv.ErrRange" = some 5 := by kernel_rfl
theorem gERType : (Tryd.prog.globals[5]?).map (·.type) = some 70 := by kernel_rfl
theorem cells103 : Tryd.prog.cellsOf 103 = 1 := by kernel_rfl
theorem cells9 : Tryd.prog.cellsOf 9 = 1 := by kernel_rfl
/-- The name of the error's type, out of the row's own cell. -/
def nmES : String := match (Rows.laid_strconv_ErrRange : DataW Unit) with
  | .iface n _ => n
  | _ => ""
theorem row101 (u : TypeId) (h : Tryd.prog.typeName? 3 u = some nmES) : u = 101 :=
  typeName_ptr_named (nm := "errors.errorString") (by kernel_rfl) (by kernel_rfl) (by decide) u (h.trans (congrArg some (by kernel_rfl)))
theorem env_of_laid {W : World} (h : laidMetH Tryd.prog laid2 W) : Env W := by
  rw [MakeChecks.laidMetH_plain _ _ _ (by kernel_rfl)] at h
  have hT : Lib.Utf8Tabs 0 1 W := utf8Tabs_of_readsT (ρ := tabRen) tabTypes tabExtra (first_eq ▸ Lib.laidMet.reads h (.tail _ (.tail _ (.tail _ (.tail _ (.tail _ (.tail _ (.head _)))))))) (accept_eq ▸ Lib.laidMet.reads h (.tail _ (.tail _ (.tail _ (.head _)))))
  obtain ⟨a, s, hv, _⟩ := laid_sentinel (h.tail.tail.tail.tail) gER gERType Tryd.underlying70 row101 Tryd.underlying101 Tryd.underlying103 rfl rfl Tryd.underlying9 cells103 cells9
  have hc : W.cell? ⟨5, 0, none⟩ = some (.iface 101 (.pointer (some a))) := by
    have := World.var?_cell gER hv 0
    simpa using this
  exact ⟨hT, ⟨101, _, hc⟩, by have := block_lt_of_cell hc; dsimp only at this; omega⟩

/-- What the walk is told of a slice of bytes that came in. -/
def IsRow (w : World) (a : Option Addr) (len cap : Nat) (zs : List Int) : Prop :=
  (a = none ∧ len = 0 ∧ cap = 0 ∧ zs = []) ∨
  ∃ x, a = some x ∧ len ≤ cap ∧ cap ≤ maxLen ∧ zs.length = cap ∧ (∀ i, i < zs.length → w.cell? (x.add i) = some (.int .u8 (zs.getD i 0))) ∧ ∀ n ∈ zs, (Lit.int .u8 n).wf = true

theorem text_of_row {w : World} {a : Option Addr} {len cap : Nat} {zs : List Int} (h : IsRow w a len cap zs) : ∃ l : List UInt8, l.length = len ∧ TextAt w.heap.size w (.slice a len cap) l := by
  rcases h with ⟨rfl, rfl, rfl, _⟩ | ⟨x, rfl, hlc, _, hz, hc, hw⟩
  · exact ⟨[], rfl, .inl ⟨none, 0, fun _ => rfl, rfl, rfl⟩⟩
  · by_cases h0 : len = 0
    · subst h0
      exact ⟨[], rfl, .inl ⟨some x, cap, (fun e => by cases e), rfl, rfl⟩⟩
    · obtain ⟨b, off, rfl, hcell⟩ := ints_at hc (by omega)
      have hlen : ((zs.take len).map fun n => UInt8.ofNat n.toNat).length = len := by simp; omega
      refine ⟨(zs.take len).map fun n => UInt8.ofNat n.toNat, hlen, .inr ⟨b, off, cap, by rw [hlen], ?_, by omega, ?_⟩⟩
      · have := block_lt_of_cell (hcell 0 (by omega))
        simpa using this
      · intro j hj
        rw [hlen] at hj
        have hjz : j < zs.length := by omega
        rw [hcell j hjz]
        have hm : zs[j] ∈ zs := List.getElem_mem hjz
        have hb := hw _ hm
        have hb' : 0 ≤ zs[j] ∧ zs[j] ≤ 255 := by simpa [Lit.wf, IntKind.min, IntKind.max, IntKind.signed, IntKind.bits] using hb
        simp [hj, hjz]
        omega

end Go.Proofs.YtocepddgegnfaaaDoor
