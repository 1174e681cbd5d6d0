/-
  The document's node and head, any of them.
-/
import Derived.Test.YtihfihockobpjaaRna
import Derived.Test.YtihfihockobpjaaRnb
import Derived.Test.YtihfihockobpjaaRnc
import Derived.Test.YtihfihockobpjaaRnd
import Derived.Test.YtihfihockobpjaaRne
import Derived.Test.YtihfihockobpjaaRca
import Derived.Test.YtihfihockobpjaaRcd
import Derived.Test.YtihfihockobpjaaRha
import Derived.Test.YtihfihockobpjaaRhb
namespace Go.Proofs.Ytihfihockobpjaa
set_option linter.unusedVariables false
set_option linter.unusedSimpArgs false
open Go.ChangeShapes Go.WideShapes Go.ChangeAt Go.RowKit

set_option maxRecDepth 100000 in
theorem rnode_none (gs : List Gr) (g : Gr) (fo : Option Addr) (nF cF : Nat) (po ko io no : Option Addr) (nP pc nK kc nI ic nN nc : Nat) (cells keep entry : Int) (res bd : Bool) (op bop d e a b f cell imm : Int) (args : List Int) (nx el : Int) (ao : Option Addr) (nA ac : Nat) (w : World) (hk1 : ∀ k ∈ g.kinds, k = 0 ∨ k = 1) (ho0 : 0 ≤ op) (ho1 : op ≤ 255) (ho : op < 1 ∨ 18 < op) :
    Calls Try.prog 23 #[.slice fo nF cF, .agg #[.slice po nP pc, .slice ko nK kc, .int .i64 cells, .slice io nI ic, .bool res, .int .i64 keep, .slice no nN nc, .int .i64 entry], .bool bd, .agg #[.int .u8 op, .int .u8 bop, .int .i64 d, .int .i64 e, .int .i64 a, .int .i64 b, .int .i64 f, .int .i64 cell, .int .u64 imm, .slice ao nA ac, .int .i64 nx, .int .i64 el]] w fun ee w' => ee = .returned (.bool (decide (nodeHolds gs g bd ⟨op, bop, d, e, a, b, f, cell, imm, args, nx, el⟩))) ∧ Below w.heap.size w w' := by
  have HB2 : Hid (Below w.heap.size w ((w.alloc (.cells #[.slice po nP pc, .slice ko nK kc, .int .i64 cells, .slice io nI ic, .bool res, .int .i64 keep, .slice no nN nc, .int .i64 entry] 45)).alloc (.cells #[.int .u8 op, .int .u8 bop, .int .i64 d, .int .i64 e, .int .i64 a, .int .i64 b, .int .i64 f, .int .i64 cell, .int .u64 imm, .slice ao nA ac, .int .i64 nx, .int .i64 el] 38))) := ((Below.refl _ _).alloc (Nat.le_refl _) _).alloc (by simp) _
  have HD : Hid (decide (nodeHolds gs g bd ⟨op, bop, d, e, a, b, f, cell, imm, args, nx, el⟩) = false) := Lib.hid (by
    rw [decide_eq_false_iff_not, ← rnode_eq hk1 ho0 ho1]
    rintro ⟨⟨h1, h2⟩, _⟩
    have h1 : 1 ≤ op := h1
    have h2 : op ≤ 18 := h2
    omega)
  by_cases h : op < 1
  · have q : decide (op < 1) = true := by simpa using h
    go_enter Try.func23, Try.ntmps23
    go_wp2
    go_ret
    exact ⟨by rw [HD.out]; rfl, HB2.out⟩
  · have q : decide (op < 1) = false := by simpa using h
    have q2 : decide (op > 18) = true := by simp; omega
    go_enter Try.func23, Try.ntmps23
    go_wp2
    go_ret
    exact ⟨by rw [HD.out]; rfl, HB2.out⟩

theorem rnode_any (B : Nat) (rs : List RG) (r : RG) (i : RN) (fo : Option Addr) (nF cF : Nat) (bd : Bool) (w : World) (HF0 : RdP w B fo nF rs) (hg : RdG w B r) (hwg : WfG r.gr) (hi : RdN w B i) (hwi : WfN i.nd) (hB : B ≤ w.heap.size) (hk1 : ∀ k ∈ r.gr.kinds, k = 0 ∨ k = 1) (hh : ∀ g ∈ grs rs, headHolds g bd) :
    Calls Try.prog 23 #[.slice fo nF cF, .agg #[.slice r.po r.gr.params.length r.pc, .slice r.ko r.gr.kinds.length r.kc, .int .i64 r.gr.cells, .slice r.io r.gr.init.length r.ic, .bool r.gr.result, .int .i64 r.gr.keep, .slice r.no r.gr.nodes.length r.nc, .int .i64 r.gr.entry], .bool bd, .agg #[.int .u8 i.nd.op, .int .u8 i.nd.bop, .int .i64 i.nd.d, .int .i64 i.nd.e, .int .i64 i.nd.a, .int .i64 i.nd.b, .int .i64 i.nd.f, .int .i64 i.nd.cell, .int .u64 i.nd.imm, .slice i.ao i.nd.args.length i.ac, .int .i64 i.nd.next, .int .i64 i.nd.els]] w fun ee w' => ee = .returned (.bool (decide (nodeHolds (grs rs) r.gr bd i.nd))) ∧ Below w.heap.size w w' := by
  obtain ⟨⟨op, bop, d, e, a, b, f, cell, imm, args, nx, el⟩, ao, ac⟩ := i
  have ho0 := hwi.o0
  have ho1 := hwi.o1
  have hal := hwi.al
  have hkl := hwg.kl
  have ha := hi.args
  simp only at ho0 ho1 hal ha
  rcases op_cases ho0 ho1 with rfl | rfl | rfl | rfl | rfl | rfl | rfl | rfl | rfl | rfl | rfl | rfl | rfl | rfl | rfl | rfl | rfl | rfl | h
  · exact rnode_1 B rs r.gr.params r.gr.kinds r.gr.init r.gr.nodes fo nF cF r.po r.ko r.io r.no _ r.pc _ r.kc _ r.ic _ r.nc r.gr.cells r.gr.keep r.gr.entry r.gr.result bd bop d e a b f cell imm args nx el ao _ ac w HF0 hg.kinds rfl (by omega) ha rfl (by omega) hB hk1 hh rfl
  · exact rnode_2 B rs r.gr.params r.gr.kinds r.gr.init r.gr.nodes fo nF cF r.po r.ko r.io r.no _ r.pc _ r.kc _ r.ic _ r.nc r.gr.cells r.gr.keep r.gr.entry r.gr.result bd bop d e a b f cell imm args nx el ao _ ac w HF0 hg.kinds rfl (by omega) ha rfl (by omega) hB hk1 hh rfl
  · exact rnode_3 B rs r.gr.params r.gr.kinds r.gr.init r.gr.nodes fo nF cF r.po r.ko r.io r.no _ r.pc _ r.kc _ r.ic _ r.nc r.gr.cells r.gr.keep r.gr.entry r.gr.result bd bop d e a b f cell imm args nx el ao _ ac w HF0 hg.kinds rfl (by omega) ha rfl (by omega) hB hk1 hh rfl
  · exact rnode_4 B rs r.gr.params r.gr.kinds r.gr.init r.gr.nodes fo nF cF r.po r.ko r.io r.no _ r.pc _ r.kc _ r.ic _ r.nc r.gr.cells r.gr.keep r.gr.entry r.gr.result bd bop d e a b f cell imm args nx el ao _ ac w HF0 hg.kinds rfl (by omega) ha rfl (by omega) hB hk1 hh rfl
  · exact rnode_5 B rs r.gr.params r.gr.kinds r.gr.init r.gr.nodes fo nF cF r.po r.ko r.io r.no _ r.pc _ r.kc _ r.ic _ r.nc r.gr.cells r.gr.keep r.gr.entry r.gr.result bd bop d e a b f cell imm args nx el ao _ ac w HF0 hg.kinds rfl (by omega) ha rfl (by omega) hB hk1 hh rfl
  · exact rnode_6 B rs r.gr.params r.gr.kinds r.gr.init r.gr.nodes fo nF cF r.po r.ko r.io r.no _ r.pc _ r.kc _ r.ic _ r.nc r.gr.cells r.gr.keep r.gr.entry r.gr.result bd bop d e a b f cell imm args nx el ao _ ac w HF0 hg.kinds rfl (by omega) ha rfl (by omega) hB hk1 hh rfl
  · exact rnode_7 B rs r.gr.params r.gr.kinds r.gr.init r.gr.nodes fo nF cF r.po r.ko r.io r.no _ r.pc _ r.kc _ r.ic _ r.nc r.gr.cells r.gr.keep r.gr.entry r.gr.result bd bop d e a b f cell imm args nx el ao _ ac w HF0 hg.kinds rfl (by omega) ha rfl (by omega) hB hk1 hh rfl
  · exact rnode_8 B rs r.gr.params r.gr.kinds r.gr.init r.gr.nodes fo nF cF r.po r.ko r.io r.no _ r.pc _ r.kc _ r.ic _ r.nc r.gr.cells r.gr.keep r.gr.entry r.gr.result bd bop d e a b f cell imm args nx el ao _ ac w HF0 hg.kinds rfl (by omega) ha rfl (by omega) hB hk1 hh rfl
  · exact rnode_9 B rs r.gr.params r.gr.kinds r.gr.init r.gr.nodes fo nF cF r.po r.ko r.io r.no _ r.pc _ r.kc _ r.ic _ r.nc r.gr.cells r.gr.keep r.gr.entry r.gr.result bd bop d e a b f cell imm args nx el ao _ ac w HF0 hg.kinds rfl (by omega) ha rfl (by omega) hB hk1 hh rfl
  · exact rnode_10 B rs r.gr.params r.gr.kinds r.gr.init r.gr.nodes fo nF cF r.po r.ko r.io r.no _ r.pc _ r.kc _ r.ic _ r.nc r.gr.cells r.gr.keep r.gr.entry r.gr.result bd bop d e a b f cell imm args nx el ao _ ac w HF0 hg.kinds rfl (by omega) ha rfl (by omega) hB hk1 hh rfl
  · exact rnode_11 B rs r.gr.params r.gr.kinds r.gr.init r.gr.nodes fo nF cF r.po r.ko r.io r.no _ r.pc _ r.kc _ r.ic _ r.nc r.gr.cells r.gr.keep r.gr.entry r.gr.result bd bop d e a b f cell imm args nx el ao _ ac w HF0 hg.kinds rfl (by omega) ha rfl (by omega) hB hk1 hh rfl
  · exact rnode_12 B rs r.gr.params r.gr.kinds r.gr.init r.gr.nodes fo nF cF r.po r.ko r.io r.no _ r.pc _ r.kc _ r.ic _ r.nc r.gr.cells r.gr.keep r.gr.entry r.gr.result bd bop d e a b f cell imm args nx el ao _ ac w HF0 hg.kinds rfl (by omega) ha rfl (by omega) hB hk1 hh rfl
  · exact rnode_13 B rs r.gr.params r.gr.kinds r.gr.init r.gr.nodes fo nF cF r.po r.ko r.io r.no _ r.pc _ r.kc _ r.ic _ r.nc r.gr.cells r.gr.keep r.gr.entry r.gr.result bd bop d e a b f cell imm args nx el ao _ ac w HF0 hg.kinds rfl (by omega) ha rfl (by omega) hB hk1 hh rfl
  · exact rnode_14 B rs r.gr.params r.gr.kinds r.gr.init r.gr.nodes fo nF cF r.po r.ko r.io r.no _ r.pc _ r.kc _ r.ic _ r.nc r.gr.cells r.gr.keep r.gr.entry r.gr.result bd bop d e a b f cell imm args nx el ao _ ac w HF0 hg.kinds rfl (by omega) ha rfl (by omega) hB hk1 hh rfl
  · exact rnode_15 B rs r.gr.params r.gr.kinds r.gr.init r.gr.nodes fo nF cF r.po r.ko r.io r.no _ r.pc _ r.kc _ r.ic _ r.nc r.gr.cells r.gr.keep r.gr.entry r.gr.result bd bop d e a b f cell imm args nx el ao _ ac w HF0 hg.kinds rfl (by omega) ha rfl (by omega) hB hk1 hh rfl
  · exact rnode_16 B rs r.gr.params r.gr.kinds r.gr.init r.gr.nodes fo nF cF r.po r.ko r.io r.no _ r.pc _ r.kc _ r.ic _ r.nc r.gr.cells r.gr.keep r.gr.entry r.gr.result bd bop d e a b f cell imm args nx el ao _ ac w HF0 hg.kinds rfl (by omega) ha rfl (by omega) hB hk1 hh rfl
  · exact rnode_17 B rs r.gr.params r.gr.kinds r.gr.init r.gr.nodes fo nF cF r.po r.ko r.io r.no _ r.pc _ r.kc _ r.ic _ r.nc r.gr.cells r.gr.keep r.gr.entry r.gr.result bd bop d e a b f cell imm args nx el ao _ ac w HF0 hg.kinds rfl (by omega) ha rfl (by omega) hB hk1 hh rfl
  · exact rnode_18 B rs r.gr.params r.gr.kinds r.gr.init r.gr.nodes fo nF cF r.po r.ko r.io r.no _ r.pc _ r.kc _ r.ic _ r.nc r.gr.cells r.gr.keep r.gr.entry r.gr.result bd bop d e a b f cell imm args nx el ao _ ac w HF0 hg.kinds rfl (by omega) ha rfl (by omega) hB hk1 hh rfl
  · exact rnode_none (grs rs) r.gr fo nF cF r.po r.ko r.io r.no _ r.pc _ r.kc _ r.ic _ r.nc r.gr.cells r.gr.keep r.gr.entry r.gr.result bd op bop d e a b f cell imm args nx el ao _ ac w hk1 ho0 ho1 (by omega)
theorem rhead_any (B : Nat) (r : RG) (bd : Bool) (w : World) (h : RdG w B r) (hw : WfG r.gr) (hB : B ≤ w.heap.size) :
    Calls Try.prog 22 #[.agg #[.slice r.po r.gr.params.length r.pc, .slice r.ko r.gr.kinds.length r.kc, .int .i64 r.gr.cells, .slice r.io r.gr.init.length r.ic, .bool r.gr.result, .int .i64 r.gr.keep, .slice r.no r.gr.nodes.length r.nc, .int .i64 r.gr.entry], .bool bd] w fun e w' => e = .returned (.bool (decide (headHolds r.gr bd))) ∧ Below w.heap.size w w' := by
  have h1 := hw.pl
  have h2 := hw.kl
  have h3 := hw.il
  have h4 := hw.nl
  cases bd
  · exact rhead_false B r.gr.params r.gr.kinds r.gr.init r.gr.nodes r.po r.ko r.io r.no _ r.pc _ r.kc _ r.ic _ r.nc r.gr.cells r.gr.keep r.gr.entry r.gr.result w h.params rfl h.pcap (by omega) h.kinds rfl (by omega) h.init rfl (by omega) rfl (by omega) hw.kinds hB
  · exact rhead_true B r.gr.params r.gr.kinds r.gr.init r.gr.nodes r.po r.ko r.io r.no _ r.pc _ r.kc _ r.ic _ r.nc r.gr.cells r.gr.keep r.gr.entry r.gr.result w h.params rfl h.pcap (by omega) h.kinds rfl (by omega) h.init rfl (by omega) rfl (by omega) hw.kinds hB
end Go.Proofs.Ytihfihockobpjaa
