/-
  Texts of one seat, one behind the other: BVa6.
-/
import Derived.Test.YtgekmjkfnhogkaaMA16
import Derived.Test.YtgekmjkfnhogkaaMA15
import Derived.Test.YtgekmjkfnhogkaaMA25

set_option linter.unusedVariables false
set_option linter.unusedSimpArgs false
set_option maxRecDepth 100000
set_option maxHeartbeats 51200000
namespace Go.Proofs.Ytgekmjkfnhogkaa
open Go.ChangeShapes Go.WideShapes Go.ChangeAt Go.RowKit
theorem build_wf {fs:List Q.Fn} {ls:List (List (Option Q.Stk))} (hv:Q.verd fs=0) (hs:Q.Sols fs fs ls):∀ g ∈ buildB fs ls,WfG g:=fun g hg=>by
 obtain ⟨h1,h2,h3,h4⟩:=Q.verd_zero hv
 have hp:∀ x ∈ fs,x.params≤4:=fun x hx=>by
  unfold Q.bnd at h2
  rw [Bool.and_eq_true,List.all_eq_true] at h2
  have hb:=h2.2 x hx
  unfold Q.bndF at hb
  simp only [Bool.and_eq_true,decide_eq_true_eq] at hb
  exact hb.1.1
 obtain ⟨k,hk,he⟩:=List.getElem_of_mem hg
 have hlen:=build_len (fs:=fs) hs.1
 obtain ⟨f,hf⟩:∃ f,fs[k]?=some f:=⟨_,List.getElem?_eq_getElem (by omega)⟩
 obtain ⟨l,hl,hsol⟩:=hs.2 k f hf
 have h:=build_at hf hl
 rw [List.getElem?_eq_getElem hk,he] at h
 injection h with h
 rw [h]
 exact graph_wf (fnM_of hv (List.mem_of_getElem? hf) hsol) hp
theorem build_rdP {w:World} {base c:Nat} {A:Option Addr} {gs:List RG} {fs:List Q.Fn} {ls:List (List (Option Q.Stk))} (hv:Q.verd fs=0) (hs:Q.Sols fs fs ls)
  (ho:w.ownsRow base 45 8 (.slice A gs.length c) gs.length (rgc gs)) (he:∀ r ∈ gs,OwnB w base r) (hg:gs.map (·.gr)=buildB fs ls):RdP w w.heap.size A gs.length gs:=by
 have hwf:∀ r ∈ gs,WfG r.gr:=fun r hr=>build_wf hv hs r.gr (by rw [← hg];exact List.mem_map.2 ⟨r,hr,rfl⟩)
 have hval:=build_valid hv hs
 have hlen:gs.length=(buildB fs ls).length:=by rw [← hg];simp
 refine ⟨Reads.of_own ho,rfl,fun r hr=>?_,hwf,by have:=hval.1.2;omega⟩
 have h:=he r hr
 refine ⟨Reads.of_own h.po,Reads.of_own h.ko,Reads.of_own h.io,⟨Reads.of_own h.no,by rw [← h.nd,length_nds],fun i hi=>⟨Reads.of_own (h.ar i hi),own_cap (h.ar i hi)⟩,fun i hi=>(hwf r hr).nodes i.nd (by rw [← h.nd];exact List.mem_map.2 ⟨i,hi,rfl⟩)⟩,h.nd,own_cap h.po⟩
theorem build_right {w:World} {base c:Nat} {A:Option Addr} {gs:List RG} {fs:List Q.Fn} {ls:List (List (Option Q.Stk))} (hv:Q.verd fs=0) (hs:Q.Sols fs fs ls)
  (ho:w.ownsRow base 45 8 (.slice A gs.length c) gs.length (rgc gs)) (he:∀ r ∈ gs,OwnB w base r) (hg:gs.map (·.gr)=buildB fs ls) :
  Calls Try.prog 11 #[.agg #[.slice A gs.length c],.bool false] w fun e w'=>e=.returned (.bool true)∧Below w.heap.size w w':=by
 have h:=rright_any w.heap.size A gs.length c gs false w (build_rdP hv hs ho he hg) (Nat.le_refl _)
 have hval:=build_valid hv hs
 have e:grs gs=buildB fs ls:=hg
 rw [e] at h
 refine h.mono ?_
 intro e w' hh
 simpa [hval] using hh
end Go.Proofs.Ytgekmjkfnhogkaa
