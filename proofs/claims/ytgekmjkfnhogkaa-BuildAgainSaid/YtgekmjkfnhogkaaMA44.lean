/-
  Texts of one seat, one behind the other: FStR.
-/
import Derived.Test.YtgekmjkfnhogkaaMA26

set_option linter.unusedVariables false
set_option linter.unusedSimpArgs false
set_option maxRecDepth 100000
set_option maxHeartbeats 51200000
namespace Go.Proofs.Ytgekmjkfnhogkaa
open Go.ChangeShapes Go.WideShapes Go.ChangeAt Go.RowKit
theorem step_ret {W w:World} {h:Wh} {s:One} {ev:Value} (B k:Nat) (rs:List RG) (r0:RG) (nd:RN) (r:RunI W h s ev w) (hG:RdP W B h.fo h.nF rs) (hB:B≤W.heap.size) (hnF:0<h.nF) (h0:rs[0]?=some r0) (hat:s.at_=k) (hkn:k<r0.gr.nodes.length) (hkm:k≤4096) (hnd:r0.ns[k]?=some nd) (hop:nd.nd.op=12) (hm:h.m≤1024) (hs0:0≤s.steps) (hs1:s.steps≤1048577) (ha:nd.nd.a=-1) :
  Calls Try.prog 24 #[.pointer (some ⟨h.rb,0,none⟩)] w fun e w'=>e=.returned (.tuple #[])∧FinI W h.rb 1 s.evs ev w':=by
 obtain ⟨at0,ends0,ret0,pl0,evs0,steps0⟩:=s
 simp only at hat hs0 hs1 ⊢
 subst hat
 have HR:=Lib.hid r
 have hrz:=r.below.size
 obtain ⟨bf,off,rg,hfe,hbf,HX,HRG,HWG,x0,x1,x2,x3,x4,x5,x6,x7⟩:=((hG.below (r.below.mono hB)).gr (k:=0) hnF)
 obtain rfl:r0=rg:=by
  have h:=HX.out
  rw [h0] at h
  injection h
 have hkn':k<r0.gr.nodes.length:=hkn
 obtain ⟨bn,on,nd2,hno,hbn,HXI,HRN,HWI,u0,u1,u2,u3,u4,u5,u6,u7,u8,u9,u10,u11⟩:=HRG.out.nodes.nd hkn'
 obtain rfl:nd=nd2:=by
  have h:=HXI.out
  rw [hnd] at h
  injection h
 rw [hop] at u0
 rw [ha] at u4
 rw [hno] at x6
 have HFE:=Lib.hid hfe
 have HDA:=Lib.hid ha
 clear ha
 have hstw:steps0+1≤9223372036854775807:=by omega
 -- region 0
 obtain ⟨a0,a1,a3,a6,a7,a8,a9,f0,f1,f2,f3,f4,f5,f6,f7,f8⟩:=r.cells
 have z9:w.frozen? ⟨h.rb,9,none⟩=false:=r.box.frozen 9
 have HR1:Hid (RunI W h ⟨k,ends0,ret0,pl0,evs0,steps0+1⟩ ev (w.setCell ⟨h.rb,9,none⟩ (.int .i64 (steps0+1)))):=Lib.hid (r.setR 9 _ rfl rfl rfl rfl)
 have hkp:KpN w (w.setCell ⟨h.rb,9,none⟩ (.int .i64 (steps0+1))) h.rb:=KpN.set w h.rb 9 _
 obtain ⟨w1,hw1⟩:∃ w1,w1=w.setCell ⟨h.rb,9,none⟩ (.int .i64 (steps0+1)):=⟨_,rfl⟩
 rw [← hw1] at HR1 hkp
 have hbr:W.heap.size≤h.rb:=r.hr
 have cu:∀ b o,b<B→w1.cell? ⟨b,o,none⟩=w.cell? ⟨b,o,none⟩:=fun b o hb=>hkp.cell (by omega)
 have CX:Hid (∀ wx,RunI W h ⟨k,ends0,ret0,pl0,evs0,steps0+1⟩ ev wx→wx.cell? ⟨bf,off+6,none⟩=some (.slice (some ⟨bn,on,none⟩) r0.gr.nodes.length r0.nc)∧wx.cell? ⟨bn,on+k*12,none⟩=some (.int .u8 12)∧wx.cell? ⟨bn,on+k*12+1,none⟩=some (.int .u8 nd.nd.bop)∧wx.cell? ⟨bn,on+k*12+2,none⟩=some (.int .i64 nd.nd.d)∧wx.cell? ⟨bn,on+k*12+3,none⟩=some (.int .i64 nd.nd.e)∧wx.cell? ⟨bn,on+k*12+4,none⟩=some (.int .i64 (-1))∧wx.cell? ⟨bn,on+k*12+5,none⟩=some (.int .i64 nd.nd.b)∧wx.cell? ⟨bn,on+k*12+6,none⟩=some (.int .i64 nd.nd.f)∧wx.cell? ⟨bn,on+k*12+7,none⟩=some (.int .i64 nd.nd.cell)∧wx.cell? ⟨bn,on+k*12+8,none⟩=some (.int .u64 nd.nd.imm)∧wx.cell? ⟨bn,on+k*12+9,none⟩=some (.slice nd.ao nd.nd.args.length nd.ac)∧wx.cell? ⟨bn,on+k*12+10,none⟩=some (.int .i64 nd.nd.next)∧wx.cell? ⟨bn,on+k*12+11,none⟩=some (.int .i64 nd.nd.els)):=Lib.hid fun wx rx=>by
  have e:∀ b o,b<B→wx.cell? ⟨b,o,none⟩=w.cell? ⟨b,o,none⟩:=fun b o hb=>((rx.below.cell (p:=⟨b,o,none⟩) (by show b<_;omega)).trans (r.below.cell (p:=⟨b,o,none⟩) (by show b<_;omega)).symm)
  refine ⟨(e _ _ hbf).trans (by simpa using x6),(e _ _ hbn).trans u0,(e _ _ hbn).trans u1,(e _ _ hbn).trans u2,(e _ _ hbn).trans u3,(e _ _ hbn).trans u4,(e _ _ hbn).trans u5,(e _ _ hbn).trans u6,(e _ _ hbn).trans u7,(e _ _ hbn).trans u8,(e _ _ hbn).trans u9,(e _ _ hbn).trans u10,(e _ _ hbn).trans u11⟩
 clear x0 x1 x2 x3 x4 x5 x6 x7 u0 u1 u2 u3 u4 u5 u6 u7 u8 u9 u10 u11 cu hkp hG HX HRG HWG HXI HRN
 go_enter Try.func24,Try.ntmps24
 go_upto_region 1 with fail
 rw [← hw1]
 clear hw1 a0 a1 a3 a6 a7 a8 a9 f0 f1 f2 f3 f4 f5 f6 f7 f8 z9 r
 obtain ⟨a0,a1,a3,a6,a7,a8,a9,f0,f1,f2,f3,f4,f5,f6,f7,f8⟩:=HR1.out.cells
 go_quiet (fail)
 obtain ⟨w2,hw2⟩:∃ w2,w2=w1.drewN nq:=⟨_,rfl⟩
 have HR2:Hid (RunI W h ⟨k,ends0,ret0,pl0,evs0,steps0+1⟩ ev w2):=Lib.hid (by rw [hw2];exact HR1.out.dn nq)
 rw [← hw2]
 clear hw2 a0 a1 a3 a6 a7 a8 a9 f0 f1 f2 f3 f4 f5 f6 f7 f8
 go_upto_region 2 with fail
 go_cut [3] (fun s3 wx=>∃ q:Nat,s3=.pointer (some ⟨q,0,none⟩)∧Hid (Blk wx q 70 #[.int .u8 12,.int .u8 nd.nd.bop,.int .i64 nd.nd.d,.int .i64 nd.nd.e,.int .i64 (-1),.int .i64 nd.nd.b,.int .i64 nd.nd.f,.int .i64 nd.nd.cell,.int .u64 nd.nd.imm,.slice nd.ao nd.nd.args.length nd.ac,.int .i64 nd.nd.next,.int .i64 nd.nd.els])∧Hid (RunI W h ⟨k,ends0,ret0,pl0,evs0,steps0+1⟩ ev wx))
 case first =>
  obtain ⟨a0,a1,a3,a6,a7,a8,a9,f0,f1,f2,f3,f4,f5,f6,f7,f8⟩:=HR2.out.cells
  obtain ⟨t6,n0,n1,n2,n3,n4,n5,n6,n7,n8,n9,n10,n11⟩:=CX.out w2 HR2.out
  have hrb:h.rb<w2.heap.size:=HR2.out.box.lt
  have hfb:h.fb<w2.heap.size:=(own_block_le HR2.out.row rfl).2
  have hw2z:=HR2.out.below.size
  have hbf2:bf<w2.heap.size:=by omega
  have hbn2:bn<w2.heap.size:=by omega
  rw [hfe] at a0
  clear hfe
  go_region
  all_goals
   go_wp2_with fail
   go_meet
   have hb:Below w2.heap.size w2 w2:=Below.refl _ _
   exact ⟨_,rfl,Lib.hid (Blk.new w2 70 _).drew,Lib.hid (HR2.out.on ((hb.alloc (Nat.le_refl _) _).drew))⟩
 case rest =>
  obtain ⟨q,rfl,HNB,HR3⟩:=hcut
  clear HR2 HR1 CX
  have v0:wc.cell? ⟨q,0,none⟩=some (.int .u8 12):=HNB.out.cell 0
  have v2:wc.cell? ⟨q,2,none⟩=some (.int .i64 nd.nd.d):=HNB.out.cell 2
  have v4:wc.cell? ⟨q,4,none⟩=some (.int .i64 (-1)):=HNB.out.cell 4
  have v8:wc.cell? ⟨q,8,none⟩=some (.int .u64 nd.nd.imm):=HNB.out.cell 8
  have v10:wc.cell? ⟨q,10,none⟩=some (.int .i64 nd.nd.next):=HNB.out.cell 10
  have z6:wc.frozen? ⟨h.fb,6,none⟩=false:=HR3.out.row.frozenAt 6
  obtain ⟨a0,a1,a3,a6,a7,a8,a9,f0,f1,f2,f3,f4,f5,f6,f7,f8⟩:=HR3.out.cells
  have HE:Hid (RunI W h ⟨k,true,ret0,pl0,evs0,steps0+1⟩ ev (wc.setCell ⟨h.fb,6,none⟩ (.bool true))):=Lib.hid (HR3.out.setF 6 (.bool true) rfl rfl rfl rfl)
  have HST:=Lib.hid (settle_one HE.out rfl)
  go_wp2_with (go_at_call 51;refine HST.out.mono ?_;rintro e w5 ⟨rfl,hf5⟩;have HF5:=Lib.hid hf5;clear hf5)
  first | go_end0 | go_ret | (refine bodyPost_ret (v:=.tuple #[]) (by simp [results,Try.func24]) rfl ?_)
  exact ⟨rfl,HF5.out⟩
end Go.Proofs.Ytgekmjkfnhogkaa
