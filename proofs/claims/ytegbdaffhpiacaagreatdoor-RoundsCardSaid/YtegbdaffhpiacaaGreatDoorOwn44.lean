/- A search in memory: model, Run. -/
import Derived.Test.YtegbdaffhpiacaaGreatDoorOwn43
import Derived.Test.YtegbdaffhpiacaaGreatDoorOwn39
namespace Go.Proofs.YtegbdaffhpiacaaGreatDoor
open Go.RowKit Ar
attribute [local go_sem] assertE assertS assertM mExplain mAssume mBack mSplit mModel
section
variable {B:Nat} {w w':World} {sb hb g:Nat} {c:ThV} {TK:List TKey} {AK:List PA} {tw:List (Nat × Nat)} {tv lv:Value} {tr:List St} {As:List (PA × Bool)} {ls:List (List (BitVec 64))} {TT:List Tab} {X:Tab} {F:Fx}
set_option maxRecDepth 100000 in
set_option maxHeartbeats 1000000 in
theorem seModel_any (h:SrR B w sb hb g c TK AK tw tv lv tr As ls (TT++[X])) (hT:TK.length≤12) (hl:TT.length≤500) :
  Calls Tryz.prog 95 #[.pointer (some ⟨sb,0,none⟩)] w fun e w'=>∃ v,e=.returned v∧Ext (fun _=>False) w w'∧v.ownBlock=some w.heap.size∧w'.ownsRow 0 3 1 v TK.length ((List.range TK.length).map fun i=>.int .i64 (X.t.by_ i TK.length)):=by
 have kb:=h.blk
 have c0:=cell_of_block kb 0
 have HM:=hide (thModel_any h.th hT hl)
 clear h kb
 go_enter Tryz.func95,Tryz.ntmps95
 go_wp2_with fail
 refine HM.out.mono ?_
 rintro e w1 ⟨v,rfl,h1,h2,h3⟩
 have H1:=hide (And.intro h1 (And.intro h2 h3))
 clear h1 h2 h3
 go_wp2_with fail
 go_ret
 exact ⟨v,rfl,H1.out⟩
theorem run_made {l:List (BitVec 64)} {b cap:Nat} {o:Obj} {V:World} (hth:ThR w hb g c TK AK tw [] [X]) (hws:WS w b (.slice (some ⟨b,0,none⟩) l.length cap) l) (hll:l.length=2 ^ (AK.length - 6)) (hp:PatLaid w) (hB:1 < B) (hB2:B≤w.heap.size) (hB3:B≤hb∧B≤g) (hB4:∀ k,c.sv.ownBlock=some k→B≤k)
  (hV:((w.alloc o).alloc (.cells #[.slice (some ⟨b,0,none⟩) l.length cap] 136)).alloc (.cells #[.iface 139 (.pointer (some ⟨hb,0,none⟩)),.int .i64 AK.length,.slice none 0 0,.slice (some ⟨w.heap.size+1,0,none⟩) 1 1] 187)=V) :
  Ext (fun _=>False) w V∧V.heap[w.heap.size]?=some o∧SrR B V (w.heap.size+1+1) hb g c TK AK tw (.slice none 0 0) (.slice (some ⟨w.heap.size+1,0,none⟩) 1 1) [] [] [l] [X]:=by
 have s1:=alloc_sz w o
 have s2:=alloc_sz (w.alloc o) (.cells #[.slice (some ⟨b,0,none⟩) l.length cap] 136)
 have k0:=heap_alloc_new w o
 have k1:=heap_alloc_new (w.alloc o) (.cells #[.slice (some ⟨b,0,none⟩) l.length cap] 136)
 have k2:=heap_alloc_new ((w.alloc o).alloc (.cells #[.slice (some ⟨b,0,none⟩) l.length cap] 136)) (.cells #[.iface 139 (.pointer (some ⟨hb,0,none⟩)),.int .i64 AK.length,.slice none 0 0,.slice (some ⟨w.heap.size+1,0,none⟩) 1 1] 187)
 have x0:Ext (fun _=>False) w (w.alloc o):=(Ext.refl _ w).alloc _
 have x1:Ext (fun _=>False) (w.alloc o) ((w.alloc o).alloc (.cells #[.slice (some ⟨b,0,none⟩) l.length cap] 136)):=(Ext.refl _ _).alloc _
 have x2:Ext (fun _=>False) ((w.alloc o).alloc (.cells #[.slice (some ⟨b,0,none⟩) l.length cap] 136)) V:=by rw [← hV];exact (Ext.refl _ _).alloc _
 rw [s2,s1] at k2
 rw [s1] at k1 s2
 rw [hV] at k2
 have k1':=(x2.block _ (block_lt k1) (fun f=>f)).trans k1
 have k0':=(x2.block _ (by omega) (fun f=>f)).trans ((x1.block _ (block_lt k0) (fun f=>f)).trans k0)
 have hx:=x0.trans (x1.trans x2)
 refine ⟨hx,k0',?_⟩
 have hws':=hws.ext hx (fun f=>f)
 exact ⟨k2,⟨rfl,.inl ⟨rfl,rfl⟩⟩,⟨[.slice (some ⟨b,0,none⟩) l.length cap],⟨rfl,.inr ⟨_,1,_,rfl,Nat.zero_le _,k1',Nat.le_refl _,by decide,rfl,rfl⟩⟩,fun k l' hk=>by
   rcases k with _ | k
   ·obtain rfl:l=l':=by simpa using hk
    exact ⟨hll,b,_,rfl,hws'⟩
   ·simp at hk⟩,hth.ext hx (fun _ _ f=>f),hp.ext hx (fun f=>f),hB,by have:=hx.size;omega,⟨by omega,hB3⟩,fun k hk=>by
   rcases hk with hk | hk | hk
   ·exact hB4 k hk
   ·simp [Value.ownBlock] at hk
   ·simp [Value.ownBlock] at hk;omega⟩
theorem below_two {W:World} {k:Nat} (h:Below B w W) (hB:B≤W.heap.size) (hk:B≤k) (u v:Value):Below B w ((W.setCell ⟨k,0,none⟩ u).setCell ⟨k,1,none⟩ v):=by
 have hx:Ext (fun i=>i=k) W ((W.setCell ⟨k,0,none⟩ u).setCell ⟨k,1,none⟩ v):=((Ext.refl (fun i=>i=k) W).setCell (p:=⟨k,0,none⟩) (fun _=>rfl) _).setCell (p:=⟨k,1,none⟩) (fun _=>rfl) _
 exact h.trans ⟨hx.os,hx.tape,hx.output,hx.size,fun i hi=>hx.block i (by omega) (fun e=>by omega)⟩
theorem SrR.noAns {k:Nat} {C:Array Value} (h:SrR B w sb hb g c TK AK tw tv lv tr As ls TT) (hk:w.heap[k]?=some (.cells C 74)):¬SrF sb hb g c tv lv k:=by
 have own:∀ {e sz n:Nat} {v:Value} {xs:List Value},w.ownsRow 0 e sz v n xs→v.ownBlock=some k→e=74:=by
  intro e sz n v xs ho hv
  rcases ho.2 with ⟨rfl,_⟩ | ⟨g',cap,cur,rfl,_,hh,_⟩
  ·simp [Value.ownBlock] at hv
  ·obtain rfl:g' = k:=by simpa [Value.ownBlock] using hv
   rw [hk] at hh
   simp at hh
   exact hh.2.symm
 rintro (rfl | rfl | rfl | e | e | e)
 ·have:=h.blk
  rw [hk] at this
  simp at this
 ·have:=h.th.blk
  rw [hk] at this
  simp at this
 ·obtain ⟨_,_,_,hg,_⟩:=h.th.tb.ex
  rw [hk] at hg
  simp at hg
 ·exact absurd (own h.th.ss e) (by decide)
 ·exact absurd (own h.row e) (by decide)
 ·obtain ⟨_,ho,_⟩:=h.lf.ex
  exact absurd (own ho e) (by decide)
set_option maxRecDepth 100000 in
set_option maxHeartbeats 1000000 in
theorem seRun_any {l:List (BitVec 64)} {b:Nat} {v:Value} (hP:RunP F TK AK tw) (hth:ThR w hb g c TK AK tw [] [X]) (hG:ThG F [] X) (hws:WS w b v l) (hll:l.length=2 ^ (AK.length - 6)) (hp:PatLaid w) (hB:1 < B) (hB2:B≤w.heap.size) (hB3:B≤hb∧B≤g) (hB4:∀ k,c.sv.ownBlock=some k→B≤k) :
  Calls Tryz.prog 60 #[.iface 139 (.pointer (some ⟨hb,0,none⟩)),.int .i64 AK.length,v] w fun e w'=>∃ r mv,e=.returned (.agg #[.bool r,mv])∧Below B w w' ∧
   (r=true→∃ vals:Nat→Int,F.V vals∧(∃ x,x < nw AK∧wsHas l x=true∧isW (AK.map PA.at_) vals x)∧w'.ownsRow 0 3 1 mv TK.length ((List.range TK.length).map fun i=>.int .i64 (vals i))∧∀ k,mv.ownBlock=some k→B≤k) ∧
   (r=false→mv=.slice none 0 0∧∀ vals,F.V vals→∀ x,x < nw AK→wsHas l x=true→¬isW (AK.map PA.at_) vals x):=by
 obtain ⟨cap,cur,rfl,hcap,kws⟩:=hws.shape
 have hlk:l.length≤1024:=by
  rw [hll]
  have:=hP.a16
  exact Nat.pow_le_pow_right (n:=2) (by decide) (by omega:AK.length - 6≤10)
 obtain ⟨V,hV⟩:∃ V,((w.alloc (.cells #[.bool false,.slice none 0 0] 74)).alloc (.cells #[.slice (some ⟨b,0,none⟩) l.length cap] 136)).alloc (.cells #[.iface 139 (.pointer (some ⟨hb,0,none⟩)),.int .i64 AK.length,.slice none 0 0,.slice (some ⟨w.heap.size+1,0,none⟩) 1 1] 187)=V:=⟨_,rfl⟩
 obtain ⟨hx,k0,hS⟩:=run_made hth hws hll hp hB hB2 hB3 hB4 hV
 have HE:=hide (empty_any (hws.ext hx (fun f=>f)) hlk)
 have HX:=hide hx
 have HS:=hide hS
 have K0:=hide k0
 have HLL:=hide hll
 have HV:=hide hV
 have HG:=hide hG
 have HB:=hide (And.intro hB hB2)
 clear hth hws hx hS k0 hll hV hG hp hB hB3 hB4 kws hB2 hcap hlk
 go_enter Tryz.func60,Tryz.ntmps60
 go_wp2_with fail
 rw [HV.out]
 refine HE.out.mono ?_
 rintro e w1 ⟨rfl,r,rfl,hr⟩
 have HRR:=hide hr
 clear hr HE
 cases r with
 | true =>
  have k0:=K0.out
  have a0:=cell_of_block k0 0
  have a1:=cell_of_block k0 1
  have af0:=frozen_of_block k0 0
  have af1:=frozen_of_block k0 1
  have hkl:=block_lt k0
  clear k0
  go_wp2_with fail
  refine bodyPost_ret (v:=.agg #[.bool false,.slice none 0 0]) (by simp [results,Tryz.results60,go_sem,a0,a1]) rfl ⟨false,_,rfl,?_,fun e=>by simp at e,fun _=>⟨rfl,fun vals _ x hx hh=>?_⟩⟩
  ·exact below_two (below_ext HX.out HB.out.2) (by have:=HX.out.size;have:=HB.out.2;omega) HB.out.2 _ _
  ·have:=HRR.out.1 (by simp) x (by rw [HLL.out];exact hx)
   rw [this] at hh
   simp at hh
 | false =>
  have hex:∃ x,x < nw AK∧wsHas l x=true:=by
   refine Classical.byContradiction fun hno=>?_
   have:=HRR.out.2 (fun n hn=>by
    cases e:wsHas l n with
    | false=>rfl
    | true=>exact absurd ⟨n,by unfold nw;rw [← HLL.out];exact hn,e⟩ hno)
   simp at this
  have HRN:=hide (run_any (Kp:=fun k=>k=w.heap.size) hP HS.out (fun k e=>e ▸ HS.out.noAns K0.out) HG.out hex)
  clear hex
  go_wp2_with fail
  refine HRN.out.mono ?_
  rintro e w2 ⟨r,rfl,hbl,hkp,ht,hf⟩
  have k2:=hkp _ _ rfl K0.out
  have HBL:=hide hbl
  have HT:=hide ht
  have HF:=hide hf
  have a0:=cell_of_block k2 0
  have a1:=cell_of_block k2 1
  have af0:=frozen_of_block k2 0
  have af1:=frozen_of_block k2 1
  have hkl:=block_lt k2
  have K2:=hide k2
  clear hbl hkp ht hf k2 HRN
  cases r with
  | false =>
   go_wp2_with fail
   refine bodyPost_ret (v:=.agg #[.bool false,.slice none 0 0]) (by simp [results,Tryz.results60,go_sem,a0,a1]) rfl ⟨false,_,rfl,?_,fun e=>by simp at e,fun _=>⟨rfl,HF.out (by simp)⟩⟩
   exact below_two ((below_ext HX.out HB.out.2).trans HBL.out) (by have:=HX.out.size;have:=HBL.out.size;have:=HB.out.2;omega) HB.out.2 _ _
  | true =>
   obtain ⟨g3,c3,tv3,lv3,tr3,ls3,T3,X3,hS3,hT3,hl3,hV3,hx3⟩:=HT.out rfl
   have hA:=hP.a16
   have HM:=hide (seModel_any hS3 hP.t12 (by omega))
   have HS3:=hide (And.intro hV3 hx3)
   clear hS3 hV3 hx3 HT
   go_wp2_with fail
   refine HM.out.mono ?_
   rintro e w3 ⟨mv,rfl,hx3,hmv,hrow⟩
   have k3:=(hx3.block _ (block_lt K2.out) (fun f=>f)).trans K2.out
   clear a0 a1 af0 af1
   have a0:=cell_of_block k3 0
   have a1:=cell_of_block k3 1
   have af0:=frozen_of_block k3 0
   have af1:=frozen_of_block k3 1
   have hkl3:=block_lt k3
   obtain ⟨ma,mc,rfl⟩:=row_shape hrow
   have HX3:=hide hx3
   have HROW:=hide hrow
   have HMV:=hide hmv
   have K3:=hide k3
   clear hx3 hrow hmv k3
   go_wp2_with fail
   refine bodyPost_ret (v:=.agg #[.bool true,.slice ma TK.length mc]) (by simp [results,Tryz.results60,go_sem,a0,a1]) rfl ⟨true,_,rfl,?_,fun _=>⟨gr F X3.t,HS3.out.1,HS3.out.2,?_,fun k hk=>?_⟩,fun e=>by simp at e⟩
   ·exact below_two (((below_ext HX.out HB.out.2).trans HBL.out).trans (below_ext HX3.out (by have:=HX.out.size;have:=HBL.out.size;have:=HB.out.2;omega))) (by have:=HX.out.size;have:=HBL.out.size;have:=HX3.out.size;have:=HB.out.2;omega) HB.out.2 _ _
   ·have e1:(fun i=>Value.int .i64 (gr F X3.t i))=fun i=>Value.int .i64 (X3.t.by_ i TK.length):=by funext i;unfold gr;rw [hP.fx.fn]
    rw [e1]
    have hx:Ext (fun i=>i=w.heap.size) w3 ((w3.setCell ⟨w.heap.size,0,none⟩ (.bool true)).setCell ⟨w.heap.size,1,none⟩ (.slice ma TK.length mc)):=((Ext.refl (fun i=>i=w.heap.size) w3).setCell (p:=⟨w.heap.size,0,none⟩) (fun _=>rfl) _).setCell (p:=⟨w.heap.size,1,none⟩) (fun _=>rfl) _
    refine own_ext HROW.out hx (fun k hk e=>?_)
    rw [HMV.out] at hk
    have e1:=Option.some.inj hk
    have h1:=HX.out.size
    have h2:=HBL.out.size
    have h3:=block_lt K0.out
    omega
   ·have:=HMV.out
    rw [hk] at this
    have e:=Option.some.inj this
    have:=HX.out.size;have:=HBL.out.size;have:=HB.out.2
    omega
end
end Go.Proofs.YtegbdaffhpiacaaGreatDoor
