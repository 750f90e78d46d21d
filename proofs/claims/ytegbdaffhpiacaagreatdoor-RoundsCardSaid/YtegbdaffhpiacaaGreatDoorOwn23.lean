/- The program: Assert; The program: Assert takes a formula, or nothing of it; The keys of a model: a function and the numbers that it is given; A session of the program, new; Declare. -/
import Derived.Test.YtegbdaffhpiacaaGreatDoorOwn22
import Derived.Test.YtegbdaffhpiacaaGreatDoorOwn15
import Derived.Test.YtegbdaffhpiacaaGreatDoorOwn19
namespace Go.Proofs.YtegbdaffhpiacaaGreatDoor
open Go.RowKit Go.Maps Ar
theorem own_last4 {w:World} {e n g cap:Nat} {xs:List Value} {z0 z1 z2 z3:Value} (h:w.ownsRow 0 e 4 (.slice (some ⟨g,0,none⟩) (n+1) cap) (n+1) (xs++[z0,z1,z2,z3])) (hl:xs.length=n * 4) (ua ub uc ud:Value):((((w.setCell ⟨g,n * 4,none⟩ ua).setCell ⟨g,n * 4+1,none⟩ ub).setCell ⟨g,n * 4+2,none⟩ uc).setCell ⟨g,n * 4+3,none⟩ ud).ownsRow 0 e 4 (.slice (some ⟨g,0,none⟩) (n+1) cap) (n+1) (xs++[ua,ub,uc,ud]):=by
 rcases h.2 with ⟨e0,_⟩ | ⟨g',cap',cur,hv,hg,hh,h1,h2,h3,h4⟩
 ·cases e0
 ·cases hv
  refine ⟨by simp [hl];omega,.inr ⟨g,cap,_,rfl,hg,block_setCell (block_setCell (block_setCell (block_setCell hh _ ua) _ ub) _ uc) _ ud,h1,h2,by simpa using h3,?_⟩⟩
  have ec:cur.toList=xs++(z0 :: z1 :: z2 :: z3 :: cur.toList.drop ((n+1) * 4)):=by
   conv=>lhs;rw [← List.take_append_drop ((n+1) * 4) cur.toList,h4]
   simp
  simp only [Array.toList_setIfInBounds]
  rw [ec,List.set_append_right _ _ (by omega),List.set_append_right _ _ (by omega),List.set_append_right _ _ (by omega),List.set_append_right _ _ (by omega),hl,Nat.sub_self,Nat.add_sub_cancel_left,Nat.add_sub_cancel_left,Nat.add_sub_cancel_left]
  simp only [List.set_cons_zero,List.set_cons_succ]
  rw [List.take_append,List.take_of_length_le (by omega),hl,show (n+1) * 4 - n * 4=4 by omega]
  simp
section
variable {w:World} {sb:Nat} {N:List Nm} {nv:Value} {xs:PX} {T A:List Nd} {Y:List (List Value)} {K:List Fr4}
def PAPost (w:World) (sb:Nat) (N:List Nm) (nv:Value) (xs:PX) (T A:List Nd) (Y:List (List Value)) (K:List Fr4) (p c:Int) (e:Ending) (w':World):Prop :=
 e=.returned (.tuple #[.int .i64 p,.int .i64 c])∧SPost w sb nv xs N T A Y K w'
theorem pa_same (h:PSS w sb N nv xs T A Y K) {w':World} (hx:Ext (fun _=>False) w w'):SPost w sb nv xs N T A Y K w':=⟨hx.mono (fun _ _ f=>f.elim),nv,xs,h.ext hx (fun _ _ f=>f),fun _ hk=>.inl hk⟩
set_option maxHeartbeats 1000000 in
theorem pa_long (s:ByteArray) (h:PSS w sb N nv xs T A Y K) (hs:600 < s.size) (hm:s.size≤maxLen) :
  Calls Tryz.prog 25 #[.pointer (some ⟨sb,0,none⟩),.string s] w (PAPost w sb N nv xs T A Y K 0 1):=by
 have HC:=hide (p_Formula_long (.pointer (some ⟨sb,0,none⟩)) s w hs hm)
 have c0:=cell_of_block h.p.ts.blk 0
 have H:=hide h
 clear h hs hm
 go_enter Tryz.func25,Tryz.ntmps25
 go_wp2_with fail
 refine HC.out.mono ?_
 rintro e w1 ⟨rfl,hx1⟩
 have HX1:=hide hx1
 clear hx1
 go_wp2_with fail
 go_ret2
 exact ⟨rfl,pa_same H.out (HX1.out.alloc _)⟩
set_option maxHeartbeats 1000000 in
theorem pa_no (s:ByteArray) {e:Int} {p:Nat} (h:PSS w sb N nv xs T A Y K) (hs:s.size≤600) (hhd:HdLaid w) (hr:rdWhole N s.toList=.no e p) :
  Calls Tryz.prog 25 #[.pointer (some ⟨sb,0,none⟩),.string s] w (PAPost w sb N nv xs T A Y K p e):=by
 have HC:=hide (p_Formula s w hs h.ps.tab hhd)
 have he0:(e == 0)=false:=by simpa using whole_no hr
 have c0:=cell_of_block h.p.ts.blk 0
 have H:=hide h
 have HR:=hide hr
 clear h hs hhd hr
 go_enter Tryz.func25,Tryz.ntmps25
 go_wp2_with fail
 refine HC.out.mono ?_
 rintro en w1 ⟨hx1,hm⟩
 rw [HR.out] at hm
 subst hm
 have HX1:=hide hx1
 clear hx1
 go_wp2_with fail
 go_ret2
 exact ⟨rfl,pa_same H.out (HX1.out.alloc _)⟩
set_option maxHeartbeats 1000000 in
theorem pa_full (s:ByteArray) {nd:Nd} {us:List Tk} (h:PSS w sb N nv xs T A Y K) (hs:s.size≤600) (hhd:HdLaid w) (hr:rdWhole N s.toList=.ok nd us) (hf:20≤Y.length) :
  Calls Tryz.prog 25 #[.pointer (some ⟨sb,0,none⟩),.string s] w (PAPost w sb N nv xs T A Y K 0 8):=by
 have HC:=hide (p_Formula s w hs h.ps.tab hhd)
 obtain ⟨hfo,_⟩:=h.fown
 obtain ⟨fa,fc,e1⟩:=row_shape hfo
 have kb:=h.p.ts.blk
 rw [e1] at kb
 have c0:=cell_of_block kb 0
 have hsb:=block_lt kb
 have KB:=hide kb
 have H:=hide h
 have HR:=hide hr
 clear h hs hhd hr hfo e1 kb
 go_enter Tryz.func25,Tryz.ntmps25
 go_wp2_with fail
 refine HC.out.mono ?_
 rintro en w1 ⟨hx1,hm⟩
 rw [HR.out] at hm
 obtain ⟨k,wd,v,sa,sn,sc,rfl,_⟩:=hm
 have kb1:=(hx1.block sb hsb (fun f=>f)).trans KB.out
 have c5:=cell_of_block kb1 5
 have hl1:=block_lt kb1
 have hne:¬sb=w1.heap.size:=by omega
 have HX1:=hide hx1
 clear hx1 kb1 c0
 go_wp2_with fail
 go_ret2
 exact ⟨rfl,pa_same H.out (HX1.out.alloc _)⟩
theorem zb_kept {V w2:World} {b n:Nat} {o:Obj} {T' A':List Nd} (hlt:∀ k,SF sb nv xs k→k < b) (hb:b≤n) (hn:V.heap.size=n+1) (h:APost (V.alloc o).drew sb nv xs T' A' w2):w2.heap[n+1]?=some o:=by
 obtain ⟨_,_,_,_,_,k2,_⟩:=h
 rw [← hn]
 refine (k2.block _ (by show V.heap.size < (V.alloc o).heap.size;simp) (fun e=>?_)).trans (heap_alloc_new V o)
 have:=hlt _ (.inl e)
 omega
theorem zb_free {V:World} {b n:Nat} {o:Obj} {xs3:PX} (hlt:∀ k,SF sb nv xs k→k < b) (hb:b≤n) (hn:V.heap.size=n+1) (hF:∀ k,SF sb nv xs3 k→SF sb nv xs k∨(V.alloc o).drew.heap.size≤k):∀ k,SF sb nv xs3 k→¬k=n+1:=by
 intro k hk e
 have hs:(V.alloc o).drew.heap.size=V.heap.size+1:=by show (V.alloc o).heap.size=_;simp
 rcases hF k hk with h | h
 ·have:=hlt k h;omega
 ·omega
theorem ext_set4 (w:World) (g a b c d:Nat) (ua ub uc ud:Value):Ext (fun k=>k=g) w ((((w.setCell ⟨g,a,none⟩ ua).setCell ⟨g,b,none⟩ ub).setCell ⟨g,c,none⟩ uc).setCell ⟨g,d,none⟩ ud) :=
 ((((Ext.refl (fun k=>k=g) w).setCell (p:=⟨g,a,none⟩) (fun _=>rfl) _).setCell (p:=⟨g,b,none⟩) (fun _=>rfl) _).setCell (p:=⟨g,c,none⟩) (fun _=>rfl) _).setCell (p:=⟨g,d,none⟩) (fun _=>rfl) _
theorem row_at {w:World} {e n g cap:Nat} {xs:List Value} {a b c d:Value} (h:w.ownsRow 0 e 4 (.slice (some ⟨g,0,none⟩) (n+1) cap) (n+1) (xs++[a,b,c,d])) (hl:xs.length=n * 4):w.cell? ⟨g,n * 4,none⟩=some a∧w.cell? ⟨g,n * 4+1,none⟩=some b∧w.cell? ⟨g,n * 4+2,none⟩=some c∧w.cell? ⟨g,n * 4+3,none⟩=some d:=by
 have hc:∀ q,q < 4→w.cell? ⟨g,n * 4+q,none⟩=[a,b,c,d][q]?:=by
  intro q hq
  rw [h.cellAt _ (by omega),List.getElem?_append_right (by omega),hl,show n * 4+q - n * 4=q by omega]
 exact ⟨hc 0 (by decide),hc 1 (by decide),hc 2 (by decide),hc 3 (by decide)⟩
def TookF (w:World) (sb:Nat) (A':List Nd) (cs:List Value) (nd:Nd) (w':World):Prop :=
 FT w' (fun q=>w.heap.size≤q∧∀ v,w'.cell? ⟨sb,5,none⟩=some v→¬v.ownBlock=some q) A' cs nd
theorem spost_forgetF {w1:World} {N':List Nm} {T' A':List Nd} {Y':List (List Value)} {K':List Fr4} {cs:List Value} {nd:Nd} (h:SPost w sb nv xs N' T' A' Y' K' w1) (hf:TookF w sb A' cs nd w1) (hsb:sb < w.heap.size) :
  Calls Tryz.prog 42 #[.pointer (some ⟨sb,0,none⟩)] w1 fun e w'=>e=.returned (.tuple #[])∧SPost w sb nv xs N' T' A' Y' K' w'∧TookF w sb A' cs nd w':=by
 obtain ⟨hx,nv',xs',hP,hF⟩:=h
 refine (p_forget hP.p.ts.blk).mono ?_
 rintro e w2 ⟨rfl,hx2,kb2⟩
 refine ⟨rfl,⟨hx.trans' hx2 (fun _ _ e=>.inl (.inl (.inl e))),nv',{ xs' with vd:=.int .i64 0,ml:=.map none },hP.turn _ _ hx2 kb2,hF⟩,?_⟩
 have c1:=cell_of_block hP.p.ts.blk 5
 have c2:=cell_of_block kb2 5
 refine (FT.ext hf hx2 (fun q _ hd e=>by have:=hd.1;omega)).mono (fun q _ hd=>⟨hd.1,fun v hv=>?_⟩)
 refine hd.2 v ?_
 rw [c1]
 rw [c2] at hv
 exact hv
theorem asrt_done {W w0 w3 W':World} {xs3:PX} {T' A':List Nd} {g cap':Nat} {cs:List Value} {nd:Nd} (h:PSS W sb N nv xs3 T' A' Y K) (hf:Y.length < 20) (h0:Ext (fun _=>False) W w0) (hgrow:w0.grownBy w3 xs3.fs.ownBlock) (hat:xs3.fs.ownBlock=some g∨W.heap.size≤g) (hx:Ext (fun k=>k=g∨k=sb) w3 W') (hown:W'.ownsRow 0 112 4 (.slice (some ⟨g,0,none⟩) (Y.length+1) cap') (Y.length+1) (Y.flatten++cs)) (hc4:cs.length=4) (kb:W'.heap[sb]?=some (.cells #[nv,xs3.ts,xs3.tm,xs3.at_,xs3.am,.slice (some ⟨g,0,none⟩) (Y.length+1) cap',xs3.ks,xs3.vd,xs3.ml] 98)) (hft:FT W (fun q=>w.heap.size≤q) A' cs nd) (hfs:∀ k,xs3.fs.ownBlock=some k→k < w.heap.size) (hsb:sb < w.heap.size) :
  TookF w sb A' cs nd W'∧∃ xs4,PSS W' sb N nv xs4 T' A' (Y++[cs]) K∧Goes W sb nv xs3 nv xs4 W':=by
 have hE:Ext (fun k=>k=sb∨xs3.fs.ownBlock=some k) W W':=(((h0.mono (fun _ _ f=>f.elim)).grown hgrow (fun k hk _=>Or.inr hk)).trans' hx (fun k hk e=>by
  rcases e with e | e
  ·subst e
   rcases hat with e2 | e2
   ·exact .inr e2
   ·omega
  ·exact .inl e))
 have hy:(Y++[cs]).length=Y.length+1:=by simp
 obtain ⟨h1,h2⟩:=pss_fml (Y':=Y++[cs]) (fv':=.slice (some ⟨g,0,none⟩) (Y.length+1) cap') h kb (by rw [hy,List.flatten_append];simpa using hown) (fun c hc=>by
  rcases List.mem_append.1 hc with e | e
  ·exact h.fown.2 c e
  ·rw [List.mem_singleton.1 e];exact hc4) (by omega) hE (fun k hk=>by
  simp [Value.ownBlock] at hk
  subst hk
  exact hat)
 refine ⟨?_,_,h1,h2⟩
 have c5:=cell_of_block kb 5
 refine ((hft.mono (D':=fun q=>w.heap.size≤q∧¬q=g) (fun q hq hd=>⟨hd,fun e=>?_⟩)).ext hE (fun q hq hd e=>?_)).mono (fun q hq hd=>⟨hd.1,fun v hv e=>?_⟩)
 ·subst e
  rcases hat with e2 | e2
  ·have:=hfs q e2;omega
  ·omega
 ·rcases e with e | e
  ·omega
  ·have:=hfs q e;omega
 ·rw [c5] at hv
  obtain rfl:Value.slice (some ⟨g,0,none⟩) (Y.length+1) cap' = v:=by simpa using hv
  simp [Value.ownBlock] at e
  exact hd.2 e.symm
theorem ext_set5a (w:World) (g sb a b c d:Nat) (ua ub uc ud u:Value):Ext (fun k=>k=g∨k=sb) w (((((w.setCell ⟨g,a,none⟩ ua).setCell ⟨g,b,none⟩ ub).setCell ⟨g,c,none⟩ uc).setCell ⟨g,d,none⟩ ud).setCell ⟨sb,5,none⟩ u) :=
 ((ext_set4 w g a b c d ua ub uc ud).mono (fun _ _ e=>Or.inl e)).trans' ((Ext.refl (fun k=>k=sb) _).setCell (p:=⟨sb,5,none⟩) (fun _=>rfl) u) (fun _ _ e=>Or.inr e)
theorem ext_set5b (w:World) (g sb a b c d:Nat) (ua ub uc ud u:Value):Ext (fun k=>k=g∨k=sb) w (((((w.setCell ⟨sb,5,none⟩ u).setCell ⟨g,a,none⟩ ua).setCell ⟨g,b,none⟩ ub).setCell ⟨g,c,none⟩ uc).setCell ⟨g,d,none⟩ ud) :=
 (((Ext.refl (fun k=>k=sb) w).setCell (p:=⟨sb,5,none⟩) (fun _=>rfl) u).mono (fun _ _ e=>Or.inr e)).trans' (ext_set4 _ g a b c d ua ub uc ud) (fun _ _ e=>Or.inl e)
section
variable {W w0 w3:World} {xs3:PX} {T' A':List Nd} {g cap':Nat} {z0 z1 z2 z3 fs0:Value} {nd:Nd}
theorem asrt_finA (ua ub uc ud:Value) (hP:PSS W sb N nv xs3 T' A' Y K) (hG:Goes w sb nv xs nv xs3 W) (hf:Y.length < 20) (h0:Ext (fun _=>False) W w0) (hgr:w0.grownBy w3 xs3.fs.ownBlock) (hat:xs3.fs.ownBlock=some g∨W.heap.size≤g) (hown:w3.ownsRow 0 112 4 (.slice (some ⟨g,0,none⟩) (Y.length+1) cap') (Y.length+1) (Y.flatten++[z0,z1,z2,z3])) (hgs:¬sb=g) (kb3:w3.heap[sb]?=some (.cells #[nv,xs3.ts,xs3.tm,xs3.at_,xs3.am,fs0,xs3.ks,xs3.vd,xs3.ml] 98)) (hft:FT W (fun q=>w.heap.size≤q) A' [ua,ub,uc,ud] nd) (hfs:∀ k,xs3.fs.ownBlock=some k→k < w.heap.size) (hsb:sb < w.heap.size) :
  SPost w sb nv xs N T' A' (Y++[[ua,ub,uc,ud]]) K (((((w3.setCell ⟨g,Y.length * 4,none⟩ ua).setCell ⟨g,Y.length * 4+1,none⟩ ub).setCell ⟨g,Y.length * 4+2,none⟩ uc).setCell ⟨g,Y.length * 4+3,none⟩ ud).setCell ⟨sb,5,none⟩ (.slice (some ⟨g,0,none⟩) (Y.length+1) cap'))∧TookF w sb A' [ua,ub,uc,ud] nd (((((w3.setCell ⟨g,Y.length * 4,none⟩ ua).setCell ⟨g,Y.length * 4+1,none⟩ ub).setCell ⟨g,Y.length * 4+2,none⟩ uc).setCell ⟨g,Y.length * 4+3,none⟩ ud).setCell ⟨sb,5,none⟩ (.slice (some ⟨g,0,none⟩) (Y.length+1) cap')):=by
 obtain ⟨h4,xs4,h5,h6⟩:=asrt_done hP hf h0 hgr hat (ext_set5a w3 g sb _ _ _ _ ua ub uc ud (.slice (some ⟨g,0,none⟩) (Y.length+1) cap')) (own_ext (own_last4 hown hP.fown.1.1 ua ub uc ud) ((Ext.refl (fun k=>k=sb) _).setCell (p:=⟨sb,5,none⟩) (fun _=>rfl) _) (fun k hk e=>by simp [Value.ownBlock] at hk;omega)) rfl (block_setCell (((ext_set4 w3 g _ _ _ _ _ _ _ _).block sb (block_lt kb3) hgs).trans kb3) 5 _) hft hfs hsb
 have hG2:=hG.trans h6
 exact ⟨⟨hG2.1,nv,xs4,h5,hG2.2⟩,h4⟩
theorem asrt_finB (ua ub uc ud:Value) (hP:PSS W sb N nv xs3 T' A' Y K) (hG:Goes w sb nv xs nv xs3 W) (hf:Y.length < 20) (h0:Ext (fun _=>False) W w0) (hgr:w0.grownBy w3 xs3.fs.ownBlock) (hat:xs3.fs.ownBlock=some g∨W.heap.size≤g) (hown:w3.ownsRow 0 112 4 (.slice (some ⟨g,0,none⟩) (Y.length+1) cap') (Y.length+1) (Y.flatten++[z0,z1,z2,z3])) (hgs:¬sb=g) (kb3:w3.heap[sb]?=some (.cells #[nv,xs3.ts,xs3.tm,xs3.at_,xs3.am,fs0,xs3.ks,xs3.vd,xs3.ml] 98)) (hft:FT W (fun q=>w.heap.size≤q) A' [ua,ub,uc,ud] nd) (hfs:∀ k,xs3.fs.ownBlock=some k→k < w.heap.size) (hsb:sb < w.heap.size) :
  SPost w sb nv xs N T' A' (Y++[[ua,ub,uc,ud]]) K (((((w3.setCell ⟨sb,5,none⟩ (.slice (some ⟨g,0,none⟩) (Y.length+1) cap')).setCell ⟨g,Y.length * 4,none⟩ ua).setCell ⟨g,Y.length * 4+1,none⟩ ub).setCell ⟨g,Y.length * 4+2,none⟩ uc).setCell ⟨g,Y.length * 4+3,none⟩ ud)∧TookF w sb A' [ua,ub,uc,ud] nd (((((w3.setCell ⟨sb,5,none⟩ (.slice (some ⟨g,0,none⟩) (Y.length+1) cap')).setCell ⟨g,Y.length * 4,none⟩ ua).setCell ⟨g,Y.length * 4+1,none⟩ ub).setCell ⟨g,Y.length * 4+2,none⟩ uc).setCell ⟨g,Y.length * 4+3,none⟩ ud):=by
 obtain ⟨h4,xs4,h5,h6⟩:=asrt_done hP hf h0 hgr hat (ext_set5b w3 g sb _ _ _ _ ua ub uc ud (.slice (some ⟨g,0,none⟩) (Y.length+1) cap')) (own_last4 (own_ext hown ((Ext.refl (fun k=>k=sb) _).setCell (p:=⟨sb,5,none⟩) (fun _=>rfl) _) (fun k hk e=>by simp [Value.ownBlock] at hk;omega)) hP.fown.1.1 ua ub uc ud) rfl (((ext_set4 _ g _ _ _ _ _ _ _ _).block sb (by simpa using block_lt kb3) hgs).trans (block_setCell kb3 5 _)) hft hfs hsb
 have hG2:=hG.trans h6
 exact ⟨⟨hG2.1,nv,xs4,h5,hG2.2⟩,h4⟩
end
end
section
variable {w:World} {sb:Nat} {N:List Nm} {nv:Value} {xs:PX} {T A:List Nd} {Y:List (List Value)} {K:List Fr4}
set_option maxRecDepth 100000 in
set_option maxHeartbeats 16000000 in
theorem pa_take (s:ByteArray) {nd:Nd} {us:List Tk} (h:PSS w sb N nv xs T A Y K) (hs:s.size≤600) (hhd:HdLaid w) (hr:rdWhole N s.toList=.ok nd us) (hf:Y.length < 20) :
    Calls Tryz.prog 25 #[.pointer (some ⟨sb,0,none⟩),.string s] w fun e w'=>∃ T' A',AddsP T T' (subs true nd)∧AddsP A A' (subs false nd)∧e=.returned (.tuple #[.int .i64 0,.int .i64 (tkCode T'.length A'.length)]) ∧
      (tkCode T'.length A'.length=0→∃ cs,SPost w sb nv xs N T' A' (Y++[cs]) K w'∧TookF w sb A' cs nd w')∧(¬tkCode T'.length A'.length=0→SPost w sb nv xs N T A Y K w'):=by
  have HC:=hide (p_Formula s w hs h.ps.tab hhd)
  have HOK:=hide (whole_shape h.ok hr)
  have HFL:=hide (whole_ok hs hr).2
  obtain ⟨hfo,_⟩:=h.fown
  obtain ⟨fa,fc,e1⟩:=row_shape hfo
  have htf:=h.tfew
  have haf:=h.afew
  have kb:=h.p.ts.blk
  have c0:=cell_of_block kb 0
  have hsb:=block_lt kb
  have KB:=hide kb
  have H:=hide h
  have HR:=hide hr
  have HLT:=hide h.lt
  clear h hs hhd hr hfo kb
  go_enter Tryz.func25,Tryz.ntmps25
  go_wp2_with fail
  refine HC.out.mono ?_
  rintro en w1 ⟨hx1,hm⟩
  rw [HR.out] at hm
  obtain ⟨k',wd',v',pa',pn',pc',rfl,hpn⟩:=hm
  have kb1:=(hx1.block sb hsb (fun f=>f)).trans KB.out
  rw [e1] at kb1
  have c5:=cell_of_block kb1 5
  have hl1:=block_lt kb1
  have hne:¬sb=w1.heap.size:=by omega
  obtain ⟨V,hV⟩:∃ V,w1.alloc (.cells #[.int .i64 k',.string wd',.int .i64 v',.slice pa' pn' pc'] 115)=V:=⟨_,rfl⟩
  have hxV:Ext (fun _=>False) w V:=by rw [← hV];exact hx1.alloc _
  have hs1:=hx1.size
  have hVs:V.heap.size=w1.heap.size+1:=by rw [← hV];simp
  have hPV0:=H.out.ext hxV (fun _ _ f=>f)
  have hpnV0:PN V (fun k=>w.heap.size≤k∧k < w1.heap.size) [.int .i64 k',.string wd',.int .i64 v',.slice pa' pn' pc'] nd:=hpn.within.ext (by rw [← hV];exact (Ext.refl (fun _=>False) w1).alloc _) (fun _ _ _ f=>f)
  have HC2:Hid (∀ W,Ext (fun _=>False) V W→Calls Tryz.prog 48 #[.pointer (some ⟨sb,1,none⟩),.agg #[.int .i64 k',.string wd',.int .i64 v',.slice pa' pn' pc']] W (TkPost W sb nv xs T A nd)):=fun W hW =>
    ptake_any HOK.out HFL.out (hpnV0.ext hW (fun _ _ _ f=>f)) (fun k hk=>by have:=hW.size;omega) (fun k hk hp=>by have:=HLT.out k (.inl hp);omega) (hPV0.ext hW (fun _ _ f=>f)).p htf haf
  have HPV:=hide hPV0
  have HXV:=hide hxV
  have HV:=hide hV
  have kN:V.heap[w1.heap.size]?=some (.cells #[.int .i64 k',.string wd',.int .i64 v',.slice pa' pn' pc'] 115):=by rw [← hV];exact heap_alloc_new w1 _
  have m0:=cell_of_block kN 0
  have m1:=cell_of_block kN 1
  have m2:=cell_of_block kN 2
  have m3:=cell_of_block kN 3
  clear hx1 hxV hPV0 hpnV0 hV hpn kb1 kN c0
  go_wp2_with fail
  rw [HV.out]
  go_region_law (go_simp;go_wp2_with (go_at_call 48;first | (refine (HC2.out V.drew ((Ext.refl (fun _=>False) V).drew)).mono ?_;rintro e w2 ⟨T2,A2,hT2,hA2,rk,rw',ri,rpa,rpn,rpc,rfl,hft,hap⟩;have HFT:=hide hft;clear hft;have HT2:=hide hT2;have HA2:=hide hA2;have HXB:Hid (Ext (fun _=>False) V V.drew):=(Ext.refl (fun _=>False) V).drew;have HAP:=hide hap;clear hT2 hA2 hap) | (refine (HC2.out (V.alloc (.cells #[.int .i64 0,.string ⟨#[]⟩,.int .i64 0,.slice none 0 0] 112)).drew (((Ext.refl (fun _=>False) V).alloc _).drew)).mono ?_;rintro e w2 ⟨T2,A2,hT2,hA2,rk,rw',ri,rpa,rpn,rpc,rfl,hft,hap⟩;have HFT:=hide hft;clear hft;have HT2:=hide hT2;have HA2:=hide hA2;have kz:w2.heap[w1.heap.size+1]?=some (.cells #[.int .i64 0,.string ⟨#[]⟩,.int .i64 0,.slice none 0 0] 112):=zb_kept HLT.out (by omega) hVs hap;have KZ:=hide kz;have y0:=cell_of_block kz 0;have y1:=cell_of_block kz 1;have y2:=cell_of_block kz 2;have y3:=cell_of_block kz 3;have x0:=frozen_of_block kz 0;have x1:=frozen_of_block kz 1;have x2:=frozen_of_block kz 2;have x3:=frozen_of_block kz 3;have HXB:Hid (Ext (fun _=>False) V (V.alloc (.cells #[.int .i64 0,.string ⟨#[]⟩,.int .i64 0,.slice none 0 0] 112)).drew):=((Ext.refl (fun _=>False) V).alloc _).drew;have HAP:=hide hap;clear hT2 hA2 hap kz)))
  all_goals
    obtain ⟨cd,hcd⟩:∃ cd,tkCode T2.length A2.length=cd:=⟨_,rfl⟩
    have hap:=HAP.out
    rw [hcd] at hap
    rw [hcd]
    have HCD:=hide hcd
    have hTA:(if cd=0 then T2 else T).length≤12∧(if cd=0 then A2 else A).length≤16:=by
      by_cases h0:cd=0
      · rw [if_pos h0,if_pos h0]
        rw [h0] at hcd
        unfold tkCode at hcd
        by_cases h1:12 < T2.length
        · rw [if_pos h1] at hcd;exact absurd hcd (by decide)
        · rw [if_neg h1] at hcd
          by_cases h2:16 < A2.length
          · rw [if_pos h2] at hcd;exact absurd hcd (by decide)
          · omega
      · rw [if_neg h0,if_neg h0]
        exact ⟨htf,haf⟩
    obtain ⟨xs3,hP3,he5,he6,hG3⟩:=pss_pool (HPV.out.ext HXB.out (fun _ _ f=>f)) hap hTA.1 hTA.2
    have hGB:=Goes.of_ext (HXV.out.trans HXB.out) hG3
    have kb2:=hP3.p.ts.blk
    rw [he5,e1] at kb2
    have hl2:=block_lt kb2
    have hsz2:V.heap.size≤w2.heap.size:=Nat.le_trans HXB.out.size hG3.1.size
    have hne2:¬sb=w2.heap.size:=by omega
    have hne3:¬sb=w1.heap.size+1:=by omega
    have HP3:=hide hP3
    have HGB:=hide hGB
    have HG3:=hide hG3.2
    have KB2:=hide kb2
    clear hap hcd hTA hP3 hG3 hGB kb2
    first
      | (obtain ⟨W,hW⟩:∃ W,(((w2.setCell ⟨w1.heap.size+1,0,none⟩ (.int .i64 rk)).setCell ⟨w1.heap.size+1,1,none⟩ (.string rw')).setCell ⟨w1.heap.size+1,2,none⟩ (.int .i64 ri)).setCell ⟨w1.heap.size+1,3,none⟩ (.slice rpa rpn rpc)=W:=⟨_,rfl⟩
         have HWX:Hid (Ext (fun k=>k=w1.heap.size+1) w2 W):=by rw [← hW];exact (((((Ext.refl (fun k=>k=w1.heap.size+1) w2).setCell (p:=⟨w1.heap.size+1,0,none⟩) (fun _=>rfl) _).setCell (p:=⟨w1.heap.size+1,1,none⟩) (fun _=>rfl) _).setCell (p:=⟨w1.heap.size+1,2,none⟩) (fun _=>rfl) _).setCell (p:=⟨w1.heap.size+1,3,none⟩) (fun _=>rfl) _)
         have KT:Hid (W.heap[w1.heap.size+1]?=some (.cells #[.int .i64 rk,.string rw',.int .i64 ri,.slice rpa rpn rpc] 112)):=by rw [← hW];exact block_setCell (block_setCell (block_setCell (block_setCell KZ.out 0 _) 1 _) 2 _) 3 _
         have HPW:Hid (PSS W sb N nv xs3 (if cd=0 then T2 else T) (if cd=0 then A2 else A) Y K∧Goes w sb nv xs nv xs3 W):=by
           have hno:∀ k,SF sb nv xs3 k→¬k=w1.heap.size+1:=zb_free HLT.out hs1 hVs HG3.out
           exact ⟨HP3.out.ext HWX.out hno,HGB.out.1.trans' HWX.out (fun k hk e=>by omega),HGB.out.2⟩
         have HFW:Hid (cd=0→FT W (fun q=>w.heap.size≤q) A2 [.int .i64 rk,.string rw',.int .i64 ri,.slice rpa rpn rpc] nd):=fun e=>by
           have hsz:(V.alloc (.cells #[.int .i64 0,.string ⟨#[]⟩,.int .i64 0,.slice none 0 0] 112)).drew.heap.size=V.heap.size+1:=by show (V.alloc _).heap.size=_;simp
           exact ((HFT.out (HCD.out.trans e)).ext HWX.out (fun q _ hd e=>by omega)).mono (fun q _ hd=>by omega)
         rw [hW]
         clear hW)
      | (obtain ⟨W,hW⟩:∃ W,w2.alloc (.cells #[.int .i64 rk,.string rw',.int .i64 ri,.slice rpa rpn rpc] 112)=W:=⟨_,rfl⟩
         have HWX:Hid (Ext (fun _=>False) w2 W):=by rw [← hW];exact (Ext.refl _ w2).alloc _
         have KT:Hid (W.heap[w2.heap.size]?=some (.cells #[.int .i64 rk,.string rw',.int .i64 ri,.slice rpa rpn rpc] 112)):=by rw [← hW];exact heap_alloc_new w2 _
         have HPW:Hid (PSS W sb N nv xs3 (if cd=0 then T2 else T) (if cd=0 then A2 else A) Y K∧Goes w sb nv xs nv xs3 W):=⟨HP3.out.ext HWX.out (fun _ _ f=>f),HGB.out.ext HWX.out⟩
         have HFW:Hid (cd=0→FT W (fun q=>w.heap.size≤q) A2 [.int .i64 rk,.string rw',.int .i64 ri,.slice rpa rpn rpc] nd):=fun e=>by
           have hsz:V.heap.size≤V.drew.heap.size:=Nat.le_refl _
           exact ((HFT.out (HCD.out.trans e)).ext HWX.out (fun _ _ _ f=>f)).mono (fun q _ hd=>by omega)
         rw [hW]
         clear hW)
    by_cases hc0:cd=0
    · subst hc0
      have hpw:=HPW.out
      rw [if_pos rfl,if_pos rfl] at hpw
      have HPW2:=hide hpw
      have kbW:=hpw.1.p.ts.blk
      obtain ⟨hfoW,_⟩:=hpw.1.fown
      have hzl:=hfoW.1
      rw [he5,e1] at kbW hfoW
      have w5:=cell_of_block kbW 5
      have hlW:=block_lt kbW
      have hneW:¬sb=W.heap.size:=by omega
      have t0:=cell_of_block KT.out 0
      have t1:=cell_of_block KT.out 1
      have t2:=cell_of_block KT.out 2
      have t3:=cell_of_block KT.out 3
      have hlT:=block_lt KT.out
      have KBW:=hide kbW
      have HFO:=hide hfoW
      have HSB:Hid (∀ k,(Value.slice fa Y.length fc).ownBlock=some k→¬k=sb):=fun k hk e=>(hpw.1.f1 k (by rw [he5,e1];exact hk)).1 (.inl (.inl e))
      have HFB:Hid (∀ k,(Value.slice fa Y.length fc).ownBlock=some k→k < w.heap.size):=fun k hk=>HLT.out k (.inr (.inr (.inl (by rw [e1];exact hk))))
      obtain ⟨i0,hi,hz0,hz1,hz2⟩:=info_parts infoFml
      have hlt1:(Y.length:Int) < (Y.length:Int)+1:=by omega
      clear hpw kbW hfoW
      go_wp2_with fail
      go_region_law ((refine step_append_lies _ (by rfl) _ _ _ (by rfl) 0 112 i0 _ 4 56 Tryz.underlying89 hi hz0 hz1 hz2 rfl (by omega) (.slice fa Y.length fc) Y.length Y.flatten (by rfl) ((HFO.out.alloc _).drew) ⟨W.heap.size,0,none⟩ 1 1 [.int .i64 0,.string ⟨#[]⟩,.int .i64 0,.slice none 0 0] (by rfl) (by rfl) (World.news_of_block (cs:=#[.int .i64 0,.string ⟨#[]⟩,.int .i64 0,.slice none 0 0]) (t:=112) (fr:=(0,0)) (heap_alloc_new W _)) (by simp [Value.oneCell']) (by omega) (by unfold maxLen;omega) (by omega) (Nat.zero_le _) (W.heap.size+1) (by simp) ?_;intro g cap' w3 hown3 hgrow hat hlt3;have kb3:w3.heap[sb]?=some (.cells #[nv,xs3.ts,xs3.tm,xs3.at_,xs3.am,.slice fa Y.length fc,xs3.ks,xs3.vd,xs3.ml] 98):=(hgrow.block sb (by simp;omega) (fun e=>HSB.out sb e.symm rfl)).trans ((Below.heap_alloc W _ sb hlW).trans KBW.out);have d5:=cell_of_block kb3 5;have d5f:=frozen_of_block kb3 5;have kt3:=(hgrow.block _ (by simp;omega) (fun e=>by have:=HFB.out _ e.symm;omega)).trans ((Below.heap_alloc W _ _ hlT).trans KT.out);have q0:=cell_of_block kt3 0;have q1:=cell_of_block kt3 1;have q2:=cell_of_block kt3 2;have q3:=cell_of_block kt3 3;obtain ⟨u0,u1,u2,u3⟩:=row_at hown3 (by omega);have hrc:=row_cell hown3;have p0:=(hrc (Y.length * 4) (by omega)).2;have p1:=(hrc (Y.length * 4+1) (by omega)).2;have p2:=(hrc (Y.length * 4+2) (by omega)).2;have p3:=(hrc (Y.length * 4+3) (by omega)).2;have hgs:¬g=sb:=fun e=>hat.elim (fun e2=>HSB.out g e2 e) (fun e2=>(by omega));have hgs2:¬sb=g:=fun e=>hgs e.symm;clear hrc kt3))
      all_goals
        go_wp2_with fail
        have hgr:(W.alloc (.cells #[.int .i64 0,.string ⟨#[]⟩,.int .i64 0,.slice none 0 0] 112)).drew.grownBy w3 xs3.fs.ownBlock:=by rw [he5,e1];exact hgrow
        have hat2:xs3.fs.ownBlock=some g∨W.heap.size≤g:=by rw [he5,e1];exact hat.imp id (fun e=>by omega)
        have h0x:Ext (fun _=>False) W (W.alloc (.cells #[.int .i64 0,.string ⟨#[]⟩,.int .i64 0,.slice none 0 0] 112)).drew:=((Ext.refl _ W).alloc _).drew
        have hpp:=HPW2.out.1
        have hgg:=HPW2.out.2
        have hff:=HFW.out (by simp)
        have hfs:∀ k,xs3.fs.ownBlock=some k→k < w.heap.size:=by rw [he5,e1];exact HFB.out
        have hfA:=asrt_finA (.int .i64 rk) (.string rw') (.int .i64 ri) (.slice rpa rpn rpc) hpp hgg hf h0x hgr hat2 hown3 hgs2 kb3 hff hfs hsb
        have hfB:=asrt_finB (.int .i64 rk) (.string rw') (.int .i64 ri) (.slice rpa rpn rpc) hpp hgg hf h0x hgr hat2 hown3 hgs2 kb3 hff hfs hsb
        first
          | with_reducible refine (spost_forgetF hfA.1 hfA.2 hsb).mono ?_
          | with_reducible refine (spost_forgetF hfB.1 hfB.2 hsb).mono ?_
        rintro e w9 ⟨rfl,h9⟩
        have H9:=hide h9
        clear h9 hgr hat2 h0x hpp hgg hff hfs hfA hfB
        go_wp2_with fail
        go_ret2
        exact ⟨T2,A2,HT2.out,HA2.out,by rw [HCD.out];rfl,fun _=>⟨_,H9.out⟩,fun e=>absurd HCD.out e⟩
    · have hc0':(cd == 0)=false:=by simpa using hc0
      go_wp2_with fail
      go_ret2
      have hpw:=HPW.out
      rw [if_neg hc0,if_neg hc0] at hpw
      exact ⟨T2,A2,HT2.out,HA2.out,by rw [HCD.out];rfl,fun e=>absurd (HCD.out.symm.trans e) hc0,fun _=>⟨hpw.2.1,nv,xs3,hpw.1,hpw.2.2⟩⟩
end
structure CK where
 nm:ByteArray
 ar:Int
 a0:Int
 a1:Int
 a2:Int
def CK.cells (k:CK):List Value:=[.string k.nm,.int .i64 k.ar,.int .i64 k.a0,.int .i64 k.a1,.int .i64 k.a2]
def CK.val (k:CK):Value:=.agg #[.string k.nm,.int .i64 k.ar,.int .i64 k.a0,.int .i64 k.a1,.int .i64 k.a2]
structure CK.Ok (k:CK):Prop where
 nm:k.nm.size≤1000
 ar:Sm k.ar
 a0:Sm k.a0
 a1:Sm k.a1
 a2:Sm k.a2
theorem cCall:Tryz.prog.cellsOf 147=5:=by kernel_rfl
theorem lits_ck (d:Nat) {k:CK} (h:k.Ok):∃ ls,Tryz.prog.keyLits (d+3) 147 k.cells=some ls:=by
 unfold Program.keyLits
 simp [CK.cells,Tryz.underlying147,cCall,cFn,cA3,lits_fn d h.nm h.ar,lits_a3 d h.a0 h.a1 h.a2]
theorem key_ck {k:CK} (h:k.Ok):∃ l,keyOf Tryz.prog 147 k.val=some l:=by
 obtain ⟨d,hd⟩:=types_size
 obtain ⟨ls,hl⟩:=lits_ck d h
 refine ⟨.string (keyBytes ls),?_⟩
 have hc:k.val.cells.toList=k.cells:=rfl
 have hkt:Tryz.prog.keyType 147=true:=by kernel_rfl
 have hf:k.val.formed Tryz.prog 147=true:=by simp [CK.val,Value.formed,Tryz.underlying147,cCall]
 unfold keyOf
 rw [Tryz.underlying147]
 simp only [hkt,hf,Bool.and_self,if_true,hc,hd,hl,Option.map_some]
theorem kdCall:Keyed Tryz.prog 147:=Keyed.of_law (deep_law_laid (by kernel_rfl) (m:=4) (by omega) (of_decide_eq_true (by kernel_rfl)) (by kernel_rfl) (by kernel_rfl))
noncomputable def klC (k:CK):Lit:=(keyOf Tryz.prog 147 k.val).getD (.bool false)
theorem klC_eq {k:CK} (h:k.Ok):keyOf Tryz.prog 147 k.val=some (klC k):=by
 obtain ⟨l,hl⟩:=key_ck h
 rw [klC,hl];rfl
theorem klC_inj {x y:CK} (hx:x.Ok) (hy:y.Ok) (h:klC x=klC y):x=y:=by
 have h2:=klC_eq hy
 rw [← h] at h2
 have e:=kdCall.inj (klC_eq hx) h2
 cases x;cases y
 simp [CK.val] at e
 simp [e]
def ckTo (x:TKey) (u:Nat→Int) (j:Nat):CK:=⟨x.nm,x.ar,if 0 < j then u x.a0.toNat else 0,if 1 < j then u x.a1.toNat else 0,if 2 < j then u x.a2.toNat else 0⟩
def ckOf (x:TKey) (u:Nat→Int):CK:=ckTo x u x.ar.toNat
structure MdF (TK:List TKey) (u:Nat→Int) (j:Nat) (D:DataW Unit):Prop where
 yes:∀ (i:Nat) (x:TKey),i < j→TK[i]?=some x→¬x.nm=⟨#[]⟩→(∀ z,D.atKey (klC (ckOf x u)) z=.lit (.int .i64 (u i)))∧Maps.has D (klC (ckOf x u))=true
 no:∀ k:CK,k.Ok→(∀ (i:Nat) (x:TKey),i < j→TK[i]?=some x→¬x.nm=⟨#[]⟩→¬ckOf x u=k)→Maps.has D (klC k)=false
structure MdOk (TK:List TKey) (u:Nat→Int):Prop where
 ok:∀ x∈TK,(ckOf x u).Ok
 same:∀ (i j:Nat) (x y:TKey),TK[i]?=some x→TK[j]?=some y→¬x.nm=⟨#[]⟩→¬y.nm=⟨#[]⟩→ckOf x u=ckOf y u→u i=u j
 ar:∀ x∈TK,0≤x.ar∧x.ar≤3
 a0:∀ x∈TK,0 < x.ar→0≤x.a0∧x.a0 < TK.length
 a1:∀ x∈TK,1 < x.ar→0≤x.a1∧x.a1 < TK.length
 a2:∀ x∈TK,2 < x.ar→0≤x.a2∧x.a2 < TK.length
 sm:∀ i,i < TK.length→Sm (u i)
section
variable {TK:List TKey} {u:Nat→Int}
theorem mdf_nil:MdF TK u 0 (.map []):=⟨fun i _ h=>absurd h (Nat.not_lt_zero i),fun _ _ _=>rfl⟩
theorem MdF.skip {j:Nat} {x:TKey} {D:DataW Unit} (h:MdF TK u j D) (hx:TK[j]?=some x) (hn:x.nm=⟨#[]⟩):MdF TK u (j+1) D:=by
 refine ⟨fun i y hi hy hyn=>?_,fun k hk hno=>h.no k hk (fun i y hi=>hno i y (by omega))⟩
 by_cases e:i=j
 ·subst e
  rw [hx] at hy
  obtain rfl:x=y:=by simpa using hy
  exact absurd hn hyn
 ·exact h.yes i y (by omega) hy hyn
set_option maxRecDepth 100000 in
theorem MdF.put {j:Nat} {x:TKey} {D:DataW Unit} (h:MdF TK u j D) (hD:Maps.Tidy D) (ho:MdOk TK u) (hx:TK[j]?=some x) (hn:¬x.nm=⟨#[]⟩) (hk:WideAt.IsKeyLit (klC (ckOf x u))):MdF TK u (j+1) (D.put (klC (ckOf x u)) (.lit (.int .i64 (u j)))):=by
 have hxo:=ho.ok x (List.mem_of_getElem? hx)
 refine ⟨fun i y hi hy hyn=>?_,fun k hk' hno=>?_⟩
 ·by_cases e:ckOf y u=ckOf x u
  ·have hu:=ho.same i j y x hy hx hyn hn e
   rw [e,hu]
   generalize klC (ckOf x u)=q at hk ⊢
   exact ⟨fun z=>atKey_put_same hD.isMap hk _ z,has_put_same hD.isMap hk _⟩
  ·have hij:¬i=j:=by
    intro e2
    subst e2
    rw [hx] at hy
    obtain rfl:x=y:=by simpa using hy
    exact e rfl
   have hne:klC (ckOf y u) ≠ klC (ckOf x u):=fun e2=>e (klC_inj (ho.ok y (List.mem_of_getElem? hy)) hxo e2)
   obtain ⟨h1,h2⟩:=h.yes i y (by omega) hy hyn
   generalize klC (ckOf y u)=p at h1 h2 hne ⊢
   generalize klC (ckOf x u)=q at hne ⊢
   exact ⟨fun z=>by rw [atKey_put_other hne];exact h1 z,by rw [has_put_other hne];exact h2⟩
 ·have hne:klC k ≠ klC (ckOf x u):=fun e2=>hno j x (by omega) hx hn (klC_inj hk' hxo e2).symm
  have h3:=h.no k hk' (fun i y hi=>hno i y (by omega))
  generalize klC k=p at hne h3 ⊢
  generalize klC (ckOf x u)=q at hne ⊢
  rw [has_put_other hne]
  exact h3
end
theorem pf_new {ps k:Nat}:PF ps px0 k↔k=ps:=by
 constructor
 ·rintro ((e | e | e) | e | e)
  ·exact e
  all_goals exact absurd e (by simp [px0,Value.ownBlock,mapB])
 ·exact fun e=>.inl (.inl e)
theorem sf_new {ps k:Nat} {pv:Value}:SF ps pv px0 k↔k=ps∨pv.ownBlock=some k:=by
 constructor
 ·rintro (e | e | e | e)
  ·exact .inl (pf_new.1 e)
  ·exact .inr e
  all_goals exact absurd e (by simp [px0,Value.ownBlock])
 ·rintro (e | e)
  ·exact .inl (pf_new.2 e)
  ·exact .inr (.inl e)
theorem pss_new {w:World} {ps:Nat} {N:List Nm} {pv:Value} (h:PS w ps N pv px0):PSS w ps N pv px0 [] [] [] [] where
 p:=⟨⟨h.blk,⟨World.ownsRow_nil _ _ _ _,List.nodup_nil,by simp [keys],.inl ⟨rfl,rfl⟩,fun g hg=>absurd hg (by simp [px0,Value.ownBlock])⟩,by intro i x hx;simp at hx,List.nodup_nil,fun g hg=>absurd hg (by simp [px0,Value.ownBlock]),fun g hg=>absurd hg (by simp [px0,mapB])⟩,
  ⟨World.ownsRow_nil _ _ _ _,List.nodup_nil,by simp [keysA],.inl ⟨rfl,rfl⟩,fun g hg=>absurd hg (by simp [px0,Value.ownBlock])⟩,by intro x hx;simp at hx,List.nodup_nil,fun g hg=>absurd hg (by simp [px0,Value.ownBlock]),fun g hg=>absurd hg (by simp [px0,mapB]),fun k _=>by simp [px0,Value.ownBlock,mapB]⟩
 nown:=h.own
 few:=h.few
 ok:=h.ok
 fown:=⟨World.ownsRow_nil _ _ _ _,by simp⟩
 kown:=World.ownsRow_nil _ _ _ _
 ffew:=by simp
 kfew:=by simp
 tfew:=by simp
 afew:=by simp
 n1:=fun k hk=>⟨fun e=>h.sep k hk (pf_new.1 e),by simp [px0,Value.ownBlock],by simp [px0,Value.ownBlock]⟩
 f1:=fun k hk=>absurd hk (by simp [px0,Value.ownBlock])
 k1:=fun k hk=>absurd hk (by simp [px0,Value.ownBlock])
theorem decl_spost {w w':World} {ps:Nat} {N:List Nm} {T A:List Nd} {K:List Fr4} {pv:Value} {xs:PX} {F:Int} {s:ByteArray} {a:Int} {Y:List (List Value)} {e:Ending} (h:PSS w ps N pv xs T A Y K) (hd:PDeclG w ps N pv xs F s a e w'):e=.returned (.int .i64 (declCode N s.toList a))∧SPost w ps pv xs (declNames N F s a) T A Y K w':=by
 obtain ⟨h1,h2,nv',h3,h4⟩:=hd
 by_cases h0:declCode N s.toList a=0
 ·rw [if_pos h0] at h3
  obtain ⟨h5,h6⟩:=pss_names2 h h3.blk h3.own h3.few h3.ok h2 h4
  exact ⟨h1,h6.1,nv',xs.fg,h5,h6.2⟩
 ·rw [if_neg h0] at h3
  obtain ⟨h5,h6⟩:=pss_names2 h h3.blk h3.own h3.few h3.ok h2 h4
  exact ⟨h1,h6.1,nv',xs,h5,h6.2⟩
end Go.Proofs.YtegbdaffhpiacaaGreatDoor
