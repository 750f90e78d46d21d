/- A part of the proof. -/
import Derived.Test.YtegbdaffhpiacaaGreatDoorMod34
import Derived.Test.YtegbdaffhpiacaaGreatDoorMod36
import Derived.BigQuiet
set_option maxRecDepth 100000
set_option maxHeartbeats 16000000
namespace Go.Proofs.YtegbdaffhpiacaaGreatDoor
open Go.Proofs.Tryz hiding parts
section
open Go.RowKit Go.Maps Ar
theorem zU2{w:World}{e n g cap:Nat}{xs:List Value}{z0 z1 z2 z3:Value}(h:w.ownsRow 0 e 4 (.slice (some ⟨g,0,none⟩) (n+1) cap) (n+1) (xs++[z0,z1,z2,z3]))(hl:xs.length=n*4)(ua ub uc ud:Value):((((w.setCell ⟨g,n*4,none⟩ ua).setCell ⟨g,n*4+1,none⟩ ub).setCell ⟨g,n*4+2,none⟩ uc).setCell ⟨g,n*4+3,none⟩ ud).ownsRow 0 e 4 (.slice (some ⟨g,0,none⟩) (n+1) cap) (n+1) (xs++[ua,ub,uc,ud]):=by
 rcases h.2 with⟨e0,_⟩|⟨g',cap',cur,hv,hg,hh,h1,h2,h3,h4⟩
 ·cases e0
 ·cases hv;refine⟨by simp[hl];omega,.inr ⟨g,cap,_,rfl,hg,Y4 (Y4 (Y4 (Y4 hh _ ua) _ ub) _ uc) _ ud,h1,h2,by simpa using h3,?_⟩⟩;have ec:cur.toList=xs++(z0::z1::z2::z3::cur.toList.drop ((n+1)*4)):=by
   conv=>lhs;rw[<- List.take_append_drop ((n+1)*4) cur.toList,h4]
   simp
  simp only[Array.toList_setIfInBounds];rw[ec,List.set_append_right _ _ (by omega),List.set_append_right _ _ (by omega),List.set_append_right _ _ (by omega),List.set_append_right _ _ (by omega),hl,Nat.sub_self,Nat.add_sub_cancel_left,Nat.add_sub_cancel_left,Nat.add_sub_cancel_left];simp only[List.set_cons_zero,List.set_cons_succ];rw[List.take_append,List.take_of_length_le (by omega),hl,show(n+1)*4-n*4=4 by omega];simp
section
variable{w:World}{sb:Nat}{N:List Nm}{nv:Value}{xs:PX}{T A:List Nd}{Y:List (List Value)}{K:List Fr4}
def qr1(w:World)(sb:Nat)(N:List Nm)(nv:Value)(xs:PX)(T A:List Nd)(Y:List (List Value))(K:List Fr4)(p c:Int)(e:Ending)(w':World):Prop :=
 e=.returned (.tuple #[.int .i64 p,.int .i64 c])/\ze4 w sb nv xs N T A Y K w'
theorem zZ4(h:PSS w sb N nv xs T A Y K){w':World}(hx:q9 (fun _=>False) w w'):ze4 w sb nv xs N T A Y K w':=⟨hx.mono (fun _ _ f=>f.elim),nv,xs,h.ext hx (fun _ _ f=>f),fun _ hk=>.inl hk⟩
theorem jc3(s:ByteArray)(h:PSS w sb N nv xs T A Y K)(hs:600<s.size)(hm:s.size<=maxLen):
  Calls prog 25 #[.pointer (some ⟨sb,0,none⟩),.string s] w (qr1 w sb N nv xs T A Y K 0 1):=by
 have HC:=q8 (zJ3 (.pointer (some ⟨sb,0,none⟩)) s w hs hm);have c0:=z6 h.p.ts.blk 0;have H:=q8 h;clear h hs hm;go_enter func25,ntmps25;go_wp2_with fail;refine HC.out.mono ?_;rintro e w1 ⟨rfl,hx1⟩;have HX1:=q8 hx1;clear hx1;go_wp2_with fail
 go_ret2
 exact⟨rfl,zZ4 H.out (HX1.out.alloc _)⟩
theorem js6(s:ByteArray){e:Int}{p:Nat}(h:PSS w sb N nv xs T A Y K)(hs:s.size<=600)(hhd:U4 w)(hr:W7 N s.toList=.no e p):
  Calls prog 25 #[.pointer (some ⟨sb,0,none⟩),.string s] w (qr1 w sb N nv xs T A Y K p e):=by
 have HC:=q8 (zD2 s w hs h.ps.tab hhd);have he0:(e==0)=false:=by simpa using qZ3 hr
 have c0:=z6 h.p.ts.blk 0;have H:=q8 h;have HR:=q8 hr;clear h hs hhd hr;go_enter func25,ntmps25;go_wp2_with fail;refine HC.out.mono ?_;rintro en w1 ⟨hx1,hm⟩;rw[HR.out] at hm;subst hm;have HX1:=q8 hx1;clear hx1;go_wp2_with fail
 go_ret2
 exact⟨rfl,zZ4 H.out (HX1.out.alloc _)⟩
theorem jc4(s:ByteArray){nd:Nd}{us:List Tk}(h:PSS w sb N nv xs T A Y K)(hs:s.size<=600)(hhd:U4 w)(hr:W7 N s.toList=.ok nd us)(hf:20<=Y.length):
  Calls prog 25 #[.pointer (some ⟨sb,0,none⟩),.string s] w (qr1 w sb N nv xs T A Y K 0 8):=by
 have HC:=q8 (zD2 s w hs h.ps.tab hhd);obtain⟨hfo,_⟩:=h.fown;obtain⟨fa,fc,e1⟩:=Q0 hfo;have kb:=h.p.ts.blk;rw[e1] at kb;have c0:=z6 kb 0;have hsb:=z8 kb;have KB:=q8 kb;have H:=q8 h;have HR:=q8 hr;clear h hs hhd hr hfo e1 kb;go_enter func25,ntmps25;go_wp2_with fail;refine HC.out.mono ?_;rintro en w1 ⟨hx1,hm⟩;rw[HR.out] at hm;obtain⟨k,wd,v,sa,sn,sc,rfl,_⟩:=hm;have kb1:=(hx1.block sb hsb (fun f=>f)).trans KB.out;have c5:=z6 kb1 5;have hl1:=z8 kb1;have hne:¬sb=w1.heap.size:=by omega
 have HX1:=q8 hx1;clear hx1 kb1 c0;go_wp2_with fail
 go_ret2
 exact⟨rfl,zZ4 H.out (HX1.out.alloc _)⟩
theorem jc5{V w2:World}{b n:Nat}{o:Obj}{T' A':List Nd}(hlt:∀ k,SF sb nv xs k->k<b)(hb:b<=n)(hn:V.heap.size=n+1)(h:zj8 (V.alloc o).drew sb nv xs T' A' w2):w2.heap[n+1]?=some o:=by obtain⟨_,_,_,_,_,k2,_⟩:=h;rw[<- hn];refine(k2.block _ (by show V.heap.size<(V.alloc o).heap.size;simp) (fun e=>?_)).trans (heap_alloc_new V o);have:=hlt _ (.inl e);omega
theorem jc6{V:World}{b n:Nat}{o:Obj}{xs3:PX}(hlt:∀ k,SF sb nv xs k->k<b)(hb:b<=n)(hn:V.heap.size=n+1)(hF:∀ k,SF sb nv xs3 k->SF sb nv xs k\/(V.alloc o).drew.heap.size<=k):∀ k,SF sb nv xs3 k->¬k=n+1:=by
 intro k hk e;have hs:(V.alloc o).drew.heap.size=V.heap.size+1:=by show(V.alloc o).heap.size=_;simp
 rcases hF k hk with h|h
 ·have:=hlt k h;omega
 ·omega
theorem zA5(w:World)(g a b c d:Nat)(ua ub uc ud:Value):q9 (fun k=>k=g) w ((((w.setCell ⟨g,a,none⟩ ua).setCell ⟨g,b,none⟩ ub).setCell ⟨g,c,none⟩ uc).setCell ⟨g,d,none⟩ ud) :=
 ((((q9.refl (fun k=>k=g) w).setCell (p:=⟨g,a,none⟩) (fun _=>rfl) _).setCell (p:=⟨g,b,none⟩) (fun _=>rfl) _).setCell (p:=⟨g,c,none⟩) (fun _=>rfl) _).setCell (p:=⟨g,d,none⟩) (fun _=>rfl) _
theorem jo5{w:World}{e n g cap:Nat}{xs:List Value}{a b c d:Value}(h:w.ownsRow 0 e 4 (.slice (some ⟨g,0,none⟩) (n+1) cap) (n+1) (xs++[a,b,c,d]))(hl:xs.length=n*4):w.cell? ⟨g,n*4,none⟩=some a/\w.cell? ⟨g,n*4+1,none⟩=some b/\w.cell? ⟨g,n*4+2,none⟩=some c/\w.cell? ⟨g,n*4+3,none⟩=some d:=by
 have hc:∀ q,q<4->w.cell? ⟨g,n*4+q,none⟩=[a,b,c,d][q]?:=by intro q hq;rw[h.cellAt _ (by omega),List.getElem?_append_right (by omega),hl,show n*4+q-n*4=q by omega]
 exact⟨hc 0 (by decide),hc 1 (by decide),hc 2 (by decide),hc 3 (by decide)⟩
def zL8(w:World)(sb:Nat)(A':List Nd)(cs:List Value)(nd:Nd)(w':World):Prop :=
 FT w' (fun q=>w.heap.size<=q/\∀ v,w'.cell? ⟨sb,5,none⟩=some v->¬v.ownBlock=some q) A' cs nd
theorem zw1{w1:World}{N':List Nm}{T' A':List Nd}{Y':List (List Value)}{K':List Fr4}{cs:List Value}{nd:Nd}(h:ze4 w sb nv xs N' T' A' Y' K' w1)(hf:zL8 w sb A' cs nd w1)(hsb:sb<w.heap.size):
  Calls prog 42 #[.pointer (some ⟨sb,0,none⟩)] w1 fun e w'=>e=.returned (.tuple #[])/\ze4 w sb nv xs N' T' A' Y' K' w'/\zL8 w sb A' cs nd w':=by
 obtain⟨hx,nv',xs',hP,hF⟩:=h;refine(zR4 hP.p.ts.blk).mono ?_;rintro e w2 ⟨rfl,hx2,kb2⟩;refine⟨rfl,⟨hx.trans' hx2 (fun _ _ e=>.inl (.inl (.inl e))),nv',{ xs' with vd:=.int .i64 0,ml:=.map none },hP.turn _ _ hx2 kb2,hF⟩,?_⟩;have c1:=z6 hP.p.ts.blk 5;have c2:=z6 kb2 5;refine(FT.ext hf hx2 (fun q _ hd e=>by have:=hd.1;omega)).mono (fun q _ hd=>⟨hd.1,fun v hv=>?_⟩);refine hd.2 v ?_;rw[c1];rw[c2] at hv;exact hv
theorem zU3{W w0 w3 W':World}{xs3:PX}{T' A':List Nd}{g cap':Nat}{cs:List Value}{nd:Nd}(h:PSS W sb N nv xs3 T' A' Y K)(hf:Y.length<20)(h0:q9 (fun _=>False) W w0)(hgrow:w0.grownBy w3 xs3.fs.ownBlock)(hat:xs3.fs.ownBlock=some g\/W.heap.size<=g)(hx:q9 (fun k=>k=g\/k=sb) w3 W')(hown:W'.ownsRow 0 112 4 (.slice (some ⟨g,0,none⟩) (Y.length+1) cap') (Y.length+1) (Y.flatten++cs))(hc4:cs.length=4)(kb:W'.heap[sb]?=some (.cells #[nv,xs3.ts,xs3.tm,xs3.at_,xs3.am,.slice (some ⟨g,0,none⟩) (Y.length+1) cap',xs3.ks,xs3.vd,xs3.ml] 98))(hft:FT W (fun q=>w.heap.size<=q) A' cs nd)(hfs:∀ k,xs3.fs.ownBlock=some k->k<w.heap.size)(hsb:sb<w.heap.size):
  zL8 w sb A' cs nd W'/\∃ xs4,PSS W' sb N nv xs4 T' A' (Y++[cs]) K/\zm1 W sb nv xs3 nv xs4 W':=by
 have hE:q9 (fun k=>k=sb\/xs3.fs.ownBlock=some k) W W':=(((h0.mono (fun _ _ f=>f.elim)).grown hgrow (fun k hk _=>Or.inr hk)).trans' hx (fun k hk e=>by
  rcases e with e|e
  ·subst e;rcases hat with e2|e2
   ·exact .inr e2
   ·omega
  ·exact .inl e))
 have hy:(Y++[cs]).length=Y.length+1:=by simp
 obtain⟨h1,h2⟩:=qy7 (Y':=Y++[cs]) (fv':=.slice (some ⟨g,0,none⟩) (Y.length+1) cap') h kb (by rw[hy,List.flatten_append];simpa using hown) (fun c hc=>by
  rcases List.mem_append.1 hc with e|e
  ·exact h.fown.2 c e
  ·rw[List.mem_singleton.1 e];exact hc4) (by omega) hE (fun k hk=>by
  simp[Value.ownBlock] at hk;subst hk;exact hat)
 refine⟨?_,_,h1,h2⟩;have c5:=z6 kb 5;refine((hft.mono (D':=fun q=>w.heap.size<=q/\¬q=g) (fun q hq hd=>⟨hd,fun e=>?_⟩)).ext hE (fun q hq hd e=>?_)).mono (fun q hq hd=>⟨hd.1,fun v hv e=>?_⟩)
 ·subst e;rcases hat with e2|e2
  ·have:=hfs q e2;omega
  ·omega
 ·rcases e with e|e
  ·omega
  ·have:=hfs q e;omega
 ·rw[c5] at hv;obtain rfl:Value.slice (some ⟨g,0,none⟩) (Y.length+1) cap' = v:=by simpa using hv
  simp[Value.ownBlock] at e;exact hd.2 e.symm
theorem qG1(w:World)(g sb a b c d:Nat)(ua ub uc ud u:Value):q9 (fun k=>k=g\/k=sb) w (((((w.setCell ⟨g,a,none⟩ ua).setCell ⟨g,b,none⟩ ub).setCell ⟨g,c,none⟩ uc).setCell ⟨g,d,none⟩ ud).setCell ⟨sb,5,none⟩ u) :=
 ((zA5 w g a b c d ua ub uc ud).mono (fun _ _ e=>Or.inl e)).trans' ((q9.refl (fun k=>k=sb) _).setCell (p:=⟨sb,5,none⟩) (fun _=>rfl) u) (fun _ _ e=>Or.inr e)
theorem qG2(w:World)(g sb a b c d:Nat)(ua ub uc ud u:Value):q9 (fun k=>k=g\/k=sb) w (((((w.setCell ⟨sb,5,none⟩ u).setCell ⟨g,a,none⟩ ua).setCell ⟨g,b,none⟩ ub).setCell ⟨g,c,none⟩ uc).setCell ⟨g,d,none⟩ ud) :=
 (((q9.refl (fun k=>k=sb) w).setCell (p:=⟨sb,5,none⟩) (fun _=>rfl) u).mono (fun _ _ e=>Or.inr e)).trans' (zA5 _ g a b c d ua ub uc ud) (fun _ _ e=>Or.inl e)
section
variable{W w0 w3:World}{xs3:PX}{T' A':List Nd}{g cap':Nat}{z0 z1 z2 z3 fs0:Value}{nd:Nd}
theorem qG3(ua ub uc ud:Value)(hP:PSS W sb N nv xs3 T' A' Y K)(hG:zm1 w sb nv xs nv xs3 W)(hf:Y.length<20)(h0:q9 (fun _=>False) W w0)(hgr:w0.grownBy w3 xs3.fs.ownBlock)(hat:xs3.fs.ownBlock=some g\/W.heap.size<=g)(hown:w3.ownsRow 0 112 4 (.slice (some ⟨g,0,none⟩) (Y.length+1) cap') (Y.length+1) (Y.flatten++[z0,z1,z2,z3]))(hgs:¬sb=g)(kb3:w3.heap[sb]?=some (.cells #[nv,xs3.ts,xs3.tm,xs3.at_,xs3.am,fs0,xs3.ks,xs3.vd,xs3.ml] 98))(hft:FT W (fun q=>w.heap.size<=q) A' [ua,ub,uc,ud] nd)(hfs:∀ k,xs3.fs.ownBlock=some k->k<w.heap.size)(hsb:sb<w.heap.size):
  ze4 w sb nv xs N T' A' (Y++[[ua,ub,uc,ud]]) K (((((w3.setCell ⟨g,Y.length*4,none⟩ ua).setCell ⟨g,Y.length*4+1,none⟩ ub).setCell ⟨g,Y.length*4+2,none⟩ uc).setCell ⟨g,Y.length*4+3,none⟩ ud).setCell ⟨sb,5,none⟩ (.slice (some ⟨g,0,none⟩) (Y.length+1) cap'))/\zL8 w sb A' [ua,ub,uc,ud] nd (((((w3.setCell ⟨g,Y.length*4,none⟩ ua).setCell ⟨g,Y.length*4+1,none⟩ ub).setCell ⟨g,Y.length*4+2,none⟩ uc).setCell ⟨g,Y.length*4+3,none⟩ ud).setCell ⟨sb,5,none⟩ (.slice (some ⟨g,0,none⟩) (Y.length+1) cap')):=by
 obtain⟨h4,xs4,h5,h6⟩:=zU3 hP hf h0 hgr hat (qG1 w3 g sb _ _ _ _ ua ub uc ud (.slice (some ⟨g,0,none⟩) (Y.length+1) cap')) (z7 (zU2 hown hP.fown.1.1 ua ub uc ud) ((q9.refl (fun k=>k=sb) _).setCell (p:=⟨sb,5,none⟩) (fun _=>rfl) _) (fun k hk e=>by simp[Value.ownBlock] at hk;omega)) rfl (Y4 (((zA5 w3 g _ _ _ _ _ _ _ _).block sb (z8 kb3) hgs).trans kb3) 5 _) hft hfs hsb;have hG2:=hG.trans h6;exact⟨⟨hG2.1,nv,xs4,h5,hG2.2⟩,h4⟩
theorem qG4(ua ub uc ud:Value)(hP:PSS W sb N nv xs3 T' A' Y K)(hG:zm1 w sb nv xs nv xs3 W)(hf:Y.length<20)(h0:q9 (fun _=>False) W w0)(hgr:w0.grownBy w3 xs3.fs.ownBlock)(hat:xs3.fs.ownBlock=some g\/W.heap.size<=g)(hown:w3.ownsRow 0 112 4 (.slice (some ⟨g,0,none⟩) (Y.length+1) cap') (Y.length+1) (Y.flatten++[z0,z1,z2,z3]))(hgs:¬sb=g)(kb3:w3.heap[sb]?=some (.cells #[nv,xs3.ts,xs3.tm,xs3.at_,xs3.am,fs0,xs3.ks,xs3.vd,xs3.ml] 98))(hft:FT W (fun q=>w.heap.size<=q) A' [ua,ub,uc,ud] nd)(hfs:∀ k,xs3.fs.ownBlock=some k->k<w.heap.size)(hsb:sb<w.heap.size):
  ze4 w sb nv xs N T' A' (Y++[[ua,ub,uc,ud]]) K (((((w3.setCell ⟨sb,5,none⟩ (.slice (some ⟨g,0,none⟩) (Y.length+1) cap')).setCell ⟨g,Y.length*4,none⟩ ua).setCell ⟨g,Y.length*4+1,none⟩ ub).setCell ⟨g,Y.length*4+2,none⟩ uc).setCell ⟨g,Y.length*4+3,none⟩ ud)/\zL8 w sb A' [ua,ub,uc,ud] nd (((((w3.setCell ⟨sb,5,none⟩ (.slice (some ⟨g,0,none⟩) (Y.length+1) cap')).setCell ⟨g,Y.length*4,none⟩ ua).setCell ⟨g,Y.length*4+1,none⟩ ub).setCell ⟨g,Y.length*4+2,none⟩ uc).setCell ⟨g,Y.length*4+3,none⟩ ud):=by
 obtain⟨h4,xs4,h5,h6⟩:=zU3 hP hf h0 hgr hat (qG2 w3 g sb _ _ _ _ ua ub uc ud (.slice (some ⟨g,0,none⟩) (Y.length+1) cap')) (zU2 (z7 hown ((q9.refl (fun k=>k=sb) _).setCell (p:=⟨sb,5,none⟩) (fun _=>rfl) _) (fun k hk e=>by simp[Value.ownBlock] at hk;omega)) hP.fown.1.1 ua ub uc ud) rfl (((zA5 _ g _ _ _ _ _ _ _ _).block sb (by simpa using z8 kb3) hgs).trans (Y4 kb3 5 _)) hft hfs hsb;have hG2:=hG.trans h6;exact⟨⟨hG2.1,nv,xs4,h5,hG2.2⟩,h4⟩
end
end
section
variable{w:World}{sb:Nat}{N:List Nm}{nv:Value}{xs:PX}{T A:List Nd}{Y:List (List Value)}{K:List Fr4}
theorem jc7(s:ByteArray){nd:Nd}{us:List Tk}(h:PSS w sb N nv xs T A Y K)(hs:s.size<=600)(hhd:U4 w)(hr:W7 N s.toList=.ok nd us)(hf:Y.length<20):
    Calls prog 25 #[.pointer (some ⟨sb,0,none⟩),.string s] w fun e w'=>∃ T' A',U2 T T' (J0 true nd)/\U2 A A' (J0 false nd)/\e=.returned (.tuple #[.int .i64 0,.int .i64 (ze9 T'.length A'.length)]) /\
      (ze9 T'.length A'.length=0->∃ cs,ze4 w sb nv xs N T' A' (Y++[cs]) K w'/\zL8 w sb A' cs nd w')/\(¬ze9 T'.length A'.length=0->ze4 w sb nv xs N T A Y K w'):=by
  have HC:=q8 (zD2 s w hs h.ps.tab hhd);have HOK:=q8 (zG6 h.ok hr);have HFL:=q8 (qZ4 hs hr).2;obtain⟨hfo,_⟩:=h.fown;obtain⟨fa,fc,e1⟩:=Q0 hfo;have htf:=h.tfew;have haf:=h.afew;have kb:=h.p.ts.blk;have c0:=z6 kb 0;have hsb:=z8 kb;have KB:=q8 kb;have H:=q8 h;have HR:=q8 hr;have HLT:=q8 h.lt;clear h hs hhd hr hfo kb;go_enter func25,ntmps25;go_wp2_with fail;refine HC.out.mono ?_;rintro en w1 ⟨hx1,hm⟩;rw[HR.out] at hm;obtain⟨k',wd',v',pa',pn',pc',rfl,hpn⟩:=hm;have kb1:=(hx1.block sb hsb (fun f=>f)).trans KB.out;rw[e1] at kb1;have c5:=z6 kb1 5;have hl1:=z8 kb1;have hne:¬sb=w1.heap.size:=by omega
  obtain⟨V,hV⟩:∃ V,w1.alloc (.cells #[.int .i64 k',.string wd',.int .i64 v',.slice pa' pn' pc'] 115)=V:=⟨_,rfl⟩;have hxV:q9 (fun _=>False) w V:=by rw[<- hV];exact hx1.alloc _
  have hs1:=hx1.size;have hVs:V.heap.size=w1.heap.size+1:=by rw[<- hV];simp
  have hPV0:=H.out.ext hxV (fun _ _ f=>f);have hpnV0:PN V (fun k=>w.heap.size<=k/\k<w1.heap.size) [.int .i64 k',.string wd',.int .i64 v',.slice pa' pn' pc'] nd:=hpn.within.ext (by rw[<- hV];exact(q9.refl (fun _=>False) w1).alloc _) (fun _ _ _ f=>f);have HC2:Hid (∀ W,q9 (fun _=>False) V W->Calls prog 48 #[.pointer (some ⟨sb,1,none⟩),.agg #[.int .i64 k',.string wd',.int .i64 v',.slice pa' pn' pc']] W (qQ9 W sb nv xs T A nd)):=fun W hW=>
    qF6 HOK.out HFL.out (hpnV0.ext hW (fun _ _ _ f=>f)) (fun k hk=>by have:=hW.size;omega) (fun k hk hp=>by have:=HLT.out k (.inl hp);omega) (hPV0.ext hW (fun _ _ f=>f)).p htf haf
  have HPV:=q8 hPV0;have HXV:=q8 hxV;have HV:=q8 hV;have kN:V.heap[w1.heap.size]?=some (.cells #[.int .i64 k',.string wd',.int .i64 v',.slice pa' pn' pc'] 115):=by rw[<- hV];exact heap_alloc_new w1 _
  have m0:=z6 kN 0;have m1:=z6 kN 1;have m2:=z6 kN 2;have m3:=z6 kN 3;clear hx1 hxV hPV0 hpnV0 hV hpn kb1 kN c0;go_wp2_with fail;rw[HV.out]
  go_region_law (go_simp;go_wp2_with (go_at_call 48;first|(refine(HC2.out V.drew ((q9.refl (fun _=>False) V).drew)).mono ?_;rintro e w2 ⟨T2,A2,hT2,hA2,rk,rw',ri,rpa,rpn,rpc,rfl,hft,hap⟩;have HFT:=q8 hft;clear hft;have HT2:=q8 hT2;have HA2:=q8 hA2;have HXB:Hid (q9 (fun _=>False) V V.drew):=(q9.refl (fun _=>False) V).drew;have HAP:=q8 hap;clear hT2 hA2 hap)|(refine(HC2.out (V.alloc (.cells #[.int .i64 0,.string ⟨#[]⟩,.int .i64 0,.slice none 0 0] 112)).drew (((q9.refl (fun _=>False) V).alloc _).drew)).mono ?_;rintro e w2 ⟨T2,A2,hT2,hA2,rk,rw',ri,rpa,rpn,rpc,rfl,hft,hap⟩;have HFT:=q8 hft;clear hft;have HT2:=q8 hT2;have HA2:=q8 hA2;have kz:w2.heap[w1.heap.size+1]?=some (.cells #[.int .i64 0,.string ⟨#[]⟩,.int .i64 0,.slice none 0 0] 112):=jc5 HLT.out (by omega) hVs hap;have KZ:=q8 kz;have y0:=z6 kz 0;have y1:=z6 kz 1;have y2:=z6 kz 2;have y3:=z6 kz 3;have x0:=Q8 kz 0;have x1:=Q8 kz 1;have x2:=Q8 kz 2;have x3:=Q8 kz 3;have HXB:Hid (q9 (fun _=>False) V (V.alloc (.cells #[.int .i64 0,.string ⟨#[]⟩,.int .i64 0,.slice none 0 0] 112)).drew):=((q9.refl (fun _=>False) V).alloc _).drew;have HAP:=q8 hap;clear hT2 hA2 hap kz)))
  all_goals
    obtain⟨cd,hcd⟩:∃ cd,ze9 T2.length A2.length=cd:=⟨_,rfl⟩;have hap:=HAP.out;rw[hcd] at hap;rw[hcd];have HCD:=q8 hcd;have hTA:(if cd=0 then T2 else T).length<=12/\(if cd=0 then A2 else A).length<=16:=by
      by_cases h0:cd=0
      · rw[if_pos h0,if_pos h0]
        rw[h0] at hcd;unfold ze9 at hcd;by_cases h1:12<T2.length
        · rw[if_pos h1] at hcd;exact absurd hcd (by decide)
        · rw[if_neg h1] at hcd
          by_cases h2:16<A2.length
          · rw[if_pos h2] at hcd;exact absurd hcd (by decide)
          · omega
      · rw[if_neg h0,if_neg h0]
        exact⟨htf,haf⟩
    obtain⟨xs3,hP3,he5,he6,hG3⟩:=qh5 (HPV.out.ext HXB.out (fun _ _ f=>f)) hap hTA.1 hTA.2;have hGB:=zm1.of_ext (HXV.out.trans HXB.out) hG3;have kb2:=hP3.p.ts.blk;rw[he5,e1] at kb2;have hl2:=z8 kb2;have hsz2:V.heap.size<=w2.heap.size:=Nat.le_trans HXB.out.size hG3.1.size;have hne2:¬sb=w2.heap.size:=by omega
    have hne3:¬sb=w1.heap.size+1:=by omega
    have HP3:=q8 hP3;have HGB:=q8 hGB;have HG3:=q8 hG3.2;have KB2:=q8 kb2;clear hap hcd hTA hP3 hG3 hGB kb2
    first
      | (obtain⟨W,hW⟩:∃ W,(((w2.setCell ⟨w1.heap.size+1,0,none⟩ (.int .i64 rk)).setCell ⟨w1.heap.size+1,1,none⟩ (.string rw')).setCell ⟨w1.heap.size+1,2,none⟩ (.int .i64 ri)).setCell ⟨w1.heap.size+1,3,none⟩ (.slice rpa rpn rpc)=W:=⟨_,rfl⟩
         have HWX:Hid (q9 (fun k=>k=w1.heap.size+1) w2 W):=by rw[<- hW];exact(((((q9.refl (fun k=>k=w1.heap.size+1) w2).setCell (p:=⟨w1.heap.size+1,0,none⟩) (fun _=>rfl) _).setCell (p:=⟨w1.heap.size+1,1,none⟩) (fun _=>rfl) _).setCell (p:=⟨w1.heap.size+1,2,none⟩) (fun _=>rfl) _).setCell (p:=⟨w1.heap.size+1,3,none⟩) (fun _=>rfl) _)
         have KT:Hid (W.heap[w1.heap.size+1]?=some (.cells #[.int .i64 rk,.string rw',.int .i64 ri,.slice rpa rpn rpc] 112)):=by rw[<- hW];exact Y4 (Y4 (Y4 (Y4 KZ.out 0 _) 1 _) 2 _) 3 _
         have HPW:Hid (PSS W sb N nv xs3 (if cd=0 then T2 else T) (if cd=0 then A2 else A) Y K/\zm1 w sb nv xs nv xs3 W):=by have hno:∀ k,SF sb nv xs3 k->¬k=w1.heap.size+1:=jc6 HLT.out hs1 hVs HG3.out;exact⟨HP3.out.ext HWX.out hno,HGB.out.1.trans' HWX.out (fun k hk e=>by omega),HGB.out.2⟩
         have HFW:Hid (cd=0->FT W (fun q=>w.heap.size<=q) A2 [.int .i64 rk,.string rw',.int .i64 ri,.slice rpa rpn rpc] nd):=fun e=>by
           have hsz:(V.alloc (.cells #[.int .i64 0,.string ⟨#[]⟩,.int .i64 0,.slice none 0 0] 112)).drew.heap.size=V.heap.size+1:=by show(V.alloc _).heap.size=_;simp
           exact((HFT.out (HCD.out.trans e)).ext HWX.out (fun q _ hd e=>by omega)).mono (fun q _ hd=>by omega)
         rw[hW];clear hW)
      | (obtain⟨W,hW⟩:∃ W,w2.alloc (.cells #[.int .i64 rk,.string rw',.int .i64 ri,.slice rpa rpn rpc] 112)=W:=⟨_,rfl⟩
         have HWX:Hid (q9 (fun _=>False) w2 W):=by rw[<- hW];exact(q9.refl _ w2).alloc _
         have KT:Hid (W.heap[w2.heap.size]?=some (.cells #[.int .i64 rk,.string rw',.int .i64 ri,.slice rpa rpn rpc] 112)):=by rw[<- hW];exact heap_alloc_new w2 _
         have HPW:Hid (PSS W sb N nv xs3 (if cd=0 then T2 else T) (if cd=0 then A2 else A) Y K/\zm1 w sb nv xs nv xs3 W):=⟨HP3.out.ext HWX.out (fun _ _ f=>f),HGB.out.ext HWX.out⟩;have HFW:Hid (cd=0->FT W (fun q=>w.heap.size<=q) A2 [.int .i64 rk,.string rw',.int .i64 ri,.slice rpa rpn rpc] nd):=fun e=>by have hsz:V.heap.size<=V.drew.heap.size:=Nat.le_refl _;exact((HFT.out (HCD.out.trans e)).ext HWX.out (fun _ _ _ f=>f)).mono (fun q _ hd=>by omega)
         rw[hW];clear hW)
    by_cases hc0:cd=0
    · subst hc0
      have hpw:=HPW.out;rw[if_pos rfl,if_pos rfl] at hpw;have HPW2:=q8 hpw;have kbW:=hpw.1.p.ts.blk;obtain⟨hfoW,_⟩:=hpw.1.fown;have hzl:=hfoW.1;rw[he5,e1] at kbW hfoW;have w5:=z6 kbW 5;have hlW:=z8 kbW;have hneW:¬sb=W.heap.size:=by omega
      have t0:=z6 KT.out 0;have t1:=z6 KT.out 1;have t2:=z6 KT.out 2;have t3:=z6 KT.out 3;have hlT:=z8 KT.out;have KBW:=q8 kbW;have HFO:=q8 hfoW;have HSB:Hid (∀ k,(Value.slice fa Y.length fc).ownBlock=some k->¬k=sb):=fun k hk e=>(hpw.1.f1 k (by rw[he5,e1];exact hk)).1 (.inl (.inl e))
      have HFB:Hid (∀ k,(Value.slice fa Y.length fc).ownBlock=some k->k<w.heap.size):=fun k hk=>HLT.out k (.inr (.inr (.inl (by rw[e1];exact hk))))
      obtain⟨i0,hi,hz0,hz1,hz2⟩:=info_parts zH8;have hlt1:(Y.length:Int)<(Y.length:Int)+1:=by omega
      clear hpw kbW hfoW;go_wp2_with fail
      go_region_law ((refine step_append_lies _ (by rfl) _ _ _ (by rfl) 0 112 i0 _ 4 56 underlying89 hi hz0 hz1 hz2 rfl (by omega) (.slice fa Y.length fc) Y.length Y.flatten (by rfl) ((HFO.out.alloc _).drew) ⟨W.heap.size,0,none⟩ 1 1 [.int .i64 0,.string ⟨#[]⟩,.int .i64 0,.slice none 0 0] (by rfl) (by rfl) (World.news_of_block (cs:=#[.int .i64 0,.string ⟨#[]⟩,.int .i64 0,.slice none 0 0]) (t:=112) (fr:=(0,0)) (heap_alloc_new W _)) (by simp[Value.oneCell']) (by omega) (by unfold maxLen;omega) (by omega) (Nat.zero_le _) (W.heap.size+1) (by simp) ?_;intro g cap' w3 hown3 hgrow hat hlt3;have kb3:w3.heap[sb]?=some (.cells #[nv,xs3.ts,xs3.tm,xs3.at_,xs3.am,.slice fa Y.length fc,xs3.ks,xs3.vd,xs3.ml] 98):=(hgrow.block sb (by simp;omega) (fun e=>HSB.out sb e.symm rfl)).trans ((Below.heap_alloc W _ sb hlW).trans KBW.out);have d5:=z6 kb3 5;have d5f:=Q8 kb3 5;have kt3:=(hgrow.block _ (by simp;omega) (fun e=>by have:=HFB.out _ e.symm;omega)).trans ((Below.heap_alloc W _ _ hlT).trans KT.out);have q0:=z6 kt3 0;have q1:=z6 kt3 1;have q2:=z6 kt3 2;have q3:=z6 kt3 3;obtain⟨u0,u1,u2,u3⟩:=jo5 hown3 (by omega);have hrc:=zb5 hown3;have p0:=(hrc (Y.length*4) (by omega)).2;have p1:=(hrc (Y.length*4+1) (by omega)).2;have p2:=(hrc (Y.length*4+2) (by omega)).2;have p3:=(hrc (Y.length*4+3) (by omega)).2;have hgs:¬g=sb:=fun e=>hat.elim (fun e2=>HSB.out g e2 e) (fun e2=>(by omega));have hgs2:¬sb=g:=fun e=>hgs e.symm;clear hrc kt3))
      all_goals
        go_wp2_with fail;have hgr:(W.alloc (.cells #[.int .i64 0,.string ⟨#[]⟩,.int .i64 0,.slice none 0 0] 112)).drew.grownBy w3 xs3.fs.ownBlock:=by rw[he5,e1];exact hgrow
        have hat2:xs3.fs.ownBlock=some g\/W.heap.size<=g:=by rw[he5,e1];exact hat.imp id (fun e=>by omega)
        have h0x:q9 (fun _=>False) W (W.alloc (.cells #[.int .i64 0,.string ⟨#[]⟩,.int .i64 0,.slice none 0 0] 112)).drew:=((q9.refl _ W).alloc _).drew;have hpp:=HPW2.out.1;have hgg:=HPW2.out.2;have hff:=HFW.out (by simp);have hfs:∀ k,xs3.fs.ownBlock=some k->k<w.heap.size:=by rw[he5,e1];exact HFB.out
        have hfA:=qG3 (.int .i64 rk) (.string rw') (.int .i64 ri) (.slice rpa rpn rpc) hpp hgg hf h0x hgr hat2 hown3 hgs2 kb3 hff hfs hsb;have hfB:=qG4 (.int .i64 rk) (.string rw') (.int .i64 ri) (.slice rpa rpn rpc) hpp hgg hf h0x hgr hat2 hown3 hgs2 kb3 hff hfs hsb
        first
          | with_reducible refine(zw1 hfA.1 hfA.2 hsb).mono ?_
          | with_reducible refine(zw1 hfB.1 hfB.2 hsb).mono ?_
        rintro e w9 ⟨rfl,h9⟩;have H9:=q8 h9;clear h9 hgr hat2 h0x hpp hgg hff hfs hfA hfB;go_wp2_with fail
        go_ret2
        exact⟨T2,A2,HT2.out,HA2.out,by rw[HCD.out];rfl,fun _=>⟨_,H9.out⟩,fun e=>absurd HCD.out e⟩
    · have hc0':(cd==0)=false:=by simpa using hc0
      go_wp2_with fail
      go_ret2
      have hpw:=HPW.out;rw[if_neg hc0,if_neg hc0] at hpw;exact⟨T2,A2,HT2.out,HA2.out,by rw[HCD.out];rfl,fun e=>absurd (HCD.out.symm.trans e) hc0,fun _=>⟨hpw.2.1,nv,xs3,hpw.1,hpw.2.2⟩⟩
end
end
section
open Ar
structure zB6(t:Bool)(T:List Nd)(L:List (Nd × Int)):Prop where
 nd:T.Nodup
 mem:∀ x,x∈T↔∃ p∈L,x∈J0 t p.1
structure Fit(N:List Nm)(L:List (Nd × Int))(T A:List Nd)(F:Int)(k:Fr4):Prop where
 n:k.n<=N.length
 f:k.f<=L.length
 t:k.t<=T.length
 a:k.a<=A.length
 ns:N.take k.n=N.filter (fun x=>decide (x.fr<F))
 fs:L.take k.f=L.filter (fun x=>decide (x.2<F))
 ts:zB6 true (T.take k.t) (L.take k.f)
 aw:zB6 false (A.take k.a) (L.take k.f)
def Fr4.le(j k:Fr4):Prop:=j.n<=k.n/\j.t<=k.t/\j.a<=k.a/\j.f<=k.f
structure Stk(N:List Nm)(L:List (Nd × Int))(T A:List Nd)(K:List Fr4):Prop where
 ts:zB6 true T L
 aw:zB6 false A L
 ok:∀ p∈L,zk1 p.1
 nfr:∀ x∈N,x.fr<=K.length
 lfr:∀ p∈L,p.2<=K.length
 fit:∀ (j:Nat) (k:Fr4),K[j]?=some k->Fit N L T A ((j:Int)+1) k
 up:K.Pairwise Fr4.le
theorem zB6.nil(t:Bool):zB6 t [] []:=⟨List.nodup_nil,fun x=>by simp⟩
theorem jh4:Stk [] [] [] [] []:=⟨zB6.nil _,zB6.nil _,by simp,by simp,by simp,by simp,List.Pairwise.nil⟩
theorem zs7{α:Type}{p:α->Bool}{l:List α}{x:α}(h:p x=false):(l++[x]).filter p=l.filter p:=by simp[h]
theorem zE6{α:Type}{l m:List α}{n:Nat}(h:n<=l.length):(l++m).take n=l.take n:=by rw[List.take_append_of_le_length h]
theorem qa9{α:Type}{l:List α}{i:Nat}{x:α}(h:l[i]?=some x):i<l.length:=(List.getElem?_eq_some_iff.1 h).1
theorem Stk.name{N:List Nm}{L:List (Nd × Int)}{T A:List Nd}{K:List Fr4}(h:Stk N L T A K)(s:ByteArray)(a:Int):Stk (N++[⟨s,a,K.length⟩]) L T A K where
 ts:=h.ts
 aw:=h.aw
 ok:=h.ok
 nfr:=by
  intro x hx;rcases List.mem_append.1 hx with hx|hx
  ·exact h.nfr x hx
  ·simp at hx;subst hx;exact Int.le_refl _
 lfr:=h.lfr
 fit:=by intro j k hk;have hf:=h.fit j k hk;have hj:=qa9 hk;exact⟨by have:=hf.n;simp;omega,hf.f,hf.t,hf.a,by rw[zE6 hf.n,zs7 (by simp;omega)];exact hf.ns,hf.fs,hf.ts,hf.aw⟩
 up:=h.up
theorem Stk.decl{N:List Nm}{L:List (Nd × Int)}{T A:List Nd}{K:List Fr4}(h:Stk N L T A K)(s:ByteArray)(a:Int):Stk (za7 N K.length s a) L T A K:=by
 unfold za7;by_cases e:K8 N s.toList a=0
 ·rw[if_pos e];exact h.name s a
 ·rw[if_neg e];exact h
theorem zO8{α:Type}{p:α->Bool}{l:List α}(h:∀ x∈l,p x=true):l.filter p=l:=List.filter_eq_self.2 h
theorem Stk.push{N:List Nm}{L:List (Nd × Int)}{T A:List Nd}{K:List Fr4}(h:Stk N L T A K):Stk N L T A (K++[⟨N.length,T.length,A.length,L.length⟩]) where
 ts:=h.ts
 aw:=h.aw
 ok:=h.ok
 nfr:=fun x hx=>by have:=h.nfr x hx;simp;omega
 lfr:=fun x hx=>by have:=h.lfr x hx;simp;omega
 fit:=by
  intro j k hk;by_cases hj:j<K.length
  ·rw[List.getElem?_append_left hj] at hk;exact h.fit j k hk
  ·have hl:=qa9 hk;simp at hl;have e:j=K.length:=by omega
   subst e;simp at hk;subst hk;refine⟨Nat.le_refl _,Nat.le_refl _,Nat.le_refl _,Nat.le_refl _,?_,?_,?_,?_⟩
   ·rw[List.take_length,zO8 (fun x hx=>by have:=h.nfr x hx;simp;omega)]
   ·rw[List.take_length,zO8 (fun x hx=>by have:=h.lfr x hx;simp;omega)]
   ·simp only[List.take_length];exact h.ts
   ·simp only[List.take_length];exact h.aw
 up:=by rw[List.pairwise_append];refine⟨h.up,List.pairwise_singleton _ _,fun a ha b hb=>?_⟩;simp at hb;subst hb;obtain⟨j,hj,e⟩:=List.getElem_of_mem ha;have hf:=h.fit j a (by rw[<- e];exact List.getElem?_eq_getElem hj);exact⟨hf.n,hf.t,hf.a,hf.f⟩
theorem Stk.pop{N:List Nm}{L:List (Nd × Int)}{T A:List Nd}{K:List Fr4}{k:Fr4}(h:Stk N L T A (K++[k])):Stk (N.take k.n) (L.take k.f) (T.take k.t) (A.take k.a) K/\N.take k.n=N.filter (fun x=>decide (x.fr<(K.length:Int)+1))/\L.take k.f=L.filter (fun x=>decide (x.2<(K.length:Int)+1)):=by
 have hl:=h.fit K.length k (by simp);refine⟨⟨hl.ts,hl.aw,fun p hp=>h.ok p (List.mem_of_mem_take hp),fun x hx=>?_,fun x hx=>?_,fun j q hq=>?_,(List.pairwise_append.1 h.up).1⟩,hl.ns,hl.fs⟩
 ·rw[hl.ns,List.mem_filter] at hx;have:=hx.2;simp at this;omega
 ·rw[hl.fs,List.mem_filter] at hx;have:=hx.2;simp at this;omega
 ·have hj:=qa9 hq;have hf:=h.fit j q (by rw[List.getElem?_append_left hj];exact hq);have hle:Fr4.le q k:=(List.pairwise_append.1 h.up).2.2 q (List.mem_of_getElem? hq) k (by simp);obtain⟨l1,l2,l3,l4⟩:=hle;have en:(N.take k.n).take q.n=N.take q.n:=by rw[List.take_take,Nat.min_eq_left l1]
  have ef:(L.take k.f).take q.f=L.take q.f:=by rw[List.take_take,Nat.min_eq_left l4]
  have et:(T.take k.t).take q.t=T.take q.t:=by rw[List.take_take,Nat.min_eq_left l2]
  have ea:(A.take k.a).take q.a=A.take q.a:=by rw[List.take_take,Nat.min_eq_left l3]
  refine⟨?_,?_,?_,?_,?_,?_,?_,?_⟩
  ·rw[List.length_take];have:=hl.n;omega
  ·rw[List.length_take];have:=hl.f;omega
  ·rw[List.length_take];have:=hl.t;omega
  ·rw[List.length_take];have:=hl.a;omega
  ·rw[en,hf.ns,hl.ns,List.filter_filter];refine List.filter_congr (fun x _=>?_);by_cases hx:x.fr<(j:Int)+1
   ·have:x.fr<(K.length:Int)+1:=by omega
    simp[hx,this]
   ·simp[hx]
  ·rw[ef,hf.fs,hl.fs,List.filter_filter];refine List.filter_congr (fun x _=>?_);by_cases hx:x.2<(j:Int)+1
   ·have:x.2<(K.length:Int)+1:=by omega
    simp[hx,this]
   ·simp[hx]
  ·rw[et,ef];exact hf.ts
  ·rw[ea,ef];exact hf.aw
theorem zB6.snoc{t:Bool}{T T':List Nd}{L:List (Nd × Int)}{nd:Nd}{F:Int}(h:zB6 t T L)(hn:T'.Nodup)(ha:U2 T T' (J0 t nd)):zB6 t T' (L++[(nd,F)]):=by
 refine⟨hn,fun x=>?_⟩;rw[ha.mem,h.mem];constructor
 ·rintro(⟨p,hp,hx⟩|hx)
  ·exact⟨p,by simp[hp],hx⟩
  ·exact⟨(nd,F),by simp,hx⟩
 ·rintro⟨p,hp,hx⟩;rcases List.mem_append.1 hp with hp|hp
  ·exact .inl ⟨p,hp,hx⟩
  ·simp at hp;subst hp;exact .inr hx
theorem qk7{α:Type}{l m:List α}{n:Nat}(h:l <+:m)(hn:n<=l.length):m.take n=l.take n:=by obtain⟨r,rfl⟩:=h;exact zE6 hn
theorem Stk.take{N:List Nm}{L:List (Nd × Int)}{T A T' A':List Nd}{K:List Fr4}{nd:Nd}(h:Stk N L T A K)(hok:zk1 nd)(hT:U2 T T' (J0 true nd))(hA:U2 A A' (J0 false nd))(hTn:T'.Nodup)(hAn:A'.Nodup):Stk N (L++[(nd,(K.length:Int))]) T' A' K where
 ts:=h.ts.snoc hTn hT
 aw:=h.aw.snoc hAn hA
 ok:=by
  intro p hp;rcases List.mem_append.1 hp with hp|hp
  ·exact h.ok p hp
  ·simp at hp;subst hp;exact hok
 nfr:=h.nfr
 lfr:=by
  intro p hp;rcases List.mem_append.1 hp with hp|hp
  ·exact h.lfr p hp
  ·simp at hp;subst hp;exact Int.le_refl _
 fit:=by
  intro j k hk;have hf:=h.fit j k hk;have hj:=qa9 hk;have e1:(L++[(nd,(K.length:Int))]).take k.f=L.take k.f:=zE6 hf.f;refine⟨hf.n,by have:=hf.f;simp;omega,Nat.le_trans hf.t hT.pre.length_le,Nat.le_trans hf.a hA.pre.length_le,hf.ns,?_,?_,?_⟩
  ·rw[e1,zs7 (by simp;omega)];exact hf.fs
  ·rw[e1,qk7 hT.pre hf.t];exact hf.ts
  ·rw[e1,qk7 hA.pre hf.a];exact hf.aw
 up:=h.up
theorem zO9{t:Bool}{T T':List Nd}{L:List (Nd × Int)}{nd:Nd}(h:zB6 t T L)(hok:∀ p∈L,zk1 p.1)(hnd:zk1 nd)(hn:T'.Nodup)(ha:U2 T T' (J0 t nd)):cnt t (L.map Prod.fst) nd=T'.length:=by
 unfold cnt;have hm:∀ x,x∈T'↔x∈Z0 t (L.map Prod.fst++[nd]):=by
  intro x;rw[(h.snoc (F:=0) hn ha).mem,Y9];constructor
  ·rintro⟨p,hp,hx⟩;rcases List.mem_append.1 hp with hp|hp
   ·exact⟨p.1,by simp;exact .inl ⟨p.2,hp⟩,hx⟩
   ·simp at hp;subst hp;exact⟨nd,by simp,hx⟩
  ·rintro⟨q,hq,hx⟩;rcases List.mem_append.1 hq with hq|hq
   ·obtain⟨p,hp,rfl⟩:=List.mem_map.1 hq;exact⟨p,by simp[hp],hx⟩
   ·simp at hq;subst hq;exact⟨(q,0),by simp,hx⟩
 have hall:∀ q∈L.map Prod.fst++[nd],zk1 q:=by
  intro q hq;rcases List.mem_append.1 hq with hq|hq
  ·obtain⟨p,hp,rfl⟩:=List.mem_map.1 hq;exact hok p hp
  ·simp at hq;subst hq;exact hnd
 refine qU1 hn hm (fun x hx y hy e=>?_);obtain⟨p,hp,hx⟩:=Y9.1 hx;obtain⟨q,hq,hy⟩:=Y9.1 hy;have fp:=zE4 (hall p hp);have fq:=zE4 (hall q hq);cases t with
 | true=>exact qJ6 (fp.1 x hx) (fq.1 y hy) e
 | false=>exact qJ7 (fp.2 x hx) (fq.2 y hy) e
theorem qK2{f:Nd}(h:zk1 f):∀ x∈J0 false f,∀ p∈zq7 x,p∈J0 true f:=by
 induction h with
 | truth _=>intro x hx;simp[J0,Z0,O7] at hx
 | con _ hp ih=>intro x hx p hpx;simp only[J0] at hx ⊢;rw[if_neg (by simp[O7])] at hx;rw[if_neg (by simp[O7])];obtain⟨q,hq,hx⟩:=Y9.1 (by simpa using hx);simpa using Y9.2 ⟨q,hq,ih q hq x hx p hpx⟩
 | two hw ha hb=>
  intro x hx p hpx;simp[J0,Z0,O7,k9 ha,k9 hb] at hx;subst hx;simp[zq7,parts] at hpx;simp[J0,Z0,O7];rcases hpx with rfl|rfl
  ·exact .inl (zn5 ha)
  ·exact .inr (zn5 hb)
 | le hw ha hb h1 h2=>
  intro x hx p hpx;simp[J0,Z0,O7,k9 ha,k9 hb] at hx;subst hx;simp[zq7,parts] at hpx;simp[J0,Z0,O7];rcases hpx with rfl|rfl
  ·exact .inl (zn5 ha)
  ·exact .inr (zn5 hb)
theorem jh5{T A:List Nd}{L:List (Nd × Int)}(hT:zB6 true T L)(hA:zB6 false A L)(hok:∀ p∈L,zk1 p.1):AC T A:=by intro x hx;obtain⟨q,hq,hs⟩:=(hA.mem x).1 hx;exact⟨(zE4 (hok q hq)).2 x hs,fun p hp=>(hT.mem p).2 ⟨q,hq,qK2 (hok q hq) x hs p hp⟩⟩
theorem Stk.ac{N:List Nm}{L:List (Nd × Int)}{T A:List Nd}{K:List Fr4}{k:Fr4}(h:Stk N L T A (K++[k])):AC (T.take k.t) (A.take k.a):=by have hl:=h.fit K.length k (by simp);exact jh5 hl.ts hl.aw (fun p hp=>h.ok p (List.mem_of_mem_take hp))
theorem qu1{N:List Nm}{L:List (Nd × Int)}{T A T' A':List Nd}{K:List Fr4}{s:ByteArray}{nd:Nd}{us:List Tk}(h:Stk N L T A K)(hs:s.size<=600)(hr:W7 N s.toList=.ok nd us)(hok:zk1 nd)(hf:L.length<20)(hT:U2 T T' (J0 true nd))(hA:U2 A A' (J0 false nd))(hTn:T'.Nodup)(hAn:A'.Nodup):
  O5 N (L.map Prod.fst) s=(0,ze9 T'.length A'.length,if ze9 T'.length A'.length=0 then some nd else none):=by
 unfold O5;rw[if_neg (by omega),hr];simp only;rw[if_neg (by simp;omega),zO9 h.ts h.ok hok hTn hT,zO9 h.aw h.ok hok hAn hA];unfold ze9;by_cases h1:12<T'.length
 ·simp[h1]
 ·by_cases h2:16<A'.length
  ·simp[h1,h2]
  ·simp[h1,h2]
theorem qu2{N:List Nm}{Q:List Nd}{s:ByteArray}(hs:600<s.size):O5 N Q s=(0,1,none):=by unfold O5;rw[if_pos hs]
theorem qV2{N:List Nm}{Q:List Nd}{s:ByteArray}{e:Int}{p:Nat}(hs:s.size<=600)(hr:W7 N s.toList=.no e p):O5 N Q s=((p:Int),e,none):=by unfold O5;rw[if_neg (by omega),hr]
theorem qu3{N:List Nm}{Q:List Nd}{s:ByteArray}{nd:Nd}{us:List Tk}(hs:s.size<=600)(hr:W7 N s.toList=.ok nd us)(hf:20<=Q.length):O5 N Q s=(0,8,none):=by unfold O5;rw[if_neg (by omega),hr];simp only;rw[if_pos hf]
end
section
open Go.RowKit Go.Maps Ar
theorem FT.cut{w:World}{D:Nat->Prop}{A A':List Nd}{cs:List Value}{nd:Nd}(h:FT w D A cs nd)(hp:A' <+:A):(∀ x∈J0 false nd,x∈A')->FT w D A' cs nd:=by
 induction h with
 | @atom word v ps hm=>intro hs;have hm':.mk 2 word v ps∈A':=hs (.mk 2 word v ps) (by rw[J0,if_pos (by simp[O7])];simp);have h1:=FT.atom (w:=w) (D:=D) (A:=A') hm';rw[<- zI2 hp hm'] at h1;exact h1
 | node h2 how hl hn hD hk ih=>intro hs;refine .node h2 how hl hn hD (fun i cs p h1 h3=>ih i cs p h1 h3 (fun x hx=>hs x ?_));rw[J0,if_neg (by simpa[O7] using h2)];exact Y9.2 ⟨p,List.mem_of_getElem? h3,hx⟩
section
variable{w w':World}{sb:Nat}{N N':List Nm}{L:List (Nd × Int)}{T A:List Nd}{K K':List Fr4}{nv:Value}{xs:PX}{D:Nat->Prop}{Y:List (List Value)}
theorem FT.freeS{D:Nat->Prop}{A':List Nd}{cs:List Value}{nd:Nd}(h:FT w D A' cs nd)(hP:PSS w sb N nv xs T A Y K)(hfs:∀ q,D q->¬xs.fs.ownBlock=some q):FT w (fun q=>D q/\¬SF sb nv xs q) A' cs nd:=by
 replace h:=h.free hP.p
 induction h with
 | atom hm=>exact .atom hm
 | node h2 how hl hn hD hk ih=>
  refine .node h2 how hl hn (fun g hg=>⟨(hD g hg).1,?_⟩) (fun i cs p h1 h3=>ih i cs p h1 h3);obtain⟨cur,hc⟩:=V4 how hg;rintro(e|e|e|e)
  ·exact(hD g hg).2 e
  ·exact Z7 hP.nown hc (by decide) e
  ·exact hfs g (hD g hg).1 e
  ·exact Z7 hP.kown hc (by decide) e
structure PL(w:World)(sb:Nat)(N:List Nm)(L:List (Nd × Int))(T A:List Nd)(K:List Fr4)(nv:Value)(xs:PX)(D:Nat->Prop)(Y:List (List Value)):Prop where
 ss:PSS w sb N nv xs T A Y K
 yl:Y.length=L.length
 ft:∀ (i:Nat) (cs:List Value) (p:Nd × Int),Y[i]?=some cs->L[i]?=some p->FT w D A cs p.1
 st:Stk N L T A K
 fw:∀ p∈L,FmW p.1
 dk:∀ k,D k->k<w.heap.size/\¬SF sb nv xs k
def Ses(w:World)(sb:Nat)(N:List Nm)(L:List (Nd × Int))(d:Nat)(F:Nat->Prop):Prop :=
 ∃ T A K nv xs D Y,PL w sb N L T A K nv xs D Y/\K.length=d/\F=fun k=>SF sb nv xs k\/D k
def zM7(w:World)(F:Nat->Prop)(sb:Nat)(N:List Nm)(L:List (Nd × Int))(d:Nat)(w':World):Prop :=
 q9 F w w'/\∃ F',Ses w' sb N L d F'/\∀ k,F' k->F k\/w.heap.size<=k
theorem PL.lt(h:PL w sb N L T A K nv xs D Y):∀ k,SF sb nv xs k\/D k->k<w.heap.size:=fun k hk=>hk.elim (h.ss.lt k) (fun e=>(h.dk k e).1)
theorem Ses.lt{d:Nat}{F:Nat->Prop}(h:Ses w sb N L d F):∀ k,F k->k<w.heap.size:=by obtain⟨T,A,K,nv,xs,D,Y,hP,_,rfl⟩:=h;exact hP.lt
theorem PL.ext{S:Nat->Prop}(h:PL w sb N L T A K nv xs D Y)(hx:q9 S w w')(hS:∀ k,SF sb nv xs k\/D k->¬S k):PL w' sb N L T A K nv xs D Y :=
 ⟨h.ss.ext hx (fun k hk=>hS k (.inl hk)),h.yl,fun i cs p h1 h2=>(h.ft i cs p h1 h2).ext hx (fun k _ hd=>hS k (.inr hd)),h.st,h.fw,fun k hk=>⟨Nat.lt_of_lt_of_le (h.dk k hk).1 hx.size,(h.dk k hk).2⟩⟩
theorem Ses.ext{d:Nat}{F S:Nat->Prop}(h:Ses w sb N L d F)(hx:q9 S w w')(hS:∀ k,F k->¬S k):Ses w' sb N L d F:=by obtain⟨T,A,K,nv,xs,D,Y,hP,hd,rfl⟩:=h;exact⟨T,A,K,nv,xs,D,Y,hP.ext hx hS,hd,rfl⟩
theorem PL.same(h:PL w sb N L T A K nv xs D Y)(h1:ze4 w sb nv xs N' T A Y K' w')(st:Stk N' L T A K'):zM7 w (fun k=>SF sb nv xs k\/D k) sb N' L K'.length w':=by
 obtain⟨hx,nv',xs',hP,hF⟩:=h1;refine⟨hx.mono (fun _ _ e=>.inl e),_,⟨T,A,K',nv',xs',D,Y,⟨hP,h.yl,fun i cs p e1 e2=>(h.ft i cs p e1 e2).ext hx (fun k _ hd=>(h.dk k hd).2),st,h.fw,fun k hk=>⟨Nat.lt_of_lt_of_le (h.dk k hk).1 hx.size,fun e=>?_⟩⟩,rfl,rfl⟩,fun k hk=>?_⟩
 ·rcases hF k e with e2|e2
  ·exact(h.dk k hk).2 e2
  ·have:=(h.dk k hk).1;omega
 ·rcases hk with hk|hk
  ·exact(hF k hk).imp .inl id
  ·exact .inl (.inr hk)
theorem PL.took{T' A':List Nd}{cs:List Value}{nd:Nd}(h:PL w sb N L T A K nv xs D Y)(h1:ze4 w sb nv xs N T' A' (Y++[cs]) K w')(h2:zL8 w sb A' cs nd w')(hT:U2 T T' (J0 true nd))(hA:U2 A A' (J0 false nd))(hok:zk1 nd)(hfw:FmW nd):zM7 w (fun k=>SF sb nv xs k\/D k) sb N (L++[(nd,(K.length:Int))]) K.length w':=by
 obtain⟨hx,nv',xs',hP,hF⟩:=h1;have c5:=z6 hP.p.ts.blk 5;have hft:=FT.freeS h2 hP (fun q hq=>hq.2 xs'.fs c5);have hdd:∀ k,D k->¬SF sb nv' xs' k:=fun k hk e=>by
  rcases hF k e with e2|e2
  ·exact(h.dk k hk).2 e2
  ·have:=(h.dk k hk).1;omega
 refine⟨hx.mono (fun _ _ e=>.inl e),_,⟨T',A',K,nv',xs',fun k=>D k\/(w.heap.size<=k/\k<w'.heap.size/\¬SF sb nv' xs' k),Y++[cs],⟨hP,by simp[h.yl],fun i c p e1 e2=>?_,h.st.take hok hT hA hP.p.ts.nd hP.p.nd,fun p hp=>?_,fun k hk=>?_⟩,rfl,rfl⟩,fun k hk=>?_⟩
 ·by_cases hi:i<Y.length
  ·rw[List.getElem?_append_left hi] at e1;rw[List.getElem?_append_left (by rw[<- h.yl];exact hi)] at e2;exact(((h.ft i c p e1 e2).ext hx (fun k _ hd=>(h.dk k hd).2)).pre hA.pre).mono (fun k _ hd=>.inl hd)
  ·have hl:=(List.getElem?_eq_some_iff.1 e1).1;simp at hl;have hi2:i=Y.length:=by omega
   subst hi2;rw[List.getElem?_append_right (Nat.le_refl _)] at e1;rw[List.getElem?_append_right (by rw[h.yl];exact Nat.le_refl _),h.yl] at e2;simp at e1 e2;subst e1 e2;exact hft.mono (fun k hk hd=>.inr ⟨hd.1.1,hk,hd.2⟩)
 ·rcases List.mem_append.1 hp with hp|hp
  ·exact h.fw p hp
  ·simp at hp;subst hp;exact hfw
 ·rcases hk with hk|hk
  ·exact⟨Nat.lt_of_lt_of_le (h.dk k hk).1 hx.size,hdd k hk⟩
  ·exact hk.2
 ·rcases hk with hk|hk|hk
  ·exact(hF k hk).imp .inl id
  ·exact .inl (.inr hk)
  ·exact .inr hk.1
theorem PL.popped{fr:Fr4}(h:PL w sb N L T A (K++[fr]) nv xs D Y)(h1:ze4 w sb nv xs (N.take fr.n) (T.take fr.t) (A.take fr.a) (Y.take fr.f) K w'):zM7 w (fun k=>SF sb nv xs k\/D k) sb (N.filter (fun x=>decide (x.fr<(K.length:Int)+1))) (L.filter (fun x=>decide (x.2<(K.length:Int)+1))) K.length w':=by
 obtain⟨hx,nv',xs',hP,hF⟩:=h1;obtain⟨st,en,el⟩:=h.st.pop;have hl:=h.st.fit K.length fr (by simp);rw[<- en,<- el];refine⟨hx.mono (fun _ _ e=>.inl e),_,⟨T.take fr.t,A.take fr.a,K,nv',xs',D,Y.take fr.f,⟨hP,by simp[h.yl],fun i cs p e1 e2=>?_,st,fun p hp=>h.fw p (List.mem_of_mem_take hp),fun k hk=>⟨Nat.lt_of_lt_of_le (h.dk k hk).1 hx.size,fun e=>?_⟩⟩,rfl,rfl⟩,fun k hk=>?_⟩
 ·obtain⟨_,e3⟩:=U8 e1;obtain⟨_,e4⟩:=U8 e2;refine((h.ft i cs p e3 e4).ext hx (fun k _ hd=>(h.dk k hd).2)).cut (List.take_prefix _ _) (fun x hx=>?_);exact(hl.aw.mem x).2 ⟨p,List.mem_of_getElem? e2,hx⟩
 ·rcases hF k e with e2|e2
  ·exact(h.dk k hk).2 e2
  ·have:=(h.dk k hk).1;omega
 ·rcases hk with hk|hk
  ·exact(hF k hk).imp .inl id
  ·exact .inl (.inr hk)
end
end
end Go.Proofs.YtegbdaffhpiacaaGreatDoor
