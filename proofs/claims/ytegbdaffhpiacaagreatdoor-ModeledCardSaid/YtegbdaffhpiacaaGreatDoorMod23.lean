/- A part of the proof. -/
import Derived.Test.YtegbdaffhpiacaaGreatDoorMod20
import Derived.Test.YtegbdaffhpiacaaGreatDoorMod22
set_option maxHeartbeats 400000
namespace Go.Proofs.YtegbdaffhpiacaaGreatDoor
open Tryz
open Go.RowKit Ar
def zC6(s:St):List Value:=[.int .i64 s.q,.bool s.yes,.bool s.turned,.int .u64 s.blame.a.toNat,.int .u64 s.blame.b.toNat,.int .u64 s.blame.c.toNat]
def zh4(s:St):Value:=.agg #[.int .i64 s.q,.bool s.yes,.bool s.turned,.int .u64 s.blame.a.toNat,.int .u64 s.blame.b.toNat,.int .u64 s.blame.c.toNat]
def zg6(tr:List St):List Value:=tr.flatMap zC6
theorem qX7(s:St):(zC6 s).length=6:=rfl
theorem jj5(tr:List St)(k:Nat):(zg6 tr).take (k*6)=zg6 (tr.take k):=qD3 qX7 tr k
structure zQ8(w:World)(lv:Value)(m:Nat)(ls:List (List (BitVec 64))):Prop where
 ex:∃ vs:List Value,w.ownsRow 0 136 1 lv ls.length vs/\∀ (k:Nat) (l:List (BitVec 64)),ls[k]?=some l->l.length=m/\∃ b v,vs[k]?=some v/\WS w b v l
def asQ(AK:List PA)(tr:List St):List (PA × Bool):=tr.map (fun s=>(paQ AK s.q,s.yes))
theorem zC7(AK:List PA)(tr:List St):(asQ AK tr).length=tr.length:=by simp[asQ]
theorem qm7(AK:List PA)(tr:List St)(k:Nat):asQ AK (tr.take k)=(asQ AK tr).take k:=by simp[asQ]
theorem qX8(AK:List PA)(tr:List St)(s:St):asQ AK (tr++[s])=asQ AK tr++[(paQ AK s.q,s.yes)]:=by simp[asQ]
theorem jr1(AK:List PA)(q:Nat):(paQ AK q).at_=atQ (AK.map PA.at_) q:=by
 unfold paQ atQ;rw[List.getElem?_map,List.length_map];cases e:AK[q]? with
 | none=>simp[PA.at_,ByteArray.toList_eq]
 | some x=>rfl
theorem zQ9(AK:List PA)(tr:List St):Y8 (asQ AK tr)=ans (AK.map PA.at_) tr:=by unfold Y8 asQ ans;rw[List.map_map];apply List.map_congr_left;intro s _;show((paQ AK s.q).at_,s.yes)=_;rw[jr1]
structure SrR(B:Nat)(w:World)(sb hb g:Nat)(c:ThV)(TK:List Z3)(AK:List PA)(tw:List (Nat × Nat))(tv lv:Value)(tr:List St)(As:List (PA × Bool))(ls:List (List (BitVec 64)))(TT:List W9):Prop where
 blk:w.heap[sb]?=some (.cells #[.iface 139 (.pointer (some ⟨hb,0,none⟩)),.int .i64 AK.length,tv,lv] 187)
 row:w.ownsRow 0 250 6 tv tr.length (zg6 tr)
 lf:zQ8 w lv (2^(AK.length-6)) ls
 th:ThR w hb g c TK AK tw As TT
 pat:K9 w
 bp:1<B
 bB:B<=w.heap.size
 bs:B<=sb/\B<=hb/\B<=g
 bv:∀ k,c.sv.ownBlock=some k\/tv.ownBlock=some k\/lv.ownBlock=some k->B<=k
def SrF(sb hb g:Nat)(c:ThV)(tv lv:Value)(k:Nat):Prop:=k=sb\/k=hb\/k=g\/c.sv.ownBlock=some k\/tv.ownBlock=some k\/lv.ownBlock=some k
structure Mv(sb hb g:Nat)(c:ThV)(tv lv:Value)(g':Nat)(c':ThV)(tv' lv':Value)(w w':World):Prop where
 ext:q9 (SrF sb hb g c tv lv) w w'
 new:∀ k,SrF sb hb g' c' tv' lv' k->SrF sb hb g c tv lv k\/w.heap.size<=k
theorem Mv.trans{sb hb g g1 g2:Nat}{c c1 c2:ThV}{tv lv tv1 lv1 tv2 lv2:Value}{w w1 w2:World}(h:Mv sb hb g c tv lv g1 c1 tv1 lv1 w w1)(k:Mv sb hb g1 c1 tv1 lv1 g2 c2 tv2 lv2 w1 w2):Mv sb hb g c tv lv g2 c2 tv2 lv2 w w2:=by
 have hs:=h.ext.size;refine⟨h.ext.trans' k.ext (fun i hi e=>?_),fun i e=>?_⟩
 ·rcases h.new i e with e|e
  ·exact e
  ·omega
 ·rcases k.new i e with e|e
  ·exact h.new i e
  ·exact .inr (by omega)
theorem Mv.quiet{sb hb g:Nat}{c:ThV}{tv lv:Value}{w w':World}(h:q9 (fun _=>False) w w'):Mv sb hb g c tv lv g c tv lv w w':=⟨h.mono (fun _ _ f=>f.elim),fun _ e=>.inl e⟩
theorem Mv.keep{sb hb g g1:Nat}{c c1:ThV}{tv lv tv1 lv1:Value}{w w1:World}(h:Mv sb hb g c tv lv g1 c1 tv1 lv1 w w1){k:Nat}{o:Obj}(hk:w.heap[k]?=some o)(hn:¬SrF sb hb g c tv lv k):w1.heap[k]?=some o/\¬SrF sb hb g1 c1 tv1 lv1 k:=by
 have hlt:=z8 hk;refine⟨(h.ext.block k hlt hn).trans hk,fun e=>?_⟩;rcases h.new k e with e|e
 ·exact hn e
 ·omega
section
variable{B:Nat}{w w':World}{sb hb g:Nat}{c:ThV}{TK:List Z3}{AK:List PA}{tw:List (Nat × Nat)}{tv lv:Value}{tr:List St}{As:List (PA × Bool)}{ls:List (List (BitVec 64))}{TT:List W9}
theorem WS.blockT{b:Nat}{v:Value}{l:List (BitVec 64)}(h:WS w b v l):∃ cur,w.heap[b]?=some (.cells cur 195):=by obtain⟨_,cur,_,_,h⟩:=h.shape;exact⟨cur,h⟩
theorem zQ8.ext{m:Nat}{S:Nat->Prop}(h:zQ8 w lv m ls)(hx:q9 S w w')(h1:∀ k,lv.ownBlock=some k->¬S k)(h2:∀ k cur,w.heap[k]?=some (.cells cur 195)->¬S k):zQ8 w' lv m ls:=by obtain⟨vs,ho,hk⟩:=h.ex;refine⟨vs,z7 ho hx h1,fun k l hl=>?_⟩;obtain⟨e,b,v,hv,hW⟩:=hk k l hl;obtain⟨cur,hc⟩:=hW.blockT;exact⟨e,b,v,hv,hW.ext hx (h2 b cur hc)⟩
theorem SrR.ext(h:SrR B w sb hb g c TK AK tw tv lv tr As ls TT)(hx:q9 (fun _=>False) w w'):SrR B w' sb hb g c TK AK tw tv lv tr As ls TT :=
 ⟨(hx.block _ (z8 h.blk) (fun f=>f)).trans h.blk,z7 h.row hx (fun _ _ f=>f),h.lf.ext hx (fun _ _ f=>f) (fun _ _ _ f=>f),h.th.ext hx (fun _ _ f=>f),h.pat.ext hx (fun f=>f),h.bp,Nat.le_trans h.bB hx.size,h.bs,h.bv⟩
theorem SrR.apart(h:SrR B w sb hb g c TK AK tw tv lv tr As ls TT){k:Nat}(hk:k=hb\/k=g\/c.sv.ownBlock=some k):¬k=sb/\¬tv.ownBlock=some k/\¬lv.ownBlock=some k/\∀ cur,¬w.heap[k]?=some (.cells cur 195):=by
 obtain⟨vs,ho,_⟩:=h.lf.ex;have hb':=h.th.blk;obtain⟨cap,C,_,hg,_⟩:=h.th.tb.ex;have key:∀ {k:Nat} {C:Array Value} {t:TypeId},w.heap[k]?=some (.cells C t)->t≠187->t≠250->t≠136->t≠195->¬k=sb/\¬tv.ownBlock=some k/\¬lv.ownBlock=some k/\∀ cur,¬w.heap[k]?=some (.cells cur 195):=by
  intro k C t hk n1 n2 n3 n4;refine⟨fun e=>?_,Z7 h.row hk (fun e=>n2 e.symm),Z7 ho hk (fun e=>n3 e.symm),fun cur e=>?_⟩
  ·subst e;have:=h.blk;rw[hk] at this;simp at this;exact n1 this.2
  ·rw[hk] at e;simp at e;exact n4 e.2
 rcases hk with e|e|e
 ·subst e;exact key hb' (by decide) (by decide) (by decide) (by decide)
 ·subst e;exact key hg (by decide) (by decide) (by decide) (by decide)
 ·obtain⟨cur,hc⟩:=V4 h.th.ss e;exact key hc (by decide) (by decide) (by decide) (by decide)
theorem SrR.theory{g':Nat}{c':ThV}{As':List (PA × Bool)}{TT':List W9}(h:SrR B w sb hb g c TK AK tw tv lv tr As ls TT)(hx:q9 (fun k=>k=hb\/k=g\/c.sv.ownBlock=some k) w w')(ht:ThR w' hb g' c' TK AK tw As' TT')(hg:g' = g\/w.heap.size<=g')(hs:∀ k,c'.sv.ownBlock=some k->c.sv.ownBlock=some k\/w.heap.size<=k):SrR B w' sb hb g' c' TK AK tw tv lv tr As' ls TT':=by
 have hB:=h.bB;obtain⟨b1,b2,b3⟩:=h.bs;refine⟨(hx.block _ (z8 h.blk) (fun e=>(h.apart e).1 rfl)).trans h.blk,z7 h.row hx (fun k hk e=>(h.apart e).2.1 hk),h.lf.ext hx (fun k hk e=>(h.apart e).2.2.1 hk) (fun k cur hc e=>(h.apart e).2.2.2 cur hc),ht,h.pat.ext hx (fun e=>?_),h.bp,Nat.le_trans hB hx.size,⟨b1,b2,?_⟩,fun k hk=>?_⟩
 ·have hp:=h.bp;rcases e with e|e|e
  ·omega
  ·omega
  ·have:=h.bv _ (.inl e);omega
 ·rcases hg with e|e<;>omega
 ·rcases hk with e|e|e
  ·rcases hs k e with e|e
   ·exact h.bv k (.inl e)
   ·omega
  ·exact h.bv k (.inr (.inl e))
  ·exact h.bv k (.inr (.inr e))
theorem zj1{a:Option Addr}{n m cap cap' k:Nat}(h:(Value.slice a n cap).ownBlock=some k):(Value.slice a m cap').ownBlock=some k:=by
 cases a with
 | none=>simp[Value.ownBlock] at h
 | some ad=>simpa[Value.ownBlock] using h
theorem SrR.turnT{tv':Value}{tr':List St}(h:SrR B w sb hb g c TK AK tw tv lv tr As ls TT)(hx:q9 (fun k=>k=sb\/tv.ownBlock=some k) w w')(kb:w'.heap[sb]?=some (.cells #[.iface 139 (.pointer (some ⟨hb,0,none⟩)),.int .i64 AK.length,tv',lv] 187))(hr:w'.ownsRow 0 250 6 tv' tr'.length (zg6 tr'))(hb':∀ k,tv'.ownBlock=some k->tv.ownBlock=some k\/w.heap.size<=k):SrR B w' sb hb g c TK AK tw tv' lv tr' As ls TT:=by
 have hB:=h.bB;have hn:∀ k,(k=hb\/k=g\/c.tv.ownBlock=some k\/c.av.ownBlock=some k\/c.wv.ownBlock=some k\/c.sv.ownBlock=some k)->¬(k=sb\/tv.ownBlock=some k):=by
  intro k hk e;have key:∀ {C:Array Value} {t:TypeId},w.heap[k]?=some (.cells C t)->t≠187->t≠250->False:=by
   intro C t h1 n1 n2;rcases e with e|e
   ·subst e;have:=h.blk;rw[h1] at this;simp at this;exact n1 this.2
   ·exact Z7 h.row h1 (fun q=>n2 q.symm) e
  rcases hk with q|q|q|q|q|q
  ·subst q;exact key h.th.blk (by decide) (by decide)
  ·subst q;obtain⟨_,C,_,hg,_⟩:=h.th.tb.ex;exact key hg (by decide) (by decide)
  ·obtain⟨cur,hc⟩:=V4 h.th.ts q;exact key hc (by decide) (by decide)
  ·obtain⟨cur,hc⟩:=V4 h.th.ats q;exact key hc (by decide) (by decide)
  ·obtain⟨cur,hc⟩:=V4 h.th.tw q;exact key hc (by decide) (by decide)
  ·obtain⟨cur,hc⟩:=V4 h.th.ss q;exact key hc (by decide) (by decide)
 obtain⟨vs,ho,_⟩:=h.lf.ex;refine⟨kb,hr,h.lf.ext hx (fun k hk e=>?_) (fun k cur hc e=>?_),h.th.ext hx hn,h.pat.ext hx (fun e=>?_),h.bp,Nat.le_trans hB hx.size,h.bs,fun k hk=>?_⟩
 ·rcases e with e|e
  ·subst e;exact Z7 ho h.blk (by decide) hk
  ·obtain⟨cur,hc⟩:=V4 h.row e;exact Z7 ho hc (by decide) hk
 ·rcases e with e|e
  ·subst e;have:=h.blk;rw[hc] at this;simp at this
  ·exact Z7 h.row hc (by decide) e
 ·have hp:=h.bp;rcases e with e|e
  ·have:=h.bs.1;omega
  ·have:=h.bv _ (.inr (.inl e));omega
 ·rcases hk with e|e|e
  ·exact h.bv k (.inl e)
  ·rcases hb' k e with e|e
   ·exact h.bv k (.inr (.inl e))
   ·omega
  ·exact h.bv k (.inr (.inr e))
theorem SrR.turnL{lv':Value}{ls':List (List (BitVec 64))}(h:SrR B w sb hb g c TK AK tw tv lv tr As ls TT)(hx:q9 (fun k=>k=sb\/lv.ownBlock=some k) w w')(kb:w'.heap[sb]?=some (.cells #[.iface 139 (.pointer (some ⟨hb,0,none⟩)),.int .i64 AK.length,tv,lv'] 187))(hr:zQ8 w' lv' (2^(AK.length-6)) ls')(hb':∀ k,lv'.ownBlock=some k->lv.ownBlock=some k\/w.heap.size<=k):SrR B w' sb hb g c TK AK tw tv lv' tr As ls' TT:=by
 have hB:=h.bB;obtain⟨vs,ho,_⟩:=h.lf.ex;have hn:∀ k,(k=hb\/k=g\/c.tv.ownBlock=some k\/c.av.ownBlock=some k\/c.wv.ownBlock=some k\/c.sv.ownBlock=some k)->¬(k=sb\/lv.ownBlock=some k):=by
  intro k hk e;have key:∀ {C:Array Value} {t:TypeId},w.heap[k]?=some (.cells C t)->t≠187->t≠136->False:=by
   intro C t h1 n1 n2;rcases e with e|e
   ·subst e;have:=h.blk;rw[h1] at this;simp at this;exact n1 this.2
   ·exact Z7 ho h1 (fun q=>n2 q.symm) e
  rcases hk with q|q|q|q|q|q
  ·subst q;exact key h.th.blk (by decide) (by decide)
  ·subst q;obtain⟨_,C,_,hg,_⟩:=h.th.tb.ex;exact key hg (by decide) (by decide)
  ·obtain⟨cur,hc⟩:=V4 h.th.ts q;exact key hc (by decide) (by decide)
  ·obtain⟨cur,hc⟩:=V4 h.th.ats q;exact key hc (by decide) (by decide)
  ·obtain⟨cur,hc⟩:=V4 h.th.tw q;exact key hc (by decide) (by decide)
  ·obtain⟨cur,hc⟩:=V4 h.th.ss q;exact key hc (by decide) (by decide)
 refine⟨kb,z7 h.row hx (fun k hk e=>?_),hr,h.th.ext hx hn,h.pat.ext hx (fun e=>?_),h.bp,Nat.le_trans hB hx.size,h.bs,fun k hk=>?_⟩
 ·rcases e with e|e
  ·subst e;exact Z7 h.row h.blk (by decide) hk
  ·obtain⟨cur,hc⟩:=V4 ho e;exact Z7 h.row hc (by decide) hk
 ·have hp:=h.bp;rcases e with e|e
  ·have:=h.bs.1;omega
  ·have:=h.bv _ (.inr (.inr e));omega
 ·rcases hk with e|e|e
  ·exact h.bv k (.inl e)
  ·exact h.bv k (.inr (.inl e))
  ·rcases hb' k e with e|e
   ·exact h.bv k (.inr (.inr e))
   ·omega
theorem SrR.lt(h:SrR B w sb hb g c TK AK tw tv lv tr As ls TT){k:Nat}(hk:SrF sb hb g c tv lv k):k<w.heap.size/\B<=k:=by
 obtain⟨b1,b2,b3⟩:=h.bs;obtain⟨vs,ho,_⟩:=h.lf.ex;obtain⟨_,C,_,hg,_⟩:=h.th.tb.ex;rcases hk with e|e|e|e|e|e
 ·subst e;exact⟨z8 h.blk,b1⟩
 ·subst e;exact⟨z8 h.th.blk,b2⟩
 ·subst e;exact⟨z8 hg,b3⟩
 ·exact⟨(h.th.ss.lt k e).2,h.bv k (.inl e)⟩
 ·exact⟨(h.row.lt k e).2,h.bv k (.inr (.inl e))⟩
 ·exact⟨(ho.lt k e).2,h.bv k (.inr (.inr e))⟩
theorem SrR.mvBelow{g':Nat}{c':ThV}{tv' lv':Value}(h:SrR B w sb hb g c TK AK tw tv lv tr As ls TT)(hm:Mv sb hb g c tv lv g' c' tv' lv' w w'):Below B w w':=by refine⟨hm.ext.os,hm.ext.tape,hm.ext.output,hm.ext.size,fun k hk=>hm.ext.block k (by have:=h.bB;omega) (fun e=>?_)⟩;have:=(h.lt e).2;omega
theorem SrR.aside{S:Nat->Prop}(h:SrR B w sb hb g c TK AK tw tv lv tr As ls TT)(hx:q9 S w w')(hS:∀ k,S k->¬SrF sb hb g c tv lv k/\∃ C t,w.heap[k]?=some (.cells C t)/\t≠195/\t≠145/\t≠153/\t≠151/\t≠336):SrR B w' sb hb g c TK AK tw tv lv tr As ls TT:=by
 have hn:∀ k,SrF sb hb g c tv lv k->¬S k:=fun k hk e=>(hS k e).1 hk
 have hty:∀ k C t,w.heap[k]?=some (.cells C t)->(t=195\/t=145\/t=153\/t=151\/t=336)->¬S k:=by
  intro k C t hk ht e;obtain⟨_,C',t',hk',n1,n2,n3,n4,n5⟩:=hS k e;rw[hk] at hk';simp at hk';obtain⟨_,rfl⟩:=hk';rcases ht with e|e|e|e|e
  ·exact n1 e
  ·exact n2 e
  ·exact n3 e
  ·exact n4 e
  ·exact n5 e
 refine⟨(hx.block _ (z8 h.blk) (hn sb (.inl rfl))).trans h.blk,z7 h.row hx (fun k hk=>hn k (.inr (.inr (.inr (.inr (.inl hk)))))),h.lf.ext hx (fun k hk=>hn k (.inr (.inr (.inr (.inr (.inr hk)))))) (fun k cur hc=>hty k cur _ hc (.inl rfl)),h.th.ext hx (fun k hk=>?_),h.pat.ext hx (hty _ _ _ h.pat (.inr (.inr (.inr (.inr rfl))))),h.bp,Nat.le_trans h.bB hx.size,h.bs,h.bv⟩;rcases hk with e|e|e|e|e|e
 ·exact hn k (.inr (.inl e))
 ·exact hn k (.inr (.inr (.inl e)))
 ·obtain⟨cur,hc⟩:=V4 h.th.ts e;exact hty k cur _ hc (.inr (.inl rfl))
 ·obtain⟨cur,hc⟩:=V4 h.th.ats e;exact hty k cur _ hc (.inr (.inr (.inl rfl)))
 ·obtain⟨cur,hc⟩:=V4 h.th.tw e;exact hty k cur _ hc (.inr (.inr (.inr (.inl rfl))))
 ·exact hn k (.inr (.inr (.inr (.inl e))))
theorem SrR.below{S:Nat->Prop}(h:SrR B w sb hb g c TK AK tw tv lv tr As ls TT)(hx:q9 S w w')(hS:∀ k,k<w.heap.size->S k->k=sb\/k=hb\/k=g\/c.sv.ownBlock=some k\/tv.ownBlock=some k\/lv.ownBlock=some k):Below B w w':=by
 refine⟨hx.os,hx.tape,hx.output,hx.size,fun k hk=>hx.block k (by have:=h.bB;omega) (fun e=>?_)⟩;obtain⟨b1,b2,b3⟩:=h.bs;have hB:=h.bB;rcases hS k (by omega) e with e|e|e|e|e|e
 ·omega
 ·omega
 ·omega
 ·have:=h.bv k (.inl e);omega
 ·have:=h.bv k (.inr (.inl e));omega
 ·have:=h.bv k (.inr (.inr e));omega
end
section
variable{B:Nat}{w w':World}{sb hb g:Nat}{c:ThV}{TK:List Z3}{AK:List PA}{tw:List (Nat × Nat)}{tv lv:Value}{tr:List St}{As:List (PA × Bool)}{ls:List (List (BitVec 64))}{TT:List W9}
theorem zQ8.at_{m k:Nat}{l:List (BitVec 64)}(h:zQ8 w lv m ls)(hk:ls[k]?=some l):∃ gl cap b v,lv=.slice (some ⟨gl,0,none⟩) ls.length cap/\w.cell? ⟨gl,k,none⟩=some v/\WS w b v l/\l.length=m:=by
 obtain⟨vs,ho,hl⟩:=h.ex;obtain⟨e1,b,v,hv,hW⟩:=hl k l hk;have hlt:=(List.getElem?_eq_some_iff.1 hk).1;rcases ho.2 with⟨_,e0⟩|⟨gl,cap,cur,hlv,_⟩
 ·omega
 ·rw[hlv] at ho;exact⟨gl,cap,b,v,hlv,(ho.cellAt k (by omega)).trans hv,hW,e1⟩
theorem zq3{l:List (BitVec 64)}(h:SrR B w sb hb g c TK AK tw tv lv tr As ls TT)(hl:ls[ls.length-1]?=some l)(hn:ls.length<=1000):
  Calls prog 176 #[.pointer (some ⟨sb,0,none⟩)] w fun e w'=>∃ b v,e=.returned v/\WS w b v l/\l.length=2^(AK.length-6)/\w' = w.drew:=by
 have kb:=h.blk;obtain⟨gl,cap,b,v,hlv,hc,hW,hlen⟩:=h.lf.at_ hl;have hlt:=(List.getElem?_eq_some_iff.1 hl).1;obtain⟨n,hn'⟩:∃ n,ls.length=n+1:=⟨ls.length-1,by omega⟩;rw[hn',Nat.add_sub_cancel] at hc;rw[hlv,hn'] at kb;have c3:=z6 kb 3;have HW:=q8 hW;have hn2:n<=1000:=by omega
 clear h kb hlv hW hl hlt hn' hn;go_enter func176,ntmps176;go_wp2_with fail
 go_region
 go_wp2_with fail;go_ret;exact⟨b,v,rfl,HW.out,hlen,rfl⟩
theorem zG7(h:SrR B w sb hb g c TK AK tw tv lv tr As ls TT)(hA:AK.length<=16)(s:St)(hq:s.q<16):
  Calls prog 178 #[.pointer (some ⟨sb,0,none⟩),zh4 s] w fun e w'=>∃ b v,e=.returned v/\w.heap.size<=b/\q9 (fun _=>False) w w'/\WS w' b v (X4 (2^(AK.length-6)) s.q s.yes):=by
 have kb:=h.blk;have c1:=z6 kb 1;have HWH:Hid (∀ W,q9 (fun _=>False) w W->Calls prog 127 #[.int .i64 AK.length,.int .i64 s.q,.bool s.yes] W fun e w'=>∃ b' v',e=.returned v'/\W.heap.size<=b'/\q9 (fun _=>False) W w'/\WS w' b' v' (X4 (2^(AK.length-6)) s.q s.yes)) :=
  fun W hx=>zT5 AK.length s.q s.yes hA hq (h.pat.ext hx (fun f=>f))
 obtain⟨V,hV⟩:∃ V,w.alloc (.cells #[.int .i64 s.q,.bool s.yes,.bool s.turned,.int .u64 s.blame.a.toNat,.int .u64 s.blame.b.toNat,.int .u64 s.blame.c.toNat] 250)=V:=⟨_,rfl⟩;have hxV:q9 (fun _=>False) w V:=by rw[<- hV];exact(q9.refl _ w).alloc _
 have kA:V.heap[w.heap.size]?=some (.cells #[.int .i64 s.q,.bool s.yes,.bool s.turned,.int .u64 s.blame.a.toNat,.int .u64 s.blame.b.toNat,.int .u64 s.blame.c.toNat] 250):=by rw[<- hV];exact heap_alloc_new w _
 have c1:=z6 ((hxV.block _ (z8 kb) (fun f=>f)).trans kb) 1;have v0:=z6 kA 0;have v1:=z6 kA 1;have hbl:=z8 kb;have HVE:=q8 hV;have hxd:q9 (fun _=>False) w V.drew:=hxV.drew;clear h kb kA hV hxV;unfold zh4;go_enter func178,ntmps178;go_wp2_with fail;rw[HVE.out];clear HVE
 go_region_law (go_simp;go_wp2_with (go_at_call 127;refine(HWH.out _ hxd).mono ?_;rintro e w2 ⟨b,v,rfl,hb,hx,hW⟩;have HF:=q8 (And.intro hb (And.intro hx hW));clear hb hx hW))
 all_goals
  go_wp2_with fail;go_ret;obtain⟨hb,hx,hW⟩:=HF.out;exact⟨b,v,rfl,Nat.le_trans hxd.size hb,hxd.trans hx,hW⟩
end
section
variable{B:Nat}{w w':World}{sb hb g:Nat}{c:ThV}{TK:List Z3}{AK:List PA}{tw:List (Nat × Nat)}{tv lv:Value}{tr:List St}{As:List (PA × Bool)}{ls:List (List (BitVec 64))}{TT:List W9}
theorem SrR.step(h:SrR B w sb hb g c TK AK tw tv lv tr As ls TT){k:Nat}{s:St}(hk:tr[k]?=some s):∃ gt cap,tv=.slice (some ⟨gt,0,none⟩) tr.length cap/\gt<w.heap.size/\w.cell? ⟨gt,k*6,none⟩=some (.int .i64 s.q)/\w.cell? ⟨gt,k*6+1,none⟩=some (.bool s.yes)/\w.cell? ⟨gt,k*6+2,none⟩=some (.bool s.turned)/\w.cell? ⟨gt,k*6+3,none⟩=some (.int .u64 s.blame.a.toNat)/\w.cell? ⟨gt,k*6+4,none⟩=some (.int .u64 s.blame.b.toNat)/\w.cell? ⟨gt,k*6+5,none⟩=some (.int .u64 s.blame.c.toNat):=by
 have hlt:=(List.getElem?_eq_some_iff.1 hk).1;rcases h.row.2 with⟨_,e0⟩|⟨gt,cap,cur,hv,_,hh,_⟩
 ·omega
 ·have ho:=h.row;rw[hv] at ho;have q:∀ j u,(zC6 s)[j]?=some u->(zg6 tr)[k*6+j]?=some u:=fun j u hu=>qe8 qX7 hk hu
  exact⟨gt,cap,hv,z8 hh,(ho.cellAt (k*6) (by omega)).trans (q 0 _ rfl),(ho.cellAt (k*6+1) (by omega)).trans (q 1 _ rfl),(ho.cellAt (k*6+2) (by omega)).trans (q 2 _ rfl),(ho.cellAt (k*6+3) (by omega)).trans (q 3 _ rfl),(ho.cellAt (k*6+4) (by omega)).trans (q 4 _ rfl),(ho.cellAt (k*6+5) (by omega)).trans (q 5 _ rfl)⟩
theorem qn3(h:SrR B w sb hb g c TK AK tw tv lv tr As ls TT)(m:M3)(hm:J8 tr.length m):
  Calls prog 135 #[.pointer (some ⟨sb,0,none⟩),m.val] w fun e w'=>q9 (fun _=>False) w w'/\∃ r,e=.returned (.bool r)/\(r=true->(∀ k,m.has k=false)\/∃ p s,m.has p=true/\(∀ j,m.has j=true->j<=p)/\tr[p]?=some s/\s.q<AK.length)/\(r=false->∃ p s,m.has p=true/\(∀ j,m.has j=true->j<=p)/\tr[p]?=some s/\AK.length<=s.q):=by
 have HL:=q8 (zL3 m);have H:=q8 h;have HM:=q8 hm;unfold M3.val at HL ⊢;clear h hm;go_enter func135,ntmps135;go_wp2_with fail;refine(HL.out _).mono ?_;rintro e w1 ⟨hx1,⟨rfl,hno⟩|⟨k,rfl,hk,hmax⟩⟩
 ·have HX:=q8 (((q9.refl (fun _=>False) w).alloc _).trans hx1);have HN:=q8 hno;clear hx1 hno;go_wp2_with fail
  go_region
  go_wp2_with fail;go_ret;exact⟨HX.out.drew,true,rfl,fun _=>.inl HN.out,fun e=>by simp at e⟩
 ·have hx:=((q9.refl (fun _=>False) w).alloc _).trans hx1;have h1:=H.out.ext hx;have hkl:=HM.out k hk;obtain⟨s,hs⟩:∃ s,tr[k]?=some s:=⟨_,List.getElem?_eq_getElem hkl⟩;obtain⟨gt,cap,htv,hgt,q0,_⟩:=h1.step hs;have kb:=h1.blk;rw[htv] at kb;have c1:=z6 kb 1;have c2:=z6 kb 2;have HX:=q8 hx;have HK:=q8 (And.intro hk (And.intro hmax hs));clear hx hx1 h1 hk hmax hs kb htv H HM HL;by_cases hq:s.q<AK.length
  ·have hqi:decide ((s.q:Int)<(AK.length:Int))=true:=decide_eq_true (by omega);go_wp2_with fail
   go_region
   go_wp2_with fail;go_ret;exact⟨HX.out.drew,true,by simp,fun _=>.inr ⟨k,s,HK.out.1,HK.out.2.1,HK.out.2.2,hq⟩,fun e=>by simp at e⟩
  ·have hqi:decide ((s.q:Int)<(AK.length:Int))=false:=decide_eq_false (by omega);go_wp2_with fail
   go_region
   go_wp2_with fail;go_ret;exact⟨HX.out.drew,false,by simp,fun e=>by simp at e,fun _=>⟨k,s,HK.out.1,HK.out.2.1,HK.out.2.2,by omega⟩⟩
end
end Go.Proofs.YtegbdaffhpiacaaGreatDoor
