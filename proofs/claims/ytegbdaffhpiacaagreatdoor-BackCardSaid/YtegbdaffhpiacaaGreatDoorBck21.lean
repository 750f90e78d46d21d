/- The program: a formula with parts is taken in; The program's pool: its size, a cut; The program's pool takes a formula, or nothing of it; A session of the program, whole: names, pool, formulas, frames; Count and Push; A session of the program: what each part's turning leaves of the whole; names are cut back. -/
import Derived.Test.YtegbdaffhpiacaaGreatDoorBck20
namespace Go.Proofs.YtegbdaffhpiacaaGreatDoor
open Go.RowKit Go.Maps Ar
def qc6 (w:World) (D:Nat->Prop) (A:List Nd) (ys:List Value) (ps:List Nd) (j:Nat):Prop :=
 ∃ kids:List (List Value),ys=kids.flatten/\(∀ cs∈kids,cs.length=4)/\kids.length=j/\∀ (i:Nat) (cs:List Value) (p:Nd),kids[i]?=some cs->ps[i]?=some p->FT w D A cs p
theorem qc6.snoc {wr w2 W:World} {D D1 D2:Nat->Prop} {A1 A2:List Nd} {ys zs:List Value} {ps:List Nd} {j:Nat} {p:Nd} (h:qc6 wr D1 A1 ys ps j) (hp:ps[j]?=some p) (hA:A1 <+: A2) (hz:FT w2 D2 A2 zs p)
  (h1:∀ cs q,FT wr D1 A1 cs q->FT W D A1 cs q) (h2:FT w2 D2 A2 zs p->FT W D A2 zs p):qc6 W D A2 (ys++zs) ps (j+1):=by
 obtain ⟨kids,rfl,hl,hn,hk⟩:=h
 refine ⟨kids++[zs],by simp,fun cs hc=>?_,by simp [hn],fun i cs q hi hq=>?_⟩
 ·rcases List.mem_append.1 hc with e | e
  ·exact hl cs e
  ·rw [List.mem_singleton.1 e];exact hz.len
 ·by_cases hlt:i < kids.length
  ·rw [List.getElem?_append_left hlt] at hi
   exact (h1 cs q (hk i cs q hi hq)).pre hA
  ·have hlen:=(List.getElem?_eq_some_iff.1 hi).1
   simp at hlen
   have hij:i=kids.length:=by omega
   subst hij
   rw [List.getElem?_append_right (Nat.le_refl _)] at hi
   simp at hi
   subst hi
   rw [hn,hp] at hq
   obtain rfl:p=q:=by simpa using hq
   exact h2 hz
structure FW (w:World) (sb:Nat) (nv:Value) (xs:PX) (T A:List Nd) (k:Int) (word:ByteArray) (pv:Value) (ps:List Nd) (j:Nat) (wr:World):Prop where
 ext:q9 (PF sb xs) w wr
 nbk:wr.heap[w.heap.size]?=some (.cells #[.int .i64 k,.string word,.int .i64 0,pv] 115)
 rbk:wr.heap[w.heap.size+1]?=some (.cells #[.int .i64 0,.string ⟨#[]⟩,.int .i64 0,.slice none 0 0] 112)
 row:∃ fv ys,wr.heap[w.heap.size+2]?=some (.cells #[.int .i64 k,.string word,.int .i64 0,fv] 112)/\wr.ownsRow 0 112 4 fv j ys/\(∀ q,fv.ownBlock=some q->w.heap.size+3<=q) /\
  ∃ ts' tm' at' am' T' A',PSt wr sb nv { xs with ts:=ts',tm:=tm',at_:=at',am:=am' } T' A'/\V8 T T' (Q8 true (ps.take j))/\V8 A A' (Q8 false (ps.take j))/\(∀ q,PF sb { xs with ts:=ts',tm:=tm',at_:=at',am:=am' } q->PF sb xs q\/w.heap.size+3<=q)/\(∀ q,fv.ownBlock=some q->¬PF sb { xs with ts:=ts',tm:=tm',at_:=at',am:=am' } q)/\qc6 wr (fun q=>w.heap.size+3<=q/\¬fv.ownBlock=some q) A' ys ps j
theorem qW9 {w wr V w2 w0 w3:World} {sb g cap':Nat} {nv pv fv:Value} {xs:PX} {T A T1 A1 T2 A2:List Nd} {k:Int} {word:ByteArray} {ps:List Nd} {j:Nat} {p:Nd} {ys zs:List Value} {ts1 tm1 at1 am1 ts2 tm2 at2 am2:Value} (h:FW w sb nv xs T A k word pv ps j wr) (hlt:∀ q,PF sb xs q->q < w.heap.size)
  (hfv:wr.heap[w.heap.size+2]?=some (.cells #[.int .i64 k,.string word,.int .i64 0,fv] 112)) (hown:wr.ownsRow 0 112 4 fv j ys) (hfq:∀ q,fv.ownBlock=some q->w.heap.size+3<=q)
  (hT1:V8 T T1 (Q8 true (ps.take j))) (hA1:V8 A A1 (Q8 false (ps.take j))) (hf1:∀ q,PF sb { xs with ts:=ts1,tm:=tm1,at_:=at1,am:=am1 } q->PF sb xs q\/w.heap.size+3<=q) (hfn:∀ q,fv.ownBlock=some q->¬PF sb { xs with ts:=ts1,tm:=tm1,at_:=at1,am:=am1 } q)
  (hx:q9 (fun _=>False) wr V) (hT2:V8 T1 T2 (J5 true p)) (hA2:V8 A1 A2 (J5 false p)) (h2:PSt w2 sb nv { xs with ts:=ts2,tm:=tm2,at_:=at2,am:=am2 } T2 A2) (hE:q9 (PF sb { xs with ts:=ts1,tm:=tm1,at_:=at1,am:=am1 }) V w2) (hf2:∀ q,PF sb { xs with ts:=ts2,tm:=tm2,at_:=at2,am:=am2 } q->PF sb { xs with ts:=ts1,tm:=tm1,at_:=at1,am:=am1 } q\/V.heap.size<=q)
  (hx0:q9 (fun _=>False) w2 w0) (hgrow:w0.grownBy w3 fv.ownBlock) (hown3:w3.ownsRow 0 112 4 (.slice (some ⟨g,0,none⟩) (j+1) cap') (j+1) (ys++zs)) (hat:fv.ownBlock=some g\/w2.heap.size<=g) (hp:ps[j]?=some p) (hps1:PSt wr sb nv { xs with ts:=ts1,tm:=tm1,at_:=at1,am:=am1 } T1 A1) (hkids:qc6 wr (fun q=>w.heap.size+3<=q/\¬fv.ownBlock=some q) A1 ys ps j) (hft:FT w2 (fun q=>V.heap.size<=q) A2 zs p) :
  FW w sb nv xs T A k word pv ps (j+1) (w3.setCell ⟨w.heap.size+2,3,none⟩ (.slice (some ⟨g,0,none⟩) (j+1) cap')):=by
 have s0:=h.ext.size
 have l0:=z8 h.nbk
 have l1:=z8 h.rbk
 have l2:=z8 hfv
 have sx:=hx.size
 have sE:=hE.size
 have s2:=hx0.size
 have hlt2:=h2.lt
 have hno:∀ q,w.heap.size<=q->q < w.heap.size+3->¬PF sb { xs with ts:=ts1,tm:=tm1,at_:=at1,am:=am1 } q:=by
  intro q h1 h2 h3
  rcases hf1 q h3 with e | e
  ·have:=hlt q e;omega
  ·omega
 have hfl:∀ q,fv.ownBlock=some q->q < wr.heap.size:=fun q hq=>(hown.lt q hq).2
 have hxx:q9 (fun q=>PF sb { xs with ts:=ts1,tm:=tm1,at_:=at1,am:=am1 } q\/fv.ownBlock=some q\/q=w.heap.size+2) wr (w3.setCell ⟨w.heap.size+2,3,none⟩ (.slice (some ⟨g,0,none⟩) (j+1) cap')):=by
  have e1:q9 (fun q=>PF sb { xs with ts:=ts1,tm:=tm1,at_:=at1,am:=am1 } q\/fv.ownBlock=some q\/q=w.heap.size+2) wr w3:=(((hx.mono (fun _ _ f=>f.elim)).trans (hE.mono (fun _ _ e=>.inl e))).trans (hx0.mono (fun _ _ f=>f.elim))).grown hgrow (fun q hq _=>.inr (.inl hq))
  exact e1.setCell (p:=⟨w.heap.size+2,3,none⟩) (fun _=>.inr (.inr rfl)) _
 have keep:∀ q o,q < w.heap.size+2->w.heap.size<=q->wr.heap[q]?=some o->(w3.setCell ⟨w.heap.size+2,3,none⟩ (.slice (some ⟨g,0,none⟩) (j+1) cap')).heap[q]?=some o:=by
  intro q o h1 h2 h3
  refine (hxx.block q (z8 h3) ?_).trans h3
  rintro (e | e | e)
  ·exact hno q h2 (by omega) e
  ·have:=hfq q e;omega
  ·omega
 have k3:w3.heap[w.heap.size+2]?=some (.cells #[.int .i64 k,.string word,.int .i64 0,fv] 112):=by
  have e1:q9 (fun q=>PF sb { xs with ts:=ts1,tm:=tm1,at_:=at1,am:=am1 } q\/fv.ownBlock=some q) wr w3:=(((hx.mono (fun _ _ f=>f.elim)).trans (hE.mono (fun _ _ e=>.inl e))).trans (hx0.mono (fun _ _ f=>f.elim))).grown hgrow (fun q hq _=>.inr hq)
  refine (e1.block _ l2 ?_).trans hfv
  rintro (e | e)
  ·exact hno _ (by omega) (by omega) e
  ·have:=hfq _ e;omega
 have hx3:q9 (fun q=>fv.ownBlock=some q) w2 w3:=(hx0.mono (fun _ _ f=>f.elim)).grown hgrow (fun q hq _=>hq)
 have hg3:w.heap.size+3<=g:=by
  rcases hat with e | e
  ·exact hfq g e
  ·omega
 have hfn2:∀ q,fv.ownBlock=some q->¬PF sb { xs with ts:=ts2,tm:=tm2,at_:=at2,am:=am2 } q:=by
  intro q hq h3
  rcases hf2 q h3 with e | e
  ·exact hfn q hq e
  ·have:=hfl q hq;omega
 have hf:∀ q,PF sb { xs with ts:=ts2,tm:=tm2,at_:=at2,am:=am2 } q->PF sb xs q\/w.heap.size+3<=q:=by
  intro q hq
  rcases hf2 q hq with e | e
  ·exact hf1 q e
  ·exact .inr (by omega)
 have hW:q9 (fun q=>q=w.heap.size+2) w3 (w3.setCell ⟨w.heap.size+2,3,none⟩ (.slice (some ⟨g,0,none⟩) (j+1) cap')):=(q9.refl (fun q=>q=w.heap.size+2) w3).setCell (p:=⟨w.heap.size+2,3,none⟩) (fun _=>rfl) _
 have et:Q8 true (ps.take (j+1))=Q8 true (ps.take j)++J5 true p:=by rw [List.take_add_one,hp,ze0];simp [Q8]
 have ef:Q8 false (ps.take (j+1))=Q8 false (ps.take j)++J5 false p:=by rw [List.take_add_one,hp,ze0];simp [Q8]
 refine ⟨h.ext.trans' hxx (fun q hq e=>?_),keep _ _ (by omega) (Nat.le_refl _) h.nbk,keep _ _ (by omega) (by omega) h.rbk,.slice (some ⟨g,0,none⟩) (j+1) cap',ys++zs,Y0 k3 3 _,z7 hown3 hW (fun q hq e=>by simp [Value.ownBlock] at hq;omega),fun q hq=>by simp [Value.ownBlock] at hq;omega,ts2,tm2,at2,am2,T2,A2,?_,(hT1.trans hT2).cast et.symm,(hA1.trans hA2).cast ef.symm,hf,?_,?_⟩
 ·rcases e with e | e | e
  ·rcases hf1 q e with e | e
   ·exact e
   ·omega
  ·have:=hfq q e;omega
  ·omega
 ·refine (h2.ext hx3 (fun q hq e=>hfn2 q e hq)).ext hW (fun q hq e=>?_)
  rcases hf q hq with e2 | e2
  ·have:=hlt q e2;omega
  ·omega
 ·intro q hq h3
  simp [Value.ownBlock] at hq
  subst hq
  rcases hat with e | e
  ·exact hfn2 g e h3
  ·have:=hlt2 g h3;omega
 ·refine hkids.snoc hp hA2.pre hft (fun cs q hq=>?_) (fun hq=>?_)
  ·have hq1:=(hq.free hps1).mono (D':=fun k=>(w.heap.size+3<=k/\¬fv.ownBlock=some k/\¬PF sb { xs with ts:=ts1,tm:=tm1,at_:=at1,am:=am1 } k)/\¬(Value.slice (some ⟨g,0,none⟩) (j+1) cap').ownBlock=some k) (fun k hk hd=>⟨⟨hd.1.1,hd.1.2,hd.2⟩,fun e=>by
    simp [Value.ownBlock] at e
    subst e
    rcases hat with e | e
    ·exact hd.1.2 e
    ·omega⟩)
   exact (hq1.ext hxx (fun k hk hd e=>by
    rcases e with e | e | e
    ·exact hd.1.2.2 e
    ·exact hd.1.2.1 e
    ·have:=hd.1.1;omega)).mono (fun k hk hd=>⟨hd.1.1,hd.2⟩)
  ·have hq1:=hq.mono (D':=fun k=>(V.heap.size<=k)/\¬(Value.slice (some ⟨g,0,none⟩) (j+1) cap').ownBlock=some k) (fun k hk hd=>⟨hd,fun e=>by
    simp [Value.ownBlock] at e
    subst e
    rcases hat with e | e
    ·have:=hfl g e;omega
    ·omega⟩)
   exact ((hq1.ext hx3 (fun k hk hd e=>by have:=hfl k e;have:=hd.1;omega)).ext hW (fun k hk hd e=>by have:=hd.1;omega)).mono (fun k hk hd=>⟨by have:=hd.1;omega,hd.2⟩)
theorem qX0 {w wr W:World} {sb:Nat} {nv pv:Value} {xs:PX} {T A:List Nd} {k:Int} {word:ByteArray} {ps:List Nd} (hlt:∀ q,PF sb xs q->q < w.heap.size) (h:FW w sb nv xs T A k word pv ps ps.length wr) (hW:q9 (fun q=>q=w.heap.size+1) wr W) (hk:∀ t,U9 t k=false) {fv:Value} (hfv:wr.heap[w.heap.size+2]?=some (.cells #[.int .i64 k,.string word,.int .i64 0,fv] 112)):∃ T' A',V8 T T' (J5 true (.mk k word 0 ps))/\V8 A A' (J5 false (.mk k word 0 ps))/\FT W (fun q=>w.heap.size<=q) A' [.int .i64 k,.string word,.int .i64 0,fv] (.mk k word 0 ps)/\zi4 w sb nv xs T' A' W:=by
 obtain ⟨fv2,ys,hfv2,hown,hfq,ts',tm',at',am',T',A',h1,h2,h3,h4,_,kids,rfl,hl,hn,hkf⟩:=h.row
 rw [hfv] at hfv2
 obtain rfl:fv=fv2:=by simpa using hfv2
 have e:∀ t,Q8 t (ps.take ps.length)=J5 t (.mk k word 0 ps):=by
  intro t
  rw [List.take_of_length_le (Nat.le_refl _),J5,if_neg (by rw [hk t];decide)]
  rfl
 have h2k:¬k=2:=by
  intro e2
  subst e2
  have:=hk false
  simp [U9] at this
 refine ⟨T',A',h2.cast (e true),h3.cast (e false),.node h2k (z7 hown hW (fun q hq e=>by have:=hfq q hq;omega)) hl hn (fun g hg=>by have:=hfq g hg;omega) (fun i cs p hi hp=>((hkf i cs p hi hp).ext hW (fun q _ hd e=>by have:=hd.1;omega)).mono (fun q _ hd=>by have:=hd.1;omega)),ts',tm',at',am',h1.ext hW (fun q hq e=>?_),h.ext.trans' hW (fun q hq e=>by omega),fun q hq=>(h4 q hq).imp id (fun e=>by omega)⟩
 rcases h4 q hq with e2 | e2
 ·have:=hlt q e2;omega
 ·omega
set_option maxRecDepth 100000 in
set_option maxHeartbeats 1000000 in
theorem qL6 {w:World} {sb:Nat} {nv:Value} {xs:PX} {T A:List Nd} {k:Int} {word:ByteArray} {ps:List Nd} {pa:Option Addr} {pc:Nat} {D:Nat->Prop} (h:PSt w sb nv xs T A) (hk2:(k == 2)=false) (hk:∀ t,U9 t k=false) (hlen:T.length+(Q8 true ps).length<=9000000) (hlen2:A.length+(Q8 false ps).length<=9000000) (hpl:ps.length<=9000000)
  (hkid:∀ (i:Nat) (p:Nd),ps[i]?=some p->∃ g k' wd' v' pa' pn' pc',pa=some ⟨g,0,none⟩/\g < w.heap.size/\D g/\w.cell? ⟨g,i * 4,none⟩=some (.int .i64 k')/\w.cell? ⟨g,i * 4+1,none⟩=some (.string wd')/\w.cell? ⟨g,i * 4+2,none⟩=some (.int .i64 v')/\w.cell? ⟨g,i * 4+3,none⟩=some (.slice pa' pn' pc')/\PN w D [.int .i64 k',.string wd',.int .i64 v',.slice pa' pn' pc'] p)
  (hDl:∀ k,D k->k < w.heap.size) (hDT:∀ k,D k->¬PF sb xs k) (hih:∀ p∈ps,jm6 sb nv p) :
  Calls Tryz.prog 73 #[.pointer (some ⟨sb,1,none⟩),.agg #[.int .i64 k,.string word,.int .i64 0,.slice pa ps.length pc]] w (qm6 w sb nv xs T A (.mk k word 0 ps)):=by
 have HLT:=q8 h.lt
 have H:=q8 h
 have HK:=q8 hk
 have HLEN:=q8 hlen
 have HLEN2:=q8 hlen2
 have HKID:=q8 hkid
 have HDL:=q8 hDl
 have HDT:=q8 hDT
 have HIH:=q8 hih
 have hFW:FW w sb nv xs T A k word (.slice pa ps.length pc) ps 0 (((w.alloc (.cells #[.int .i64 k,.string word,.int .i64 0,.slice pa ps.length pc] 115)).alloc (.cells #[.int .i64 0,.string ⟨#[]⟩,.int .i64 0,.slice none 0 0] 112)).alloc (.cells #[.int .i64 k,.string word,.int .i64 0,.slice none 0 0] 112)):=by
  have hx:q9 (fun _=>False) w (((w.alloc (.cells #[.int .i64 k,.string word,.int .i64 0,.slice pa ps.length pc] 115)).alloc (.cells #[.int .i64 0,.string ⟨#[]⟩,.int .i64 0,.slice none 0 0] 112)).alloc (.cells #[.int .i64 k,.string word,.int .i64 0,.slice none 0 0] 112)):=(((q9.refl _ w).alloc _).alloc _).alloc _
  refine ⟨hx.mono (fun _ _ f=>f.elim),?_,?_,.slice none 0 0,[],?_,World.ownsRow_nil _ _ _ _,fun q hq=>absurd hq (by simp [Value.ownBlock]),xs.ts,xs.tm,xs.at_,xs.am,T,A,h.ext hx (fun _ _ f=>f),V8.refl T,V8.refl A,fun q hq=>.inl hq,fun q hq=>absurd hq (by simp [Value.ownBlock]),[],rfl,by simp,rfl,by simp⟩
  ·rw [heap_alloc_old _ _ (by simp;omega),heap_alloc_old _ _ (by simp)];exact heap_alloc_new w _
  ·rw [heap_alloc_old _ _ (by simp)];exact heap_alloc2_new w _ _
  ·have e:=heap_alloc_new ((w.alloc (.cells #[.int .i64 k,.string word,.int .i64 0,.slice pa ps.length pc] 115)).alloc (.cells #[.int .i64 0,.string ⟨#[]⟩,.int .i64 0,.slice none 0 0] 112)) (.cells #[.int .i64 k,.string word,.int .i64 0,.slice none 0 0] 112)
   simpa using e
 have HFW:=q8 hFW
 obtain ⟨i0,hi,hz0,hz1,hz2⟩:=info_parts zV7
 have HI:Hid (Tryz.prog.info? 112=some i0/\i0.zero=some (.agg #[.int .i64 0,.string ByteArray.empty,.int .i64 0,.slice none 0 0])/\i0.size=4/\i0.bytes=56):=⟨hi,hz0,hz1,hz2⟩
 clear h hk hlen hlen2 hkid hDl hDT hih hFW hi hz0 hz1 hz2
 go_enter Tryz.func73,Tryz.ntmps73
 go_wp2_with fail
 go_loopw [23] (fun i wr=>∃ (j:Nat),j<=ps.length/\i=.int .i64 j/\FW w sb nv xs T A k word (.slice pa ps.length pc) ps j wr) (fun i _=>ps.length - (intOf i).toNat)
 case atStart=>exact ⟨0,Nat.zero_le _,rfl,HFW.out⟩
 case round =>
  clear HFW
  obtain ⟨j,hj,rfl,hfw⟩:=hrel
  have HFW:=q8 hfw
  clear hfw
  by_cases hlt:j < ps.length
  ·obtain ⟨p,hp⟩:∃ p,ps[j]?=some p:=⟨_,List.getElem?_eq_getElem hlt⟩
   obtain ⟨g,k',wd',v',pa',pn',pc',rfl,hgl,hDg,z0,z1,z2,z3,hpn⟩:=HKID.out j p hp
   rw [<- HFW.out.ext.cell (p:=⟨g,j * 4,none⟩) hgl (HDT.out g hDg)] at z0
   rw [<- HFW.out.ext.cell (p:=⟨g,j * 4+1,none⟩) hgl (HDT.out g hDg)] at z1
   rw [<- HFW.out.ext.cell (p:=⟨g,j * 4+2,none⟩) hgl (HDT.out g hDg)] at z2
   rw [<- HFW.out.ext.cell (p:=⟨g,j * 4+3,none⟩) hgl (HDT.out g hDg)] at z3
   have HP:=q8 hp
   have HPN:=q8 hpn
   have HMEM:=q8 (List.mem_of_getElem? hp)
   obtain ⟨fv,ys,hfv,hown,hfq,ts1,tm1,at1,am1,T1,A1,hps1,hT1,hA1,hf1,hfn,hkids⟩:=HFW.out.row
   obtain ⟨fa,fc,rfl⟩:=j9 hown
   have HFV:=q8 hfv
   have HOWN:=q8 hown
   have HFQ:=q8 hfq
   have HPS1:=q8 hps1
   have HT1:=q8 hT1
   have HA1:=q8 hA1
   have HF1:=q8 hf1
   have HFN:=q8 hfn
   have HKI:=q8 hkids
   clear hp hpn hgl hDg hfv hown hfq hps1 hT1 hA1 hf1 hfn hkids
   go_wp2_with fail
   obtain ⟨V,hV⟩:∃ V,wr.alloc (.cells #[.int .i64 k',.string wd',.int .i64 v',.slice pa' pn' pc'] 115)=V:=⟨_,rfl⟩
   have HXV:Hid (q9 (fun _=>False) wr V):=by rw [<- hV];exact (q9.refl _ wr).alloc _
   have HXD:Hid (q9 (fun _=>False) wr V.drew):=HXV.out.drew
   have kP:V.heap[wr.heap.size]?=some (.cells #[.int .i64 k',.string wd',.int .i64 v',.slice pa' pn' pc'] 115):=by rw [<- hV];exact heap_alloc_new wr _
   have kT:V.heap[w.heap.size+1+1]?=some (.cells #[.int .i64 k,.string word,.int .i64 0,.slice fa j fc] 112):=(HXV.out.block _ (z8 HFV.out) (fun f=>f)).trans HFV.out
   rw [hV]
   clear hV z0 z1 z2 z3
   have z0:=z6 kP 0
   have z1:=z6 kP 1
   have z2:=z6 kP 2
   have z3:=z6 kP 3
   have t3:=z6 kT 3
   have hlT:=z8 kT
   have KT:=q8 kT
   have HC:=q8 (HIH.out p HMEM.out V.drew _ T1 A1 D k' wd' v' pa' pn' pc' ((HPN.out.ext HFW.out.ext (fun k _ hd=>HDT.out k hd)).ext HXD.out (fun _ _ _ f=>f)) (fun k hd=>by have:=HDL.out k hd;have:=HFW.out.ext.size;have:=HXD.out.size;omega) (fun k hd hq=>by
    rcases HF1.out k hq with e | e
    ·exact HDT.out k hd e
    ·have:=HDL.out k hd;omega) (HPS1.out.ext HXD.out (fun _ _ f=>f)) (by
    have h1:=HT1.out.len
    have h2:=zs3 true HP.out
    have h3:=HLEN.out
    omega) (by
    have h1:=HA1.out.len
    have h2:=zs3 false HP.out
    have h3:=HLEN2.out
    omega))
   have hno:¬PF sb { xs with ts:=ts1,tm:=tm1,at_:=at1,am:=am1 } (w.heap.size+1+1):=fun hq=>by
    rcases HF1.out _ hq with e | e
    ·have:=HLT.out _ e;omega
    ·omega
   have HNO:=q8 hno
   obtain ⟨hi,hz0,hz1,hz2⟩:=HI.out
   clear kP kT hno
   go_region_law (first | (refine step_append_lies _ (by rfl) _ _ _ (by rfl) 0 112 i0 _ 4 56 Tryz.underlying89 hi hz0 hz1 hz2 rfl (by omega) (.slice fa j fc) j ys (by rfl) (HO2.out.alloc _) ⟨w2.heap.size,0,none⟩ 1 1 [.int .i64 rk,.string rwd',.int .i64 ri,.slice rpa rpn rpc] (by rfl) (by rfl) (World.news_of_block (cs:=#[.int .i64 rk,.string rwd',.int .i64 ri,.slice rpa rpn rpc]) (t:=112) (fr:=(0,0)) (heap_alloc_new w2 _)) (by simp [Value.oneCell']) (by omega) (by unfold maxLen;omega) (by omega) (Nat.zero_le _) (w2.heap.size+1) (by simp) ?_;intro g3 cap3 w3 hown3 hgrow hat hlt3;have kb3:w3.heap[w.heap.size+1+1]?=some (.cells #[.int .i64 k,.string word,.int .i64 0,.slice fa j fc] 112):=(hgrow.block _ (by have:=z8 KB2.out;simp;omega) (fun e=>by have:=HFQ.out _ e.symm;omega)).trans ((Below.heap_alloc w2 _ _ (z8 KB2.out)).trans KB2.out);have d3:=z6 kb3 3;have d3f:=Q0 kb3 3) | (go_simp;go_wp2_with (go_at_call 73;refine HC.out.mono ?_;rintro e w2 ⟨rk,rwd',ri,rpa,rpn,rpc,rfl,T2,A2,hT2,hA2,hft,ts2,tm2,at2,am2,k1,k2,k3⟩;have HFT:=q8 hft;have KB2:Hid (w2.heap[w.heap.size+1+1]?=some (.cells #[.int .i64 k,.string word,.int .i64 0,.slice fa j fc] 112)):=(k2.block _ hlT HNO.out).trans KT.out;have c23:=z6 KB2.out 3;have hl2:=z8 KB2.out;have hne2:¬w.heap.size+1+1=w2.heap.size:=(by omega);have HO2:=q8 (z7 (z7 HOWN.out HXD.out (fun _ _ f=>f)) k2 (fun q hq=>HFN.out q hq));have HK1:=q8 k1;have HK2:=q8 k2;have HK3:=q8 k3;have HT2:=q8 hT2;have HA2:=q8 hA2;clear k1 k2 k3 hT2 hA2 hft)))
   all_goals
    have hfs:=qW9 HFW.out HLT.out HFV.out HOWN.out HFQ.out HT1.out HA1.out HF1.out HFN.out HXD.out HT2.out HA2.out HK1.out HK2.out HK3.out ((q9.refl (fun _=>False) w2).alloc _) hgrow hown3 (hat.imp id (fun e=>by omega)) HP.out HPS1.out HKI.out HFT.out
    have HFS:=q8 hfs
    clear hfs hown3 hgrow hat kb3
    go_wp2_with fail
    go_roundw
    case measure=>simp [intOf];omega
    case rel=>exact ⟨j+1,by omega,by go_num,HFS.out⟩
  ·have hjl:j=ps.length:=by omega
   subst hjl
   obtain ⟨fv,ys,hfv,hown,_⟩:=HFW.out.row
   obtain ⟨fa,fc,rfl⟩:=j9 hown
   have kT:wr.heap[w.heap.size+1+1]?=some (.cells #[.int .i64 k,.string word,.int .i64 0,.slice fa ps.length fc] 112):=hfv
   have t0:=z6 kT 0
   have t1:=z6 kT 1
   have t2:=z6 kT 2
   have t3:=z6 kT 3
   have kR:=HFW.out.rbk
   have r0:=z6 kR 0
   have r1:=z6 kR 1
   have r2:=z6 kR 2
   have r3:=z6 kR 3
   have f0:=Q0 kR 0
   have f1:=Q0 kR 1
   have f2:=Q0 kR 2
   have f3:=Q0 kR 3
   have KT:=q8 kT
   clear hfv hown kT kR
   go_wp2_with fail
   refine bodyPost_ret (v:=.agg #[.int .i64 k,.string word,.int .i64 0,.slice fa ps.length fc]) (by simp [results,Tryz.results73,go_sem,r0,r1,r2,r3]) rfl ?_
   refine ⟨k,word,0,fa,ps.length,fc,rfl,qX0 HLT.out HFW.out ?_ HK.out KT.out⟩
   exact (((((q9.refl (fun q=>q=w.heap.size+1) wr).setCell (p:=⟨w.heap.size+1,0,none⟩) (fun _=>rfl) _).setCell (p:=⟨w.heap.size+1,1,none⟩) (fun _=>rfl) _).setCell (p:=⟨w.heap.size+1,2,none⟩) (fun _=>rfl) _).setCell (p:=⟨w.heap.size+1,3,none⟩) (fun _=>rfl) _)
theorem qm7 {k v:Int} {w:ByteArray} {ps:List Nd}:ps.length<=(Z1 (.mk k w v ps)).length:=by
 have h1:ps.length<=(Q9 ps).length:=by
  induction ps with
  | nil=>exact Nat.le_refl _
  | cons q qs ih=>simp only [Q9,List.length_cons,List.length_append];omega
 have h2:(Q9 ps).length<=(Z1 (.mk k w v ps)).length:=by
  rw [Z1]
  split
  ·simp only [List.length_cons,List.length_append];omega
  ·rename_i h
   have:ps=[]:=by
    cases ps with
    | nil=>rfl
    | cons p ps=>exact absurd (Or.inr (Or.inr (by simp))) h
   subst this
   simp [Q9]
 omega
theorem qL7 {k v:Int} {w:ByteArray} {ps:List Nd} {p:Nd} (hp:p∈ps):(Z1 p).length<=(Z1 (.mk k w v ps)).length:=by
 have h1:(Z1 p).length<=(Q9 ps).length:=by
  induction ps with
  | nil=>exact absurd hp (by simp)
  | cons q qs ih =>
   simp only [Q9,List.length_cons,List.length_append]
   rcases List.mem_cons.1 hp with rfl | h
   ·omega
   ·have:=ih h;omega
 rw [Z1,if_pos (Or.inr (Or.inr (by intro e;subst e;simp at hp)))]
 simp only [List.length_cons,List.length_append]
 omega
theorem qc7 {sb:Nat} {nv:Value}:∀ {f:Nd},zi5 f->(Z1 f).length<=1000000->jm6 sb nv f:=by
 intro f hf
 induction hf with
 | @truth word hw =>
  intro _ w xs T A D k' wd' v' pa' pn' pc' hpn hDl hDT hps hl1 hl2
  cases hpn with
  | @mk _ _ _ _ _ kids how hkl hkn hD hk =>
   obtain ⟨a,cap,hv,_,_,hkid⟩:=zF7 how hkl hkn hD hk
   cases hv
   exact qL6 hps (by decide) (fun t=>by cases t <;> rfl) (by simp [Q8];omega) (by simp [Q8];omega) (by simp) hkid hDl hDT (fun p hp=>absurd hp (by simp))
 | @con word ps hw hp ih =>
  intro hfl w xs T A D k' wd' v' pa' pn' pc' hpn hDl hDT hps hl1 hl2
  cases hpn with
  | @mk _ _ _ _ _ kids how hkl hkn hD hk =>
   obtain ⟨a,cap,hv,_,_,hkid⟩:=zF7 how hkl hkn hD hk
   cases hv
   have e:∀ t,J5 t (.mk 1 word 0 ps)=Q8 t ps:=by
    intro t
    rw [J5,if_neg (by cases t <;> decide)]
    rfl
   rw [e] at hl1 hl2
   have:=qm7 (k:=1) (v:=0) (w:=word) (ps:=ps)
   exact qL6 hps (by decide) (fun t=>by cases t <;> rfl) hl1 hl2 (by omega) hkid hDl hDT (fun p hpp=>ih p hpp (by have:=qL7 (k:=1) (v:=0) (w:=word) hpp;omega))
 | @two word a b hw ha hb =>
  intro _ w xs T A D k' wd' v' pa' pn' pc' hpn hDl hDT hps hl1 hl2
  have hpn2:=hpn
  cases hpn
  exact qu5 (.two hw ha hb) ha hb (.inl rfl) hpn2 hDl hDT hps hl1 hl2
 | @le word a b v hw ha hb h1 h2 =>
  intro _ w xs T A D k' wd' v' pa' pn' pc' hpn hDl hDT hps hl1 hl2
  have hpn2:=hpn
  cases hpn
  exact qu5 (.le hw ha hb h1 h2) ha hb (.inr ⟨v,rfl,h1,h2⟩) hpn2 hDl hDT hps hl1 hl2
theorem row_len {w:World} {e size n:Nat} {v:Value} {xs:List Value} (h:w.ownsRow 0 e size v n xs):∃ a cap,v=.slice a n cap:=j9 h
set_option maxRecDepth 100000 in
set_option maxHeartbeats 1000000 in
theorem zB7 {w:World} {sb:Nat} {nv:Value} {xs:PX} {T A:List Nd} (h:PSt w sb nv xs T A) :
  Calls Tryz.prog 41 #[.pointer (some ⟨sb,1,none⟩)] w fun e w'=>e=.returned (.agg #[.int .i64 T.length,.int .i64 A.length])/\q9 (fun _=>False) w w':=by
 obtain ⟨ta,tc,ht⟩:=j9 h.ts.row.own
 obtain ⟨aa,ac,ha⟩:=j9 h.ar.own
 rw [Y4] at ht
 rw [zl7] at ha
 have kb:=h.ts.blk
 rw [ht,ha] at kb
 have hsb:=z8 kb
 have c1:=z6 kb 1
 have c3:=z6 kb 3
 have hne:¬sb=w.heap.size:=by omega
 have HX:Hid (q9 (fun _=>False) w (w.alloc (.cells #[.int .i64 0,.int .i64 0] 103))):=(q9.refl _ w).alloc _
 have kr:=heap_alloc_new w (.cells #[.int .i64 0,.int .i64 0] 103)
 have r0:=z6 kr 0
 have r1:=z6 kr 1
 have f0:=Q0 kr 0
 have f1:=Q0 kr 1
 clear h kb ht ha kr
 go_enter Tryz.func41,Tryz.ntmps41
 go_wp2_with fail
 go_region
 all_goals
  go_wp2_with fail
  refine bodyPost_ret (v:=.agg #[.int .i64 T.length,.int .i64 A.length]) (by simp [results,Tryz.results41,go_sem]) rfl ⟨rfl,?_⟩
  exact ((q9.refl _ w).alloc _).drew
set_option maxHeartbeats 400000 in
theorem qB2 (n m:Nat) (w:World) (hn:n<=100000000) (hm:m<=100000000) :
  Calls Tryz.prog 74 #[.agg #[.int .i64 n,.int .i64 m]] w fun e w'=>e=.returned (.int .i64 (if 12 < n then 9 else if 16 < m then 10 else 0))/\q9 (fun _=>False) w w':=by
 have HX:Hid (q9 (fun _=>False) w (w.alloc (.cells #[.int .i64 n,.int .i64 m] 103))):=(q9.refl _ w).alloc _
 by_cases h1:12 < n
 ·go_enter Tryz.func74,Tryz.ntmps74
  go_wp2_with fail
  go_ret
  exact ⟨rfl,HX.out⟩
 by_cases h2:16 < m
 ·go_enter Tryz.func74,Tryz.ntmps74
  go_wp2_with fail
  go_ret
  exact ⟨rfl,HX.out⟩
 ·go_enter Tryz.func74,Tryz.ntmps74
  go_wp2_with fail
  go_ret
  exact ⟨rfl,HX.out⟩
theorem qX1 {w w1 w2:World} {sb n m:Nat} {nv:Value} {xs:PX} {T A:List Nd} {tv' av':Value} (h:PSt w sb nv xs T A) (hac:AC (T.take n) (A.take m)) (k1:w2.heap[sb]?=some (.cells #[nv,tv',xs.tm,av',xs.am,xs.fs,xs.ks,xs.vd,xs.ml] 98)) (ht:zJ9 w1 tv' xs.tm ((keys T).take n)) (hE1:q9 (fun k=>k=sb\/xs.ts.ownBlock=some k\/U0 xs.tm=some k) w w1) (ho1:tv'.ownBlock=xs.ts.ownBlock)
  (ha:zE8 w2 av' xs.am ((keysA T A).take m)) (hE2:q9 (fun k=>k=sb\/xs.at_.ownBlock=some k\/U0 xs.am=some k) w1 w2) (ho2:av'.ownBlock=xs.at_.ownBlock):zi4 w sb nv xs (T.take n) (A.take m) w2:=by
 have htf:∀ k,TF sb { xs with ts:=tv',tm:=xs.tm,at_:=av',am:=xs.am } k->TF sb xs k:=by
  rintro k (e | e | e)
  ·exact .inl e
  ·exact .inr (.inl (ho1 ▸ e))
  ·exact .inr (.inr e)
 refine ⟨tv',xs.tm,av',xs.am,⟨⟨k1,?_,h.ts.cl.take n,h.ts.nd.sublist (List.take_sublist n T),fun k hk=>h.ts.s1 k (ho1 ▸ hk),h.ts.s2⟩,?_,hac,h.nd.sublist (List.take_sublist m A),fun k hk=>h.s3 k (ho2 ▸ hk),h.s4,fun k hk=>?_⟩,?_,?_⟩
 ·rw [qC3 h.ts.cl]
  refine ht.ext hE2 ?_ ?_
  ·rintro g hg (e | e | e)
   ·exact h.ts.s1 g (ho1 ▸ hg) e
   ·exact (h.ap g (.inr (.inl (ho1 ▸ hg)))).1 e
   ·exact (h.ap g (.inr (.inl (ho1 ▸ hg)))).2 e
  ·rintro g hg (e | e | e)
   ·exact h.ts.s2 g hg e
   ·exact (h.ap g (.inr (.inr hg))).1 e
   ·exact (h.ap g (.inr (.inr hg))).2 e
 ·rw [qn8 m n hac]
  exact ha
 ·have:=h.ap k (htf k hk)
  exact ⟨fun e=>this.1 (ho2 ▸ e),this.2⟩
 ·exact (hE1.mono (fun _ _ e=>Or.inl e)).trans' hE2 (fun k _ e=>e.elim (fun e=>.inl (.inl e)) (fun e=>.inr e))
 ·rintro k (e | e | e)
  ·exact .inl (.inl (htf k e))
  ·exact .inl (.inr (.inl (ho2 ▸ e)))
  ·exact .inl (.inr (.inr e))
set_option maxRecDepth 100000 in
set_option maxHeartbeats 1000000 in
theorem qc8 {w:World} {sb n m:Nat} {nv:Value} {xs:PX} {T A:List Nd} (h:PSt w sb nv xs T A) (hn:n<=T.length) (hm:m<=A.length) (hl:T.length<=10000000) (hl2:A.length<=10000000) (hac:AC (T.take n) (A.take m)) :
  Calls Tryz.prog 44 #[.pointer (some ⟨sb,1,none⟩),.agg #[.int .i64 n,.int .i64 m]] w fun e w'=>e=.returned (.tuple #[])/\zi4 w sb nv xs (T.take n) (A.take m) w':=by
 have H:=q8 h
 have HAC:=q8 hac
 obtain ⟨V,hV⟩:∃ V,w.alloc (.cells #[.int .i64 n,.int .i64 m] 103)=V:=⟨_,rfl⟩
 have hxV:q9 (fun _=>False) w V:=by rw [<- hV];exact (q9.refl _ w).alloc _
 have kS:V.heap[w.heap.size]?=some (.cells #[.int .i64 n,.int .i64 m] 103):=by rw [<- hV];exact heap_alloc_new w _
 have hV2:=h.ext hxV.drew (fun _ _ f=>f)
 have HC:=q8 (qn4 n hV2.ts.blk hV2.ts.row hV2.ts.s1 hV2.ts.s2 (by rw [Y4];exact hl) (by rw [Y4];exact hn))
 have hlt:=h.lt
 have HV:=q8 hV
 have HXV:=q8 hxV
 have KS:=q8 kS
 have HLT:=q8 hlt
 have hsb:=z8 h.ts.blk
 clear h hac hxV hV2 hlt
 have s0:=z6 kS 0
 have s1:=z6 kS 1
 clear kS hV
 go_enter Tryz.func44,Tryz.ntmps44
 go_wp2_with fail
 rw [HV.out]
 go_region_law (go_simp;go_wp2_with (go_at_call 65;refine HC.out.mono ?_;rintro e w1 ⟨rfl,tv',k1,k2,k3,k4⟩;have KS1:Hid (w1.heap[w.heap.size]?=some (.cells #[.int .i64 n,.int .i64 m] 103)):=(k3.block _ (z8 KS.out) (fun hq=>by have:=HLT.out _ (Or.inl hq);omega)).trans KS.out;have s1':=z6 KS1.out 1;have K1:=q8 k1;have K2:=q8 k2;have K3:=q8 k3;have K4:=q8 k4;clear k1 k2 k3 k4))
 all_goals
  have har:zE8 w1.drew xs.at_ xs.am (keysA T A):=by
   refine (H.out.ar.ext (HXV.out.drew) (fun _ _ f=>f) (fun _ _ f=>f)).ext K3.out.drew ?_ ?_
   ·rintro g hg (e | e | e)
    ·exact H.out.s3 g hg e
    ·exact (H.out.ap g (.inr (.inl e))).1 hg
    ·exact (H.out.ap g (.inr (.inr e))).1 hg
   ·rintro g hg (e | e | e)
    ·exact H.out.s4 g hg e
    ·exact (H.out.ap g (.inr (.inl e))).2 hg
    ·exact (H.out.ap g (.inr (.inr e))).2 hg
  have HC2:=q8 (qn6 (xs := { xs with ts:=tv' }) (w:=w1.drew) m K1.out har H.out.s3 H.out.s4 (by rw [zl7];exact hl2) (by rw [zl7];exact hm))
  clear har
  go_wp2_with fail
  go_region_law (go_simp;go_wp2_with (go_at_call 66;refine HC2.out.mono ?_;rintro e w2 ⟨rfl,av',q1,q2,q3,q4⟩;have Q1:=q8 q1;have Q2:=q8 q2;have Q3:=q8 q3;have Q4:=q8 q4;clear q1 q2 q3 q4))
  all_goals
   go_wp2_with fail
   go_end0
   refine ⟨rfl,?_⟩
   exact qX1 H.out HAC.out Q1.out K2.out ((HXV.out.drew.mono (fun _ _ f=>f.elim)).trans K3.out) K4.out Q2.out (((q9.refl _ w1).drew).trans Q3.out) Q4.out
def zd8 (n m:Nat):Int:=if 12 < n then 9 else if 16 < m then 10 else 0
def qL8 (w:World) (sb:Nat) (nv:Value) (xs:PX) (T A:List Nd) (f:Nd) (e:Ending) (w':World):Prop :=
 ∃ T' A',V8 T T' (J5 true f)/\V8 A A' (J5 false f)/\∃ k wd i pa pn pc,e=.returned (.tuple #[.agg #[.int .i64 k,.string wd,.int .i64 i,.slice pa pn pc],.int .i64 (zd8 T'.length A'.length)])/\(zd8 T'.length A'.length=0->FT w' (fun q=>w.heap.size<=q) A' [.int .i64 k,.string wd,.int .i64 i,.slice pa pn pc] f) /\
  zi4 w sb nv xs (if zd8 T'.length A'.length=0 then T' else T) (if zd8 T'.length A'.length=0 then A' else A) w'
theorem qc9 {T T':List Nd} (h:T <+: T'):T'.take T.length=T:=by
 obtain ⟨r,rfl⟩:=h
 simp
theorem zJ5 {w V w2 W:World} {sb:Nat} {nv:Value} {xs:PX} {T' A':List Nd} (hxV:q9 (fun _=>False) w V) (hlt:∀ k,PF sb xs k->k < w.heap.size) (h:zi4 V sb nv xs T' A' w2) (hW:q9 (fun k=>w.heap.size<=k/\k < V.heap.size) w2 W):zi4 w sb nv xs T' A' W:=by
 obtain ⟨a,b,c,d,k1,k2,k3⟩:=h
 refine ⟨a,b,c,d,k1.ext hW (fun k hk e=>?_),((hxV.mono (fun _ _ f=>f.elim)).trans k2).trans' hW (fun k hk e=>by omega),fun k hk=>(k3 k hk).imp id (fun e=>by have:=hxV.size;omega)⟩
 rcases k3 k hk with h | h
 ·have:=hlt k h;omega
 ·omega
theorem qd0 {w w1 w2:World} {sb:Nat} {nv:Value} {xs:PX} {T' A':List Nd} {ts1 tm1 at1 am1:Value} (h1:q9 (PF sb xs) w w1) (h3:∀ k,PF sb { xs with ts:=ts1,tm:=tm1,at_:=at1,am:=am1 } k->PF sb xs k\/w.heap.size<=k) (h:zi4 w1 sb nv { xs with ts:=ts1,tm:=tm1,at_:=at1,am:=am1 } T' A' w2):zi4 w sb nv xs T' A' w2:=by
 obtain ⟨a,b,c,d,k1,k2,k3⟩:=h
 refine ⟨a,b,c,d,k1,h1.trans' k2 (fun k hk e=>?_),fun k hk=>?_⟩
 ·rcases h3 k e with e | e
  ·exact e
  ·omega
 ·rcases k3 k hk with e | e
  ·exact h3 k e
  ·have:=h1.size;exact .inr (by omega)
set_option maxRecDepth 100000 in
set_option maxHeartbeats 1000000 in
theorem qB3 {w:World} {sb:Nat} {nv:Value} {xs:PX} {T A:List Nd} {f:Nd} {D:Nat->Prop} {k':Int} {wd':ByteArray} {v':Int} {pa':Option Addr} {pn' pc':Nat} (hf:zi5 f) (hfl:(Z1 f).length<=1000000) (hpn:PN w D [.int .i64 k',.string wd',.int .i64 v',.slice pa' pn' pc'] f) (hDl:∀ k,D k->k < w.heap.size) (hDT:∀ k,D k->¬PF sb xs k) (h:PSt w sb nv xs T A) (hT:T.length<=12) (hA:A.length<=16) :
  Calls Tryz.prog 48 #[.pointer (some ⟨sb,1,none⟩),.agg #[.int .i64 k',.string wd',.int .i64 v',.slice pa' pn' pc']] w (qL8 w sb nv xs T A f):=by
 have hft:=qg0 hf true
 have hff:=qg0 hf false
 have HLT:=q8 h.lt
 have H:=q8 h
 have HF:=q8 hf
 have HFL:=q8 hfl
 have HPN:=q8 hpn
 have HDL:=q8 hDl
 have HDT:=q8 hDT
 obtain ⟨V1,hV1⟩:∃ V1,(w.alloc (.cells #[.int .i64 k',.string wd',.int .i64 v',.slice pa' pn' pc'] 115)).alloc (.cells #[.int .i64 0,.string ⟨#[]⟩,.int .i64 0,.slice none 0 0] 112)=V1:=⟨_,rfl⟩
 have HX1:Hid (q9 (fun _=>False) w V1):=by rw [<- hV1];exact ((q9.refl _ w).alloc _).alloc _
 have kN:V1.heap[w.heap.size]?=some (.cells #[.int .i64 k',.string wd',.int .i64 v',.slice pa' pn' pc'] 115):=by rw [<- hV1,heap_alloc_old _ _ (by simp)];exact heap_alloc_new w _
 have kR:V1.heap[w.heap.size+1]?=some (.cells #[.int .i64 0,.string ⟨#[]⟩,.int .i64 0,.slice none 0 0] 112):=by rw [<- hV1];exact heap_alloc2_new w _ _
 have hV1s:V1.heap.size=w.heap.size+2:=by rw [<- hV1];simp
 have HV1:=q8 hV1
 have KN:=q8 kN
 have KR:=q8 kR
 have HC1:=q8 (zB7 (h.ext HX1.out (fun _ _ f=>f)))
 clear h hf hpn hDl hDT hV1 kN kR
 go_enter Tryz.func48,Tryz.ntmps48
 go_wp2_with fail
 rw [HV1.out]
 refine HC1.out.mono ?_
 rintro e w1 ⟨rfl,hx1⟩
 have HXW1:=q8 hx1
 obtain ⟨V2,hV2⟩:∃ V2,w1.alloc (.cells #[.int .i64 T.length,.int .i64 A.length] 103)=V2:=⟨_,rfl⟩
 have HX2:Hid (q9 (fun _=>False) w1 V2):=by rw [<- hV2];exact (q9.refl _ w1).alloc _
 have kZ:V2.heap[w1.heap.size]?=some (.cells #[.int .i64 T.length,.int .i64 A.length] 103):=by rw [<- hV2];exact heap_alloc_new w1 _
 have kN1:w1.heap[w.heap.size]?=some (.cells #[.int .i64 k',.string wd',.int .i64 v',.slice pa' pn' pc'] 115):=(hx1.block _ (z8 KN.out) (fun f=>f)).trans KN.out
 have HV2:=q8 hV2
 have KZ:=q8 kZ
 have hs1:=hx1.size
 have hV2s:V2.heap.size=w1.heap.size+1:=by rw [<- hV2];simp
 have n0:=z6 kN1 0
 have n1:=z6 kN1 1
 have n2:=z6 kN1 2
 have n3:=z6 kN1 3
 have HXA:Hid (q9 (fun _=>False) w V2):=(HX1.out.trans hx1).trans HX2.out
 have hnl:w.heap.size < w1.heap.size:=by omega
 have hnw:¬w.heap.size=w1.heap.size:=by omega
 have hc2:=qc7 (sb:=sb) (nv:=nv) HF.out HFL.out V2 xs T A D k' wd' v' pa' pn' pc' (HPN.out.ext HXA.out (fun _ _ _ f=>f)) (fun k hd=>by have:=HDL.out k hd;omega) HDT.out (H.out.ext HXA.out (fun _ _ f=>f)) (by omega) (by omega)
 have HC2:=q8 hc2
 have hx1':=q8 hx1
 clear hx1 hV2 kZ kN1 HC1 hc2
 go_wp2_with fail
 rw [HV2.out]
 refine HC2.out.mono ?_
 rintro e w2 ⟨rk,rw',ri,rpa,rpn,rpc,rfl,T2,A2,hT2,hA2,hft,ts2,tm2,at2,am2,k1,k2,k3⟩
 have HFT:=q8 hft
 clear hft
 have hs2:=k2.size
 obtain ⟨V3,hV3⟩:∃ V3,w2.alloc (.cells #[.int .i64 rk,.string rw',.int .i64 ri,.slice rpa rpn rpc] 112)=V3:=⟨_,rfl⟩
 have HX3:Hid (q9 (fun _=>False) w2 V3):=by rw [<- hV3];exact (q9.refl _ w2).alloc _
 have kF:V3.heap[w2.heap.size]?=some (.cells #[.int .i64 rk,.string rw',.int .i64 ri,.slice rpa rpn rpc] 112):=by rw [<- hV3];exact heap_alloc_new w2 _
 have hno:∀ q,w.heap.size<=q->q < V2.heap.size->¬PF sb xs q:=fun q h1 _ hq=>by have:=HLT.out q hq;omega
 have kR3:V3.heap[w.heap.size+1]?=some (.cells #[.int .i64 0,.string ⟨#[]⟩,.int .i64 0,.slice none 0 0] 112):=(HX3.out.block _ (by omega) (fun f=>f)).trans ((k2.block _ (by omega) (hno _ (by omega) (by omega))).trans (((hx1'.out.trans HX2.out).block _ (by omega) (fun f=>f)).trans KR.out))
 have kZ3:V3.heap[w1.heap.size]?=some (.cells #[.int .i64 T.length,.int .i64 A.length] 103):=(HX3.out.block _ (by omega) (fun f=>f)).trans ((k2.block _ (by omega) (hno _ (by omega) (by omega))).trans KZ.out)
 have HC3:=q8 (zB7 (k1.ext HX3.out (fun _ _ f=>f)))
 have HV3:=q8 hV3
 have KF:=q8 kF
 have KR3:=q8 kR3
 have KZ3:=q8 kZ3
 have HT2:=q8 hT2
 have HA2:=q8 hA2
 have K1:=q8 k1
 have K2:=q8 k2
 have K3:=q8 k3
 have hlT:=hT2.len
 have hlA:=hA2.len
 have hs3:=HX3.out.size
 clear hV3 kF kR3 kZ3 hT2 hA2 k1 k2 k3 hno n0 n1 n2 n3 HC2
 go_wp2_with fail
 rw [HV3.out]
 refine HC3.out.mono ?_
 rintro e w3 ⟨rfl,hx3⟩
 have HX3':=q8 hx3
 have hs4:=hx3.size
 clear hx3 HC3
 go_wp2_with fail
 refine (qB2 T2.length A2.length w3 (by omega) (by omega)).mono ?_
 rintro e w4 ⟨rfl,hx4⟩
 obtain ⟨cd,hcd⟩:∃ cd,(if 12 < T2.length then 9 else if 16 < A2.length then 10 else 0:Int)=cd:=⟨_,rfl⟩
 have HX4:Hid (q9 (fun _=>False) V3 w4):=HX3'.out.trans hx4
 have hs5:=hx4.size
 have kF4:=(HX4.out.block _ (z8 KF.out) (fun f=>f)).trans KF.out
 have kR4:=(HX4.out.block _ (z8 KR3.out) (fun f=>f)).trans KR3.out
 have kZ4:=(HX4.out.block _ (z8 KZ3.out) (fun f=>f)).trans KZ3.out
 have HPS4:=q8 (K1.out.ext (HX3.out.trans HX4.out) (fun _ _ f=>f))
 have HCD:Hid (zd8 T2.length A2.length=cd):=hcd
 rw [hcd]
 clear hx4 hcd
 by_cases hc0:cd=0
 ·subst hc0
  have f0:=z6 kF4 0
  have f1:=z6 kF4 1
  have f2:=z6 kF4 2
  have f3:=z6 kF4 3
  have r0:=z6 kR4 0
  have r1:=z6 kR4 1
  have r2:=z6 kR4 2
  have r3:=z6 kR4 3
  have g0:=Q0 kR4 0
  have g1:=Q0 kR4 1
  have g2:=Q0 kR4 2
  have g3:=Q0 kR4 3
  clear kF4 kR4 kZ4
  go_wp2_with fail
  refine bodyPost_ret (v:=.tuple #[.agg #[.int .i64 rk,.string rw',.int .i64 ri,.slice rpa rpn rpc],.int .i64 0]) (by simp [results,Tryz.results48,go_sem,r0,r1,r2,r3]) rfl ?_
  have hSS:w.heap.size<=w.heap.size+1/\w.heap.size+1 < V2.heap.size:=⟨by omega,by omega⟩
  refine ⟨T2,A2,HT2.out,HA2.out,rk,rw',ri,rpa,rpn,rpc,by rw [HCD.out],fun _=>?_,?_⟩
  ·refine (((HFT.out.ext (HX3.out.trans HX4.out) (fun _ _ _ f=>f)).ext (S:=fun k=>w.heap.size<=k/\k < V2.heap.size) ?_ (fun k _ h1 h2=>by omega)).mono (fun k _ h1=>by omega))
   exact (((((q9.refl (fun k=>w.heap.size<=k/\k < V2.heap.size) w4).setCell (p:=⟨w.heap.size+1,0,none⟩) (fun _=>hSS) _).setCell (p:=⟨w.heap.size+1,1,none⟩) (fun _=>hSS) _).setCell (p:=⟨w.heap.size+1,2,none⟩) (fun _=>hSS) _).setCell (p:=⟨w.heap.size+1,3,none⟩) (fun _=>hSS) _)
  rw [HCD.out,if_pos rfl,if_pos rfl]
  refine zJ5 HXA.out HLT.out ⟨ts2,tm2,at2,am2,HPS4.out,K2.out.trans ((HX3.out.trans HX4.out).mono (fun _ _ f=>f.elim)),K3.out⟩ ?_
  exact (((((q9.refl (fun k=>w.heap.size<=k/\k < V2.heap.size) w4).setCell (p:=⟨w.heap.size+1,0,none⟩) (fun _=>hSS) _).setCell (p:=⟨w.heap.size+1,1,none⟩) (fun _=>hSS) _).setCell (p:=⟨w.heap.size+1,2,none⟩) (fun _=>hSS) _).setCell (p:=⟨w.heap.size+1,3,none⟩) (fun _=>hSS) _)
 ·have hc0':(cd == 0)=false:=by simpa using hc0
  have z0:=z6 kZ4 0
  have z1:=z6 kZ4 1
  have hpt:T2.take T.length=T:=qc9 HT2.out.pre
  have hpa:A2.take A.length=A:=qc9 HA2.out.pre
  have hac:AC (T2.take T.length) (A2.take A.length):=by rw [hpt,hpa];exact H.out.ac
  have hc4:=qc8 (n:=T.length) (m:=A.length) HPS4.out HT2.out.pre.length_le HA2.out.pre.length_le (by omega) (by omega) hac
  rw [hpt,hpa] at hc4
  have HC4:=q8 hc4
  have KR4:=q8 kR4
  clear hc4 hpt hpa hac kF4 kR4 kZ4
  go_wp2_with fail
  refine HC4.out.mono ?_
  rintro e w5 ⟨rfl,hap⟩
  have hap2:=qd0 (K2.out.trans ((HX3.out.trans HX4.out).mono (fun _ _ f=>f.elim))) K3.out hap
  obtain ⟨q1,q2,q3,q4,j1,j2,j3⟩:=hap2
  have kR5:w5.heap[w.heap.size+1]?=some (.cells #[.int .i64 0,.string ⟨#[]⟩,.int .i64 0,.slice none 0 0] 112):=(j2.block _ (by omega) (fun hq=>by have:=HLT.out _ hq;omega)).trans (((hx1'.out.trans HX2.out).block _ (by omega) (fun f=>f)).trans KR.out)
  have r0:=z6 kR5 0
  have r1:=z6 kR5 1
  have r2:=z6 kR5 2
  have r3:=z6 kR5 3
  have g0:=Q0 kR5 0
  have g1:=Q0 kR5 1
  have g2:=Q0 kR5 2
  have g3:=Q0 kR5 3
  have J1:=q8 j1
  have J2:=q8 j2
  have J3:=q8 j3
  clear hap j1 j2 j3 kR5 z0 z1
  go_wp2_with fail
  refine bodyPost_ret (v:=.tuple #[.agg #[.int .i64 0,.string ⟨#[]⟩,.int .i64 0,.slice none 0 0],.int .i64 cd]) (by simp [results,Tryz.results48,go_sem,r0,r1,r2,r3]) rfl ?_
  refine ⟨T2,A2,HT2.out,HA2.out,0,⟨#[]⟩,0,none,0,0,by rw [HCD.out],fun e=>absurd (HCD.out.symm.trans e) hc0,?_⟩
  rw [HCD.out,if_neg hc0,if_neg hc0]
  have hSS:w.heap.size<=w.heap.size+1/\w.heap.size+1 < V2.heap.size:=⟨by omega,by omega⟩
  refine zJ5 HXA.out HLT.out ⟨q1,q2,q3,q4,J1.out,J2.out,J3.out⟩ ?_
  exact (((((q9.refl (fun k=>w.heap.size<=k/\k < V2.heap.size) w5).setCell (p:=⟨w.heap.size+1,0,none⟩) (fun _=>hSS) _).setCell (p:=⟨w.heap.size+1,1,none⟩) (fun _=>hSS) _).setCell (p:=⟨w.heap.size+1,2,none⟩) (fun _=>hSS) _).setCell (p:=⟨w.heap.size+1,3,none⟩) (fun _=>hSS) _)
structure Fr4 where
 n:Nat
 t:Nat
 a:Nat
 f:Nat
def O0 (K:List Fr4):List Value:=K.flatMap (fun x=>[.int .i64 x.n,.int .i64 x.t,.int .i64 x.a,.int .i64 x.f])
theorem zy5 (K:List Fr4) (x:Fr4):O0 (K++[x])=O0 K++[.int .i64 x.n,.int .i64 x.t,.int .i64 x.a,.int .i64 x.f]:=by simp [O0]
theorem zj7 (K:List Fr4):(O0 K).length=K.length * 4:=by
 induction K with
 | nil=>rfl
 | cons a b ih=>simp only [O0,List.flatMap_cons,List.length_append] at ih ⊢;simp at ih ⊢;omega
structure PSS (w:World) (sb:Nat) (N:List Nm) (nv:Value) (xs:PX) (T A:List Nd) (Y:List (List Value)) (K:List Fr4):Prop where
 p:PSt w sb nv xs T A
 nown:w.ownsRow 0 142 2 nv N.length (K9 N)
 few:N.length<=20
 ok:∀ x∈N,0<=x.ar/\x.ar<=3
 fown:w.ownsRow 0 112 4 xs.fs Y.length Y.flatten/\∀ cs∈Y,cs.length=4
 kown:w.ownsRow 0 106 4 xs.ks K.length (O0 K)
 ffew:Y.length<=20
 kfew:K.length<=20
 tfew:T.length<=12
 afew:A.length<=16
 n1:∀ k,nv.ownBlock=some k->¬PF sb xs k/\¬xs.fs.ownBlock=some k/\¬xs.ks.ownBlock=some k
 f1:∀ k,xs.fs.ownBlock=some k->¬PF sb xs k/\¬xs.ks.ownBlock=some k
 k1:∀ k,xs.ks.ownBlock=some k->¬PF sb xs k
def SF (sb:Nat) (nv:Value) (xs:PX) (k:Nat):Prop:=PF sb xs k\/nv.ownBlock=some k\/xs.fs.ownBlock=some k\/xs.ks.ownBlock=some k
theorem PSS.lt {w:World} {sb:Nat} {N:List Nm} {nv:Value} {xs:PX} {T A:List Nd} {Y:List (List Value)} {K:List Fr4} (h:PSS w sb N nv xs T A Y K):∀ k,SF sb nv xs k->k < w.heap.size:=by
 obtain ⟨hf,hfl⟩:=h.fown
 rintro k (e | e | e | e)
 ·exact h.p.lt k e
 ·exact (h.nown.lt k e).2
 ·exact (hf.lt k e).2
 ·exact (h.kown.lt k e).2
theorem PSS.ext {S:Nat->Prop} {w w':World} {sb:Nat} {N:List Nm} {nv:Value} {xs:PX} {T A:List Nd} {Y:List (List Value)} {K:List Fr4} (h:PSS w sb N nv xs T A Y K) (hx:q9 S w w') (hS:∀ k,SF sb nv xs k->¬S k):PSS w' sb N nv xs T A Y K:=by
 obtain ⟨hf,hfl⟩:=h.fown
 exact ⟨h.p.ext hx (fun k hk=>hS k (.inl hk)),z7 h.nown hx (fun k hk=>hS k (.inr (.inl hk))),h.few,h.ok,⟨z7 hf hx (fun k hk=>hS k (.inr (.inr (.inl hk)))),hfl⟩,z7 h.kown hx (fun k hk=>hS k (.inr (.inr (.inr hk)))),h.ffew,h.kfew,h.tfew,h.afew,h.n1,h.f1,h.k1⟩
theorem PSS.sb_n {w:World} {sb:Nat} {N:List Nm} {nv:Value} {xs:PX} {T A:List Nd} {Y:List (List Value)} {K:List Fr4} (h:PSS w sb N nv xs T A Y K):∀ g,nv.ownBlock=some g->¬g=sb:=fun g hg e=>(h.n1 g hg).1 (.inl (.inl e))
theorem PSS.ps {w:World} {sb:Nat} {N:List Nm} {nv:Value} {xs:PX} {T A:List Nd} {Y:List (List Value)} {K:List Fr4} (h:PSS w sb N nv xs T A Y K):PS w sb N nv xs:=⟨h.p.ts.blk,h.nown,h.sb_n,h.few,h.ok⟩
set_option maxHeartbeats 400000 in
theorem qX2 {w:World} {sb:Nat} {N:List Nm} {nv:Value} {xs:PX} {T A:List Nd} {Y:List (List Value)} {K:List Fr4} (h:PSS w sb N nv xs T A Y K) :
  Calls Tryz.prog 24 #[.pointer (some ⟨sb,0,none⟩)] w fun e w'=>e=.returned (.tuple #[.int .i64 Y.length,.int .i64 K.length])/\q9 (fun _=>False) w w':=by
 obtain ⟨hf,hfl⟩:=h.fown
 obtain ⟨fa,fc,e1⟩:=j9 hf
 obtain ⟨ka,kc,e2⟩:=j9 h.kown
 have kb:=h.p.ts.blk
 rw [e1,e2] at kb
 have c5:=z6 kb 5
 have c6:=z6 kb 6
 have HX:Hid (q9 (fun _=>False) w w.drew):=(q9.refl _ w).drew
 clear h hf kb e1 e2
 go_enter Tryz.func24,Tryz.ntmps24
 go_wp2_with fail
 go_region
 all_goals
  go_wp2_with fail
  go_ret2
  exact ⟨rfl,HX.out⟩
set_option maxHeartbeats 400000 in
theorem qm8 {w:World} {sb:Nat} {N:List Nm} {nv:Value} (hc:w.cell? ⟨sb,0,none⟩=some nv) (hown:w.ownsRow 0 142 2 nv N.length (K9 N)) :
  Calls Tryz.prog 40 #[.pointer (some ⟨sb,0,none⟩)] w fun e w'=>e=.returned (.int .i64 N.length)/\w' = w:=by
 obtain ⟨a,c,rfl⟩:=j9 hown
 clear hown
 go_enter Tryz.func40,Tryz.ntmps40
 go_wp2_with fail
 go_ret
 exact ⟨rfl,rfl⟩
theorem qB4:(Tryz.prog.info? 106).map (fun i=>(i.zero,i.size,i.bytes))=some (some (.agg #[.int .i64 0,.int .i64 0,.int .i64 0,.int .i64 0]),4,32):=by kernel_rfl
def zd9 (w:World) (sb:Nat) (nv:Value) (xs:PX) (N':List Nm) (T' A':List Nd) (Y':List (List Value)) (K':List Fr4) (w':World):Prop :=
 q9 (SF sb nv xs) w w'/\∃ nv' xs',PSS w' sb N' nv' xs' T' A' Y' K'/\(∀ k,SF sb nv' xs' k->SF sb nv xs k\/w.heap.size<=k)
theorem PSS.turn {w w':World} {sb:Nat} {N:List Nm} {nv:Value} {xs:PX} {T A:List Nd} {Y:List (List Value)} {K:List Fr4} (h:PSS w sb N nv xs T A Y K) (vd ml:Value) (hx:q9 (fun k=>k=sb) w w') (kb:w'.heap[sb]?=some (.cells #[nv,xs.ts,xs.tm,xs.at_,xs.am,xs.fs,xs.ks,vd,ml] 98)):PSS w' sb N nv { xs with vd:=vd,ml:=ml } T A Y K:=by
 obtain ⟨hf,hfl⟩:=h.fown
 exact ⟨⟨⟨kb,h.p.ts.row.ext hx h.p.ts.s1 h.p.ts.s2,h.p.ts.cl,h.p.ts.nd,h.p.ts.s1,h.p.ts.s2⟩,h.p.ar.ext hx h.p.s3 h.p.s4,h.p.ac,h.p.nd,h.p.s3,h.p.s4,h.p.ap⟩,z7 h.nown hx h.sb_n,h.few,h.ok,⟨z7 hf hx (fun q hq e=>(h.f1 q hq).1 (.inl (.inl e))),hfl⟩,z7 h.kown hx (fun q hq e=>h.k1 q hq (.inl (.inl e))),h.ffew,h.kfew,h.tfew,h.afew,h.n1,h.f1,h.k1⟩
theorem zy6 {w w1:World} {sb:Nat} {nv:Value} {xs:PX} {N':List Nm} {T' A':List Nd} {Y':List (List Value)} {K':List Fr4} (h:zd9 w sb nv xs N' T' A' Y' K' w1) :
  Calls Tryz.prog 42 #[.pointer (some ⟨sb,0,none⟩)] w1 fun e w'=>e=.returned (.tuple #[])/\zd9 w sb nv xs N' T' A' Y' K' w':=by
 obtain ⟨hx,nv',xs',hP,hF⟩:=h
 refine (zN8 hP.p.ts.blk).mono ?_
 rintro e w2 ⟨rfl,hx2,kb2⟩
 exact ⟨rfl,hx.trans' hx2 (fun _ _ e=>.inl (.inl (.inl e))),nv',{ xs' with vd:=.int .i64 0,ml:=.map none },hP.turn _ _ hx2 kb2,hF⟩
theorem qB5 {w w0 w2:World} {sb g cap':Nat} {N:List Nm} {nv:Value} {xs:PX} {T A:List Nd} {Y:List (List Value)} {K:List Fr4} (h:PSS w sb N nv xs T A Y K) (hk:K.length < 20) (h0:q9 (fun _=>False) w w0) (hgrow:w0.grownBy w2 xs.ks.ownBlock) (hown:w2.ownsRow 0 106 4 (.slice (some ⟨g,0,none⟩) (K.length+1) cap') (K.length+1) (O0 K++[.int .i64 N.length,.int .i64 T.length,.int .i64 A.length,.int .i64 Y.length]))
  (hat:xs.ks.ownBlock=some g\/w.heap.size<=g):zd9 w sb nv xs N T A Y (K++[⟨N.length,T.length,A.length,Y.length⟩]) (w2.setCell ⟨sb,6,none⟩ (.slice (some ⟨g,0,none⟩) (K.length+1) cap')):=by
 have hsb:=z8 h.p.ts.blk
 have hltP:=h.p.lt
 have hlt:=h.lt
 have s0:=h0.size
 have h2:q9 (fun k=>xs.ks.ownBlock=some k) w w2:=(h0.mono (fun _ _ f=>f.elim)).grown hgrow (fun k hk _=>hk)
 have hW:q9 (fun k=>k=sb) w2 (w2.setCell ⟨sb,6,none⟩ (.slice (some ⟨g,0,none⟩) (K.length+1) cap')):=(q9.refl (fun k=>k=sb) w2).setCell (p:=⟨sb,6,none⟩) (fun _=>rfl) _
 have hxw:q9 (fun k=>k=sb\/xs.ks.ownBlock=some k) w (w2.setCell ⟨sb,6,none⟩ (.slice (some ⟨g,0,none⟩) (K.length+1) cap')):=(h2.mono (fun _ _ e=>.inr e)).trans' hW (fun _ _ e=>.inl e)
 have hks:∀ k,xs.ks.ownBlock=some k->¬k=sb:=fun k hk e=>h.k1 k hk (.inl (.inl e))
 have hg:∀ k,SF sb nv xs k->¬xs.ks.ownBlock=some k->¬k=g:=by
  intro k hk hn e
  rcases hat with e2 | e2
  ·exact hn (e ▸ e2)
  ·have:=hlt k hk;omega
 have hgs:¬g=sb:=fun e=>hg sb (.inl (.inl (.inl rfl))) (fun e2=>hks sb e2 rfl) e.symm
 have kb2:w2.heap[sb]?=some (.cells #[nv,xs.ts,xs.tm,xs.at_,xs.am,xs.fs,xs.ks,xs.vd,xs.ml] 98):=(h2.block sb hsb (fun e=>hks sb e rfl)).trans h.p.ts.blk
 obtain ⟨hf,hfl⟩:=h.fown
 refine ⟨hxw.mono (fun k _ e=>e.elim (fun e=>.inl (.inl (.inl e))) (fun e=>.inr (.inr (.inr e)))),nv,{ xs with ks:=.slice (some ⟨g,0,none⟩) (K.length+1) cap' },⟨⟨⟨Y0 kb2 6 _,?_,h.p.ts.cl,h.p.ts.nd,h.p.ts.s1,h.p.ts.s2⟩,?_,h.p.ac,h.p.nd,h.p.s3,h.p.s4,h.p.ap⟩,?_,h.few,h.ok,⟨?_,hfl⟩,?_,h.ffew,by simp;omega,h.tfew,h.afew,?_,?_,?_⟩,?_⟩
 ·refine h.p.ts.row.ext hxw ?_ ?_
  ·rintro q hq (e | e)
   ·exact h.p.ts.s1 q hq e
   ·exact h.k1 q e (.inl (.inr (.inl hq)))
  ·rintro q hq (e | e)
   ·exact h.p.ts.s2 q hq e
   ·exact h.k1 q e (.inl (.inr (.inr hq)))
 ·refine h.p.ar.ext hxw ?_ ?_
  ·rintro q hq (e | e)
   ·exact h.p.s3 q hq e
   ·exact h.k1 q e (.inr (.inl hq))
  ·rintro q hq (e | e)
   ·exact h.p.s4 q hq e
   ·exact h.k1 q e (.inr (.inr hq))
 ·exact z7 h.nown hxw (fun q hq e=>e.elim (h.sb_n q hq) (fun e=>(h.n1 q hq).2.2 e))
 ·exact z7 hf hxw (fun q hq e=>e.elim (fun e=>(h.f1 q hq).1 (.inl (.inl e))) (fun e=>(h.f1 q hq).2 e))
 ·rw [zy5,List.length_append]
  exact z7 hown hW (fun q hq e=>by simp [Value.ownBlock] at hq;omega)
 ·intro q hq
  exact ⟨(h.n1 q hq).1,(h.n1 q hq).2.1,fun e=>hg q (.inr (.inl hq)) (h.n1 q hq).2.2 (by simp [Value.ownBlock] at e;exact e.symm)⟩
 ·intro q hq
  exact ⟨(h.f1 q hq).1,fun e=>hg q (.inr (.inr (.inl hq))) (h.f1 q hq).2 (by simp [Value.ownBlock] at e;exact e.symm)⟩
 ·intro q hq hpf
  simp [Value.ownBlock] at hq
  subst hq
  exact hg g (.inl hpf) (fun e=>h.k1 g e hpf) rfl
 ·rintro q (e | e | e | e)
  ·exact .inl (.inl e)
  ·exact .inl (.inr (.inl e))
  ·exact .inl (.inr (.inr (.inl e)))
  ·simp [Value.ownBlock] at e
   subst e
   exact hat.imp (fun e=>.inr (.inr (.inr e))) id
set_option maxRecDepth 100000 in
set_option maxHeartbeats 1000000 in
theorem jj0 {w:World} {sb:Nat} {N:List Nm} {nv:Value} {xs:PX} {T A:List Nd} {Y:List (List Value)} {K:List Fr4} (h:PSS w sb N nv xs T A Y K) (hk:K.length < 20) :
  Calls Tryz.prog 18 #[.pointer (some ⟨sb,0,none⟩)] w fun e w'=>e=.returned (.int .i64 0)/\zd9 w sb nv xs N T A Y (K++[⟨N.length,T.length,A.length,Y.length⟩]) w':=by
 obtain ⟨hf,hfl⟩:=h.fown
 obtain ⟨fa,fc,e1⟩:=j9 hf
 obtain ⟨ka,kc,e2⟩:=j9 h.kown
 obtain ⟨ts,tm,at_,am,fs,ks,vd,ml⟩:=xs
 simp only at e1 e2
 subst e1 e2
 have kb:=h.p.ts.blk
 have c0:=z6 kb 0
 have c5:=z6 kb 5
 have c6:=z6 kb 6
 have hff:=h.ffew
 have hnf:=h.few
 have htf:=h.tfew
 have haf:=h.afew
 have hsb:=z8 kb
 have H:=q8 h
 have KB:=q8 kb
 obtain ⟨i0,hi,hz0,hz1,hz2⟩:=info_parts qB4
 clear h hf kb
 go_enter Tryz.func18,Tryz.ntmps18
 go_wp2_with fail
 have HCN:Hid (∀ W:World,W.heap[sb]?=some (.cells #[nv,ts,tm,at_,am,.slice fa Y.length fc,.slice ka K.length kc,vd,ml] 98)->(∀ k,nv.ownBlock=some k->W.heap[k]?=w.heap[k]?)->Calls Tryz.prog 40 #[.pointer (some ⟨sb,0,none⟩)] W fun e w'=>e=.returned (.int .i64 N.length)/\w' = W):=by
  intro W hW hN
  refine qm8 (N:=N) (z6 hW 0) ?_
  refine ⟨H.out.nown.1,?_⟩
  rcases H.out.nown.2 with e | ⟨g,cap,cur,hv,h1,hh,r⟩
  ·exact .inl e
  ·exact .inr ⟨g,cap,cur,hv,h1,(hN g (by rw [hv];rfl)).trans hh,r⟩
 go_region_law (first | (refine step_append_lies _ (by rfl) _ _ _ (by rfl) 0 106 i0 _ 4 32 Tryz.underlying90 hi hz0 hz1 hz2 rfl (by omega) (.slice ka K.length kc) K.length (O0 K) (by rfl) (HO2.out.alloc _) ⟨w2.heap.size,0,none⟩ 1 1 [.int .i64 N.length,.int .i64 T.length,.int .i64 A.length,.int .i64 Y.length] (by rfl) (by rfl) (World.news_of_block (cs:=#[.int .i64 N.length,.int .i64 T.length,.int .i64 A.length,.int .i64 Y.length]) (t:=106) (fr:=(0,0)) (heap_alloc_new w2 _)) (by simp [Value.oneCell']) (by omega) (by unfold maxLen;omega) (by omega) (Nat.zero_le _) (w2.heap.size+1) (by simp) ?_;intro g cap' w3 hown3 hgrow hat hlt3;have kb3:w3.heap[sb]?=some (.cells #[nv,ts,tm,at_,am,.slice fa Y.length fc,.slice ka K.length kc,vd,ml] 98):=(hgrow.block sb (by simp;omega) (fun e=>H.out.k1 sb e.symm (.inl (.inl rfl)))).trans ((Below.heap_alloc w2 _ sb hl2).trans KB2.out);have d6:=z6 kb3 6;have d6f:=Q0 kb3 6) | (go_simp;go_wp2_with (first | (go_at_call 40;refine (HCN.out w.drew KB.out (fun _ _=>rfl)).mono ?_;rintro e w' ⟨rfl,hw⟩;rw [hw];clear hw w') | (go_at_call 41;refine (zB7 (H.out.p.ext ((q9.refl (fun _=>False) w).drew) (fun _ _ f=>f))).mono ?_;rintro e w2 ⟨rfl,hx2⟩;have HX2:Hid (q9 (fun _=>False) w w2):=((q9.refl (fun _=>False) w).drew).trans hx2;have KB2:=q8 ((HX2.out.block sb hsb (fun f=>f)).trans KB.out);have hl2:=z8 KB2.out;have hne2:¬sb=w2.heap.size:=(by omega);have d5:=z6 KB2.out 5;have d66:=z6 KB2.out 6;have HO2:=q8 (z7 H.out.kown HX2.out (fun _ _ f=>f));clear hx2))))
 all_goals
  have HSP:=q8 (qB5 H.out hk (w0:=w2.alloc _) (HX2.out.alloc _) hgrow hown3 (hat.imp id (fun e=>by have:=HX2.out.size;omega)))
  go_wp2_with fail
  refine (zy6 HSP.out).mono ?_
  rintro e w9 ⟨rfl,h9⟩
  have H9:=q8 h9
  clear h9
  go_wp2_with fail
  go_ret
  exact ⟨rfl,H9.out⟩
def zk4 (w:World) (sb:Nat) (nv:Value) (xs:PX) (nv':Value) (xs':PX) (w':World):Prop:=q9 (SF sb nv xs) w w'/\(∀ k,SF sb nv' xs' k->SF sb nv xs k\/w.heap.size<=k)
theorem zk4.trans {w w1 w2:World} {sb:Nat} {nv nv1 nv2:Value} {xs xs1 xs2:PX} (h:zk4 w sb nv xs nv1 xs1 w1) (k:zk4 w1 sb nv1 xs1 nv2 xs2 w2):zk4 w sb nv xs nv2 xs2 w2:=by
 refine ⟨h.1.trans' k.1 (fun i hi e=>(h.2 i e).elim id (fun e=>by omega)),fun q hq=>?_⟩
 rcases k.2 q hq with e | e
 ·exact h.2 q e
 ·have:=h.1.size;exact .inr (by omega)
theorem zk4.ext {w w1 w2:World} {sb:Nat} {nv nv1:Value} {xs xs1:PX} (h:zk4 w sb nv xs nv1 xs1 w1) (hx:q9 (fun _=>False) w1 w2):zk4 w sb nv xs nv1 xs1 w2:=⟨h.1.trans (hx.mono (fun _ _ f=>f.elim)),h.2⟩
theorem zk4.of_ext {w w1 w2:World} {sb:Nat} {nv nv1:Value} {xs xs1:PX} (hx:q9 (fun _=>False) w w1) (h:zk4 w1 sb nv xs nv1 xs1 w2):zk4 w sb nv xs nv1 xs1 w2:=⟨(hx.mono (fun _ _ f=>f.elim)).trans h.1,fun k hk=>(h.2 k hk).imp id (fun e=>Nat.le_trans hx.size e)⟩
section
variable {w w':World} {sb:Nat} {N N':List Nm} {nv nv':Value} {xs:PX} {T A T' A':List Nd} {Y Y':List (List Value)} {K K':List Fr4}
theorem zv8 {vd ml:Value} (h:PSS w sb N nv xs T A Y K) (kb:w'.heap[sb]?=some (.cells #[nv',xs.ts,xs.tm,xs.at_,xs.am,xs.fs,xs.ks,vd,ml] 98)) (hown:w'.ownsRow 0 142 2 nv' N'.length (K9 N')) (hfew:N'.length<=20) (hok:∀ x∈N',0<=x.ar/\x.ar<=3) (hE:q9 (fun k=>k=sb\/nv.ownBlock=some k) w w') (hat:∀ k,nv'.ownBlock=some k->nv.ownBlock=some k\/w.heap.size<=k):PSS w' sb N' nv' { xs with vd:=vd,ml:=ml } T A Y K/\zk4 w sb nv xs nv' { xs with vd:=vd,ml:=ml } w':=by
 obtain ⟨hf,hfl⟩:=h.fown
 have hlt:=h.lt
 have hpf:∀ k,PF sb xs k->¬nv.ownBlock=some k:=fun k hk e=>(h.n1 k e).1 hk
 have hno:∀ k,SF sb nv xs k->¬k=sb->¬nv.ownBlock=some k->¬(k=sb\/nv.ownBlock=some k):=fun k _ h1 h2 e=>e.elim h1 h2
 have hnew:∀ k,SF sb nv xs k->¬nv.ownBlock=some k->¬nv'.ownBlock=some k:=by
  intro k hk h1 e
  rcases hat k e with e2 | e2
  ·exact h1 e2
  ·have:=hlt k hk;omega
 refine ⟨⟨⟨⟨kb,?_,h.p.ts.cl,h.p.ts.nd,h.p.ts.s1,h.p.ts.s2⟩,?_,h.p.ac,h.p.nd,h.p.s3,h.p.s4,h.p.ap⟩,hown,hfew,hok,⟨?_,hfl⟩,?_,h.ffew,h.kfew,h.tfew,h.afew,?_,h.f1,h.k1⟩,?_,?_⟩
 ·exact h.p.ts.row.ext hE (fun q hq=>hno q (.inl (.inl (.inr (.inl hq)))) (h.p.ts.s1 q hq) (hpf q (.inl (.inr (.inl hq))))) (fun q hq=>hno q (.inl (.inl (.inr (.inr hq)))) (h.p.ts.s2 q hq) (hpf q (.inl (.inr (.inr hq)))))
 ·exact h.p.ar.ext hE (fun q hq=>hno q (.inl (.inr (.inl hq))) (h.p.s3 q hq) (hpf q (.inr (.inl hq)))) (fun q hq=>hno q (.inl (.inr (.inr hq))) (h.p.s4 q hq) (hpf q (.inr (.inr hq))))
 ·exact z7 hf hE (fun q hq=>hno q (.inr (.inr (.inl hq))) (fun e=>(h.f1 q hq).1 (.inl (.inl e))) (fun e=>(h.n1 q e).2.1 hq))
 ·exact z7 h.kown hE (fun q hq=>hno q (.inr (.inr (.inr hq))) (fun e=>h.k1 q hq (.inl (.inl e))) (fun e=>(h.n1 q e).2.2 hq))
 ·intro k hk
  refine ⟨fun e=>hnew k (.inl e) (hpf k e) hk,fun e=>hnew k (.inr (.inr (.inl e))) (fun e2=>(h.n1 k e2).2.1 e) hk,fun e=>hnew k (.inr (.inr (.inr e))) (fun e2=>(h.n1 k e2).2.2 e) hk⟩
 ·exact hE.mono (fun k _ e=>e.elim (fun e=>.inl (.inl (.inl e))) (fun e=>.inr (.inl e)))
 ·rintro k (e | e | e | e)
  ·exact .inl (.inl e)
  ·exact (hat k e).imp (fun e=>.inr (.inl e)) id
  ·exact .inl (.inr (.inr (.inl e)))
  ·exact .inl (.inr (.inr (.inr e)))
theorem qB6 (h:PSS w sb N nv xs T A Y K) (kb:w'.heap[sb]?=some (.cells #[nv',xs.ts,xs.tm,xs.at_,xs.am,xs.fs,xs.ks,xs.vd,xs.ml] 98)) (hown:w'.ownsRow 0 142 2 nv' N'.length (K9 N')) (hfew:N'.length<=20) (hok:∀ x∈N',0<=x.ar/\x.ar<=3) (hE:q9 (fun k=>k=sb\/nv.ownBlock=some k) w w') (hat:∀ k,nv'.ownBlock=some k->nv.ownBlock=some k\/w.heap.size<=k):PSS w' sb N' nv' xs T A Y K/\zk4 w sb nv xs nv' xs w':=zv8 h kb hown hfew hok hE hat
theorem qd1 (h:PSS w sb N nv xs T A Y K) (hap:zi4 w sb nv xs T' A' w') (ht:T'.length<=12) (ha:A'.length<=16):∃ xs',PSS w' sb N nv xs' T' A' Y K/\xs'.fs=xs.fs/\xs'.ks=xs.ks/\zk4 w sb nv xs nv xs' w':=by
 obtain ⟨ts',tm',at',am',k1,k2,k3⟩:=hap
 obtain ⟨hf,hfl⟩:=h.fown
 have hlt:=h.lt
 have hnp:∀ k,SF sb nv xs k->¬PF sb xs k->¬PF sb { xs with ts:=ts',tm:=tm',at_:=at',am:=am' } k:=by
  intro k hk h1 e
  rcases k3 k e with e2 | e2
  ·exact h1 e2
  ·have:=hlt k hk;omega
 refine ⟨{ xs with ts:=ts',tm:=tm',at_:=at',am:=am' },⟨k1,z7 h.nown k2 (fun q hq=>(h.n1 q hq).1),h.few,h.ok,⟨z7 hf k2 (fun q hq=>(h.f1 q hq).1),hfl⟩,z7 h.kown k2 (fun q hq=>h.k1 q hq),h.ffew,h.kfew,ht,ha,fun k hk=>⟨hnp k (.inr (.inl hk)) (h.n1 k hk).1,(h.n1 k hk).2.1,(h.n1 k hk).2.2⟩,fun k hk=>⟨hnp k (.inr (.inr (.inl hk))) (h.f1 k hk).1,(h.f1 k hk).2⟩,fun k hk=>hnp k (.inr (.inr (.inr hk))) (h.k1 k hk)⟩,rfl,rfl,k2.mono (fun _ _ e=>.inl e),?_⟩
 rintro k (e | e | e | e)
 ·exact (k3 k e).imp .inl id
 ·exact .inl (.inr (.inl e))
 ·exact .inl (.inr (.inr (.inl e)))
 ·exact .inl (.inr (.inr (.inr e)))
theorem qu6 {fv':Value} (h:PSS w sb N nv xs T A Y K) (kb:w'.heap[sb]?=some (.cells #[nv,xs.ts,xs.tm,xs.at_,xs.am,fv',xs.ks,xs.vd,xs.ml] 98)) (hown:w'.ownsRow 0 112 4 fv' Y'.length Y'.flatten) (hfl:∀ cs∈Y',cs.length=4) (hfew:Y'.length<=20) (hE:q9 (fun k=>k=sb\/xs.fs.ownBlock=some k) w w') (hat:∀ k,fv'.ownBlock=some k->xs.fs.ownBlock=some k\/w.heap.size<=k):PSS w' sb N nv { xs with fs:=fv' } T A Y' K/\zk4 w sb nv xs nv { xs with fs:=fv' } w':=by
 have hlt:=h.lt
 have hpf:∀ k,PF sb xs k->¬xs.fs.ownBlock=some k:=fun k hk e=>(h.f1 k e).1 hk
 have hnew:∀ k,SF sb nv xs k->¬xs.fs.ownBlock=some k->¬fv'.ownBlock=some k:=by
  intro k hk h1 e
  rcases hat k e with e2 | e2
  ·exact h1 e2
  ·have:=hlt k hk;omega
 refine ⟨⟨⟨⟨kb,?_,h.p.ts.cl,h.p.ts.nd,h.p.ts.s1,h.p.ts.s2⟩,?_,h.p.ac,h.p.nd,h.p.s3,h.p.s4,h.p.ap⟩,?_,h.few,h.ok,⟨hown,hfl⟩,?_,hfew,h.kfew,h.tfew,h.afew,?_,?_,h.k1⟩,?_,?_⟩
 ·exact h.p.ts.row.ext hE (fun q hq e=>e.elim (h.p.ts.s1 q hq) (hpf q (.inl (.inr (.inl hq))))) (fun q hq e=>e.elim (h.p.ts.s2 q hq) (hpf q (.inl (.inr (.inr hq)))))
 ·exact h.p.ar.ext hE (fun q hq e=>e.elim (h.p.s3 q hq) (hpf q (.inr (.inl hq)))) (fun q hq e=>e.elim (h.p.s4 q hq) (hpf q (.inr (.inr hq))))
 ·exact z7 h.nown hE (fun q hq e=>e.elim (h.sb_n q hq) (h.n1 q hq).2.1)
 ·exact z7 h.kown hE (fun q hq e=>e.elim (fun e=>h.k1 q hq (.inl (.inl e))) (fun e=>(h.f1 q e).2 hq))
 ·exact fun k hk=>⟨(h.n1 k hk).1,fun e=>hnew k (.inr (.inl hk)) (h.n1 k hk).2.1 e,(h.n1 k hk).2.2⟩
 ·intro k hk
  exact ⟨fun e=>hnew k (.inl e) (hpf k e) hk,fun e=>hnew k (.inr (.inr (.inr e))) (fun e2=>(h.f1 k e2).2 e) hk⟩
 ·exact hE.mono (fun k _ e=>e.elim (fun e=>.inl (.inl (.inl e))) (fun e=>.inr (.inr (.inl e))))
 ·rintro k (e | e | e | e)
  ·exact .inl (.inl e)
  ·exact .inl (.inr (.inl e))
  ·exact (hat k e).imp (fun e=>.inr (.inr (.inl e))) id
  ·exact .inl (.inr (.inr (.inr e)))
theorem qm9 {ka:Option Addr} {kc m:Nat} (h:PSS w sb N nv xs T A Y K) (hks:xs.ks=.slice ka K.length kc) (hm:m<=K.length) (hE:q9 (fun k=>k=sb) w w') (kb:w'.heap[sb]?=some (.cells #[nv,xs.ts,xs.tm,xs.at_,xs.am,xs.fs,.slice ka m kc,xs.vd,xs.ml] 98)):PSS w' sb N nv { xs with ks:=.slice ka m kc } T A Y (K.take m)/\zk4 w sb nv xs nv { xs with ks:=.slice ka m kc } w':=by
 obtain ⟨hf,hfl⟩:=h.fown
 have hob:(Value.slice ka m kc).ownBlock=xs.ks.ownBlock:=by rw [hks];cases ka <;> rfl
 have hlm:(K.take m).length=m:=by rw [List.length_take];omega
 have hcells:O0 (K.take m)=(O0 K).take (m * 4):=by
  have e:O0 K=O0 (K.take m)++O0 (K.drop m):=by unfold O0;rw [<- List.flatMap_append,List.take_append_drop]
  have h1:(O0 (K.take m)).length=m * 4:=by rw [zj7,hlm]
  rw [e,List.take_append_of_le_length (by omega)]
  exact (List.take_of_length_le (by omega)).symm
 have hown:w.ownsRow 0 106 4 (.slice ka m kc) m (O0 (K.take m)):=by
  have hk:=h.kown
  rw [hks] at hk
  refine ⟨by rw [zj7,hlm],?_⟩
  rcases hk.2 with ⟨e,e0⟩ | ⟨g,cap,cur,hv,h1,hh,h2,h3,h4,h5⟩
  ·have hm0:m=0:=by omega
   simp only [Value.slice.injEq] at e
   exact .inl ⟨by rw [e.1,e.2.2,hm0],hm0⟩
  ·cases hv
   refine .inr ⟨g,kc,cur,rfl,h1,hh,by omega,h3,h4,?_⟩
   rw [hcells,<- h5,List.take_take,Nat.min_eq_left (Nat.mul_le_mul_right 4 hm)]
 refine ⟨⟨⟨⟨kb,?_,h.p.ts.cl,h.p.ts.nd,h.p.ts.s1,h.p.ts.s2⟩,?_,h.p.ac,h.p.nd,h.p.s3,h.p.s4,h.p.ap⟩,?_,h.few,h.ok,⟨?_,hfl⟩,?_,h.ffew,by rw [hlm];have:=h.kfew;omega,h.tfew,h.afew,?_,?_,?_⟩,?_,?_⟩
 ·exact h.p.ts.row.ext hE h.p.ts.s1 h.p.ts.s2
 ·exact h.p.ar.ext hE h.p.s3 h.p.s4
 ·exact z7 h.nown hE h.sb_n
 ·exact z7 hf hE (fun q hq e=>(h.f1 q hq).1 (.inl (.inl e)))
 ·rw [hlm]
  exact z7 hown hE (fun q hq e=>h.k1 q (hob ▸ hq) (.inl (.inl e)))
 ·exact fun k hk=>⟨(h.n1 k hk).1,(h.n1 k hk).2.1,fun e=>(h.n1 k hk).2.2 (hob ▸ e)⟩
 ·exact fun k hk=>⟨(h.f1 k hk).1,fun e=>(h.f1 k hk).2 (hob ▸ e)⟩
 ·exact fun k hk=>h.k1 k (hob ▸ hk)
 ·exact hE.mono (fun k _ e=>.inl (.inl (.inl e)))
 ·rintro k (e | e | e | e)
  ·exact .inl (.inl e)
  ·exact .inl (.inr (.inl e))
  ·exact .inl (.inr (.inr (.inl e)))
  ·exact .inl (.inr (.inr (.inr (hob ▸ e))))
end
theorem zV8 {N:List Nm} {n:Nat} (hn:n<=N.length):(K9 N).take (n * 2)=K9 (N.take n):=by
 have e:K9 N=K9 (N.take n)++K9 (N.drop n):=by unfold K9;rw [<- List.flatMap_append,List.take_append_drop]
 have hl:(N.take n).length=n:=by rw [List.length_take];omega
 rw [e,List.take_append_of_le_length (by rw [zp3,hl];exact Nat.le_refl _),List.take_of_length_le (by rw [zp3,hl];exact Nat.le_refl _)]
set_option maxRecDepth 100000 in
set_option maxHeartbeats 1000000 in
theorem qL9 {w:World} {sb n:Nat} {N:List Nm} {nv:Value} {xs:PX} (kb:w.heap[sb]?=some (.cells #[nv,xs.ts,xs.tm,xs.at_,xs.am,xs.fs,xs.ks,xs.vd,xs.ml] 98)) (hown:w.ownsRow 0 142 2 nv N.length (K9 N)) (hs:∀ k,nv.ownBlock=some k->¬k=sb) (hN:N.length<=20) (hn:n<=N.length) :
  Calls Tryz.prog 43 #[.pointer (some ⟨sb,0,none⟩),.int .i64 n] w fun e w'=>e=.returned (.tuple #[])/\∃ nv',w'.heap[sb]?=some (.cells #[nv',xs.ts,xs.tm,xs.at_,xs.am,xs.fs,xs.ks,xs.vd,xs.ml] 98)/\w'.ownsRow 0 142 2 nv' (N.take n).length (K9 (N.take n))/\q9 (fun k=>k=sb\/nv.ownBlock=some k) w w'/\nv'.ownBlock=nv.ownBlock:=by
 obtain ⟨a,c,rfl⟩:=j9 hown
 have c0:=z6 kb 0
 have hsb:=z8 kb
 have KB:=q8 kb
 have HS:=q8 hs
 have HOR:=q8 (z7 hown ((q9.refl (fun _=>False) w).drew) (fun _ _ f=>f))
 have hl:(N.take n).length=n:=by rw [List.length_take];omega
 have HL:=q8 hl
 have HFT:=q8 (zV8 hn)
 clear kb hs hown hl
 go_enter Tryz.func43,Tryz.ntmps43
 go_wp2_with fail
 go_region_law (go_simp;go_wp2_with (go_at_call 64;refine (ji6 HOR.out hn (by omega)).mono ?_;rintro e w2 ⟨v',rfl,hown2,hx2,hob⟩;obtain ⟨va,vc,rfl⟩:=j9 hown2;have kb2:w2.heap[sb]?=some (.cells #[.slice a N.length c,xs.ts,xs.tm,xs.at_,xs.am,xs.fs,xs.ks,xs.vd,xs.ml] 98):=(hx2.block sb hsb (fun e=>HS.out sb e rfl)).trans KB.out;have d0:=z6 kb2 0;have d0f:=Q0 kb2 0))
 all_goals
  go_wp2_with fail
  go_end0
  have hW:q9 (fun k=>k=sb) w2 (w2.setCell ⟨sb,0,none⟩ (.slice va n vc)):=(q9.refl (fun k=>k=sb) w2).setCell (p:=⟨sb,0,none⟩) (fun _=>rfl) _
  refine ⟨rfl,.slice va n vc,Y0 kb2 0 _,?_,?_,hob⟩
  ·rw [HFT.out] at hown2
   rw [HL.out]
   exact z7 hown2 hW (fun k hk e=>HS.out k (hob ▸ hk) e)
  ·exact ((((q9.refl (fun k=>(Value.slice a N.length c).ownBlock=some k) w).drew).trans hx2).mono (fun _ _ e=>.inr e)).trans' hW (fun _ _ e=>.inl e)
end Go.Proofs.YtegbdaffhpiacaaGreatDoor
