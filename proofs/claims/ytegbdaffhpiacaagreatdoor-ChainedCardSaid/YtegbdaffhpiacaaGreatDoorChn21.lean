/- The program: an atom is taken in; The program: a formula is taken in; The program: a formula with parts is taken in; The program's pool: its size, a cut; The program's pool takes a formula, or nothing of it. -/
import Derived.Test.YtegbdaffhpiacaaGreatDoorChn20
namespace Go.Proofs.YtegbdaffhpiacaaGreatDoor
open Go.RowKit Go.Maps Ar
noncomputable def acs (w:ByteArray) (T es:List Nd) (j:Nat) (bd:Int):Array Value:=#[.string w,.int .i64 (if 0 < j then ix T es 0 else 0),.int .i64 (if 1 < j then ix T es 1 else 0),.int .i64 bd]
theorem acs_set {w:ByteArray} {T es:List Nd} {j:Nat} {bd:Int} (hj:j < 2):(acs w T es j bd).setIfInBounds (1+j) (.int .i64 (ix T es j))=acs w T es (j+1) bd:=by
 match j,hj with
 | 0,_=>rfl
 | 1,_=>rfl
theorem acs_bd {w:ByteArray} {T es:List Nd} {j:Nat} {bd bd':Int}:(acs w T es j bd).setIfInBounds 3 (.int .i64 bd')=acs w T es j bd':=rfl
theorem acs_full {w:ByteArray} {T es:List Nd} {bd:Int}:acs w T es 2 bd=#[.string w,.int .i64 (ix T es 0),.int .i64 (ix T es 1),.int .i64 bd]:=rfl
theorem acs_cell {w:ByteArray} {T es:List Nd} {j q:Nat} {bd:Int} (hq:q < 4):∃ u,(acs w T es j bd)[q]?=some u:=⟨_,Array.getElem?_eq_getElem (by simpa [acs] using hq)⟩
structure AW2 (w:World) (sb nb ab:Nat) (nv:Value) (xs:PX) (T:List Nd) (word:ByteArray) (pv:Value) (es:List Nd) (j:Nat) (wr:World):Prop where
 ext:Ext (TF sb xs) w wr
 nbk:wr.heap[nb]?=some (.cells #[.int .i64 2,.string word,.int .i64 0,pv] 115)
 abk:wr.heap[ab]?=some (.cells (acs word (addTs T es) es j 0) 153)
 ts:∃ ts' tm',TS wr sb nv { xs with ts:=ts',tm:=tm' } (addTs T (es.take j))/\(∀ q,TF sb { xs with ts:=ts',tm:=tm' } q->TF sb xs q\/w.heap.size+2<=q)
theorem aw_step {w wr V w2:World} {sb:Nat} {nv pv:Value} {xs:PX} {T:List Nd} {word:ByteArray} {es:List Nd} {j:Nat} {p:Nd} {ts1 tm1 ts2 tm2:Value} (hes:∀ p∈es,TmOk p) (h:AW2 w sb w.heap.size (w.heap.size+1) nv xs T word pv es j wr) (hlt:∀ q,TF sb xs q->q < w.heap.size) (hl:w.heap.size+2<=wr.heap.size) (hx:Ext (fun _=>False) wr V)
  (hf1:∀ q,TF sb { xs with ts:=ts1,tm:=tm1 } q->TF sb xs q\/w.heap.size+2<=q) (h2:TS w2 sb nv { xs with ts:=ts2,tm:=tm2 } (addT (addTs T (es.take j)) p)) (hE:Ext (TF sb { xs with ts:=ts1,tm:=tm1 }) V w2) (hf2:∀ q,TF sb { xs with ts:=ts2,tm:=tm2 } q->TF sb { xs with ts:=ts1,tm:=tm1 } q\/V.heap.size<=q)
  (hp:es[j]?=some p) (hj:j < 2):w2.heap[w.heap.size+1]?=some (.cells (acs word (addTs T es) es j 0) 153)/\AW2 w sb w.heap.size (w.heap.size+1) nv xs T word pv es (j+1) (w2.setCell ⟨w.heap.size+1,1+j,none⟩ (.int .i64 (idx (addT (addTs T (es.take j)) p) p:Nat))):=by
 have hno:∀ q,q < w.heap.size+2->w.heap.size<=q->¬TF sb { xs with ts:=ts1,tm:=tm1 } q:=by
  intro q h1 h2 h3
  rcases hf1 q h3 with e | e
  ·have:=hlt q e;omega
  ·omega
 have s1:=hx.size
 have kt:w2.heap[w.heap.size+1]?=some (.cells (acs word (addTs T es) es j 0) 153):=(hE.block _ (by omega) (hno _ (by omega) (by omega))).trans ((hx.block _ (by omega) (fun f=>f)).trans h.abk)
 have kn:w2.heap[w.heap.size]?=some (.cells #[.int .i64 2,.string word,.int .i64 0,pv] 115):=(hE.block _ (by omega) (hno _ (by omega) (Nat.le_refl _))).trans ((hx.block _ (by omega) (fun f=>f)).trans h.nbk)
 have hxs:Ext (fun q=>q=w.heap.size+1) w2 (w2.setCell ⟨w.heap.size+1,1+j,none⟩ (.int .i64 (idx (addT (addTs T (es.take j)) p) p:Nat))):=(Ext.refl (fun q=>q=w.heap.size+1) w2).setCell (p:=⟨w.heap.size+1,1+j,none⟩) (fun _=>rfl) _
 have hf:∀ q,TF sb { xs with ts:=ts2,tm:=tm2 } q->TF sb xs q\/w.heap.size+2<=q:=by
  intro q hq
  rcases hf2 q hq with e | e
  ·exact hf1 q e
  ·exact .inr (by omega)
 refine ⟨kt,⟨?_,?_,?_,ts2,tm2,?_,hf⟩⟩
 ·refine ((h.ext.trans' (hx.mono (fun _ _ f=>f.elim)) (fun _ _ e=>e)).trans' hE (fun q hq e=>?_)).trans' hxs (fun q hq e=>?_)
  ·rcases hf1 q e with e | e
   ·exact e
   ·omega
  ·omega
 ·exact (hxs.block _ (blt kn) (by show ¬w.heap.size=w.heap.size+1;omega)).trans kn
 ·have e:=bsc kt (1+j) (.int .i64 (idx (addT (addTs T (es.take j)) p) p:Nat))
  rw [arg_place hes hp,acs_set hj] at e
  rw [arg_place hes hp]
  exact e
 ·have e:addTs T (es.take (j+1))=addT (addTs T (es.take j)) p:=by rw [List.take_add_one,hp];exact addTs_snoc T _ p
  rw [e]
  refine h2.ext hxs (fun q hq e=>?_)
  rcases hf q hq with h | h
  ·have:=hlt q h;omega
  ·omega
theorem pn_val {w:World} {D:Nat->Prop} {k v:Int} {wd:ByteArray} {pv:Value} {p:Nd} (h:PN w D [.int .i64 k,.string wd,.int .i64 v,pv] p):ndVal p=v:=by
 cases h
 rfl
theorem key_atom (T:List Nd) (w:ByteArray) (k v:Int) (a b:Nd) (r:List Nd):(keyA T (.mk k w v (a :: b :: r))).val=.agg #[.string w,.int .i64 (ix T [a,b] 0),.int .i64 (ix T [a,b] 1),.int .i64 (bnd (a :: b :: r))]:=rfl
set_option maxRecDepth 100000 in
set_option maxHeartbeats 1000000 in
theorem atom_any {w:World} {sb:Nat} {nv:Value} {xs:PX} {T A:List Nd} {word:ByteArray} {a b:Nd} {r:List Nd} {g pc:Nat} {D:Nat->Prop} (h:PSt w sb nv xs T A) (hx:AtOk (.mk 2 word 0 (a :: b :: r))) (hr:r.length<=1) (ha:TmOk a) (hb:TmOk b) (hlen:T.length+(subsAll true [a,b]).length<=9000000) (hlA:A.length<=9000000) (hpc:(a :: b :: r).length<=pc) (hpc2:pc<=9223372036854775807)
  (hkid:∀ (i:Nat) (p:Nd),(a :: b :: r)[i]?=some p->∃ g' k' wd' v' pa' pn' pc',some (⟨g,0,none⟩:Addr)=some ⟨g',0,none⟩/\g' < w.heap.size/\D g'/\w.cell? ⟨g',i * 4,none⟩=some (.int .i64 k')/\w.cell? ⟨g',i * 4+1,none⟩=some (.string wd')/\w.cell? ⟨g',i * 4+2,none⟩=some (.int .i64 v')/\w.cell? ⟨g',i * 4+3,none⟩=some (.slice pa' pn' pc')/\PN w D [.int .i64 k',.string wd',.int .i64 v',.slice pa' pn' pc'] p)
  (hDl:∀ k,D k->k < w.heap.size) (hDT:∀ k,D k->¬PF sb xs k) :
  Calls Tryz.prog 111 #[.pointer (some ⟨sb,1,none⟩),.agg #[.int .i64 2,.string word,.int .i64 0,.slice (some ⟨g,0,none⟩) (a :: b :: r).length pc]] w fun e w'=>e=.returned (.int .i64 (idx (putN A (.mk 2 word 0 (a :: b :: r))) (.mk 2 word 0 (a :: b :: r)):Nat))/\APost w sb nv xs (addTs T [a,b]) (putN A (.mk 2 word 0 (a :: b :: r))) w':=by
 obtain ⟨n,hn⟩:∃ n,(a :: b :: r).length=n:=⟨_,rfl⟩
 have hn2:2<=n:=by rw [<- hn];simp
 have hn3:n<=3:=by rw [<- hn];simp;omega
 have hsb:=blt h.ts.blk
 have HLT:=hide h.ts.lt
 have HLTP:=hide h.lt
 have H:=hide h
 have HAX:=hide hx
 have hes:∀ p∈[a,b],TmOk p:=by
  intro p hp
  simp at hp
  rcases hp with rfl | rfl
  ·exact ha
  ·exact hb
 have HES:=hide hes
 have HLEN:=hide hlen
 have HKID:=hide hkid
 have HDL:=hide hDl
 have HDT:=hide hDT
 have HNR:Hid ((a :: b :: r).length=n):=hn
 have hTW:AW2 w sb w.heap.size (w.heap.size+1) nv xs T word (.slice (some ⟨g,0,none⟩) n pc) [a,b] 0 ((w.alloc (.cells #[.int .i64 2,.string word,.int .i64 0,.slice (some ⟨g,0,none⟩) n pc] 115)).alloc (.cells #[.string word,.int .i64 0,.int .i64 0,.int .i64 0] 153)):=by
  have hx:Ext (fun _=>False) w ((w.alloc (.cells #[.int .i64 2,.string word,.int .i64 0,.slice (some ⟨g,0,none⟩) n pc] 115)).alloc (.cells #[.string word,.int .i64 0,.int .i64 0,.int .i64 0] 153)):=((Ext.refl _ w).alloc _).alloc _
  refine ⟨hx.mono (fun _ _ f=>f.elim),?_,?_,xs.ts,xs.tm,?_,fun q hq=>.inl hq⟩
  ·rw [heap_alloc_old _ _ (by simp)];exact heap_alloc_new w _
  ·exact heap_alloc2_new w _ _
  ·simp only [List.take_zero,addTs]
   exact h.ts.ext hx (fun _ _ f=>f)
 have HTW:=hide hTW
 rw [hn] at hpc ⊢
 clear h hx hes hlen hkid hDl hDT hTW hn ha hb hr
 go_enter Tryz.func111,Tryz.ntmps111
 go_wp2_with fail
 go_loopw [12] (fun i wr=>∃ (j:Nat),j<=2/\i=.int .i64 j/\w.heap.size+2<=wr.heap.size/\AW2 w sb w.heap.size (w.heap.size+1) nv xs T word (.slice (some ⟨g,0,none⟩) n pc) [a,b] j wr) (fun i _=>2 - (intOf i).toNat)
 case atStart=>exact ⟨0,Nat.zero_le _,rfl,by simp,HTW.out⟩
 case round =>
  clear HTW
  obtain ⟨j,hj,rfl,hws,htw⟩:=hrel
  have n3:=cob htw.nbk 3
  have HTW:=hide htw
  clear htw
  by_cases hlt:j < 2
  ·obtain ⟨p,hp⟩:∃ p,[a,b][j]?=some p:=⟨_,List.getElem?_eq_getElem (by simpa using hlt)⟩
   have hpf:(a :: b :: r)[j]?=some p:=by
    match j,hlt,hp with
    | 0,_,hp=>exact hp
    | 1,_,hp=>exact hp
   obtain ⟨g',k',wd',v',pa',pn',pc',hge,hgl,hDg,z0,z1,z2,z3,hpn⟩:=HKID.out j p hpf
   cases hge
   rw [<- HTW.out.ext.cell (p:=⟨g,j * 4,none⟩) hgl (fun e=>HDT.out g hDg (.inl e))] at z0
   rw [<- HTW.out.ext.cell (p:=⟨g,j * 4+1,none⟩) hgl (fun e=>HDT.out g hDg (.inl e))] at z1
   rw [<- HTW.out.ext.cell (p:=⟨g,j * 4+2,none⟩) hgl (fun e=>HDT.out g hDg (.inl e))] at z2
   rw [<- HTW.out.ext.cell (p:=⟨g,j * 4+3,none⟩) hgl (fun e=>HDT.out g hDg (.inl e))] at z3
   have hjn:j < n:=by omega
   have HP:=hide hp
   have HPN:=hide hpn
   obtain ⟨ts1,tm1,hts1,hf1⟩:=HTW.out.ts
   have HTS1:=hide hts1
   have HF1:=hide hf1
   have HMEM:=hide (List.mem_of_getElem? hp)
   clear hp hpf hpn hgl hDg hts1 hf1
   go_wp2_with fail
   refine (pterm_any (HES.out p HMEM.out) wr _ _ D k' wd' v' pa' pn' pc' (HPN.out.ext HTW.out.ext (fun k _ hd e=>HDT.out k hd (.inl e))) (fun k hd=>by have:=HDL.out k hd;omega) (fun k hd hq=>by
    rcases HF1.out k hq with e | e
    ·exact HDT.out k hd (.inl e)
    ·have:=HDL.out k hd;omega) HTS1.out (by
    have h1:=addTs_len (ps:=[a,b].take j) (fun q hq=>HES.out q (List.mem_of_mem_take hq)) T
    have h2:=subs_upto true HP.out
    have h3:=HLEN.out
    omega)).mono ?_
   rintro e w2 ⟨rfl,ts2,tm2,hTS2,hE2,hF2⟩
   obtain ⟨kt,htw2⟩:=aw_step HES.out HTW.out HLT.out hws (Ext.refl _ wr) HF1.out hTS2 hE2 hF2 HP.out hlt
   have hsz2:w.heap.size+2<=w2.heap.size:=by have:=hE2.size;omega
   obtain ⟨u,hu⟩:=acs_cell (w:=word) (T:=addTs T [a,b]) (es:=[a,b]) (j:=j) (q:=1+j) (bd:=0) (by omega)
   have tc:=(cob kt (1+j)).trans hu
   have tf:=fob kt (1+j)
   have HT2:=hide htw2
   clear hTS2 hE2 hF2 kt htw2 hu n3 z0 z1 z2 z3
   go_wp2_with fail
   go_roundw
   case measure=>simp [intOf];omega
   case rel=>exact ⟨j+1,by omega,by go_num,by simpa using hsz2,HT2.out⟩
  ·have hj2:j=2:=by omega
   subst hj2
   obtain ⟨B,hB,hB2⟩:∃ B,(if pc=2 then some (⟨g,0,none⟩:Addr) else some ⟨g,8,none⟩)=some B/\(2 < pc->B=⟨g,8,none⟩):=by
    by_cases h:pc=2
    ·exact ⟨_,by rw [if_pos h],fun h2=>by omega⟩
    ·exact ⟨_,by rw [if_neg h],fun _=>rfl⟩
   have HB2:=hide hB2
   have h2c:2<=pc:=by omega
   clear hB2
   obtain ⟨w1,hw1⟩:∃ w1,w1=wr:=⟨_,rfl⟩
   subst hw1
   go_wp2_with fail
   go_loopw [30] (fun i wq=>∃ (q:Nat),q<=n - 2/\i=.int .i64 q/\Ext (fun k=>k=w.heap.size+1) w1 wq/\wq.heap[w.heap.size+1]?=some (.cells (acs word (addTs T [a,b]) [a,b] 2 (if 0 < q then bnd (a :: b :: r) else 0)) 153)) (fun i _=>n - 2 - (intOf i).toNat)
   case atStart=>exact ⟨0,Nat.zero_le _,rfl,Ext.refl _ _,HTW.out.abk⟩
   case round =>
    obtain ⟨q,hq,rfl,hEq,hab⟩:=hrel
    have HEQ:=hide hEq
    have HAB:=hide hab
    clear hEq hab n3
    by_cases hlt2:q < n - 2
    ·have hq0:q=0:=by omega
     subst hq0
     obtain ⟨p,hp⟩:∃ p,(a :: b :: r)[2]?=some p:=⟨_,List.getElem?_eq_getElem (by rw [HNR.out];omega)⟩
     obtain ⟨g',k',wd',v',pa',pn',pc',hge,hgl,hDg,z0,z1,z2,z3,hpn⟩:=HKID.out 2 p hp
     cases hge
     have hE0:=HTW.out.ext
     have hxg:∀ o,wr.cell? ⟨g,o,none⟩=w.cell? ⟨g,o,none⟩:=fun o=>by
      rw [HEQ.out.cell (p:=⟨g,o,none⟩) (by show g < _;have:=hE0.size;omega) (by show ¬g=_;omega)]
      exact hE0.cell (p:=⟨g,o,none⟩) hgl (fun e=>HDT.out g hDg (.inl e))
     rw [<- hxg] at z0 z1 z2 z3
     have hbv:bnd (a :: b :: r)=v':=by unfold bnd;rw [hp];exact pn_val hpn
     have hBe:=HB2.out (by omega)
     subst hBe
     have ab3:=cob HAB.out 3
     have ab3f:=fob HAB.out 3
     have hlab:=blt HAB.out
     have HBV:=hide hbv
     obtain ⟨u,hu⟩:=acs_cell (w:=word) (T:=addTs T [a,b]) (es:=[a,b]) (j:=2) (q:=3) (bd:=if 0 < 0 then bnd (a :: b :: r) else 0) (by omega)
     rw [hu] at ab3
     clear hp hpn hxg hE0 hbv hu hgl hDg
     go_wp2_with fail
     go_roundw
     case measure=>simp [intOf];omega
     case rel =>
      refine ⟨1,by omega,by go_num,?_,?_⟩
      ·exact ((HEQ.out.setCell (p:=⟨w.heap.size+1,3,none⟩) (fun _=>rfl) _).alloc _)
      ·rw [heap_alloc_old _ _ (by simpa using hlab)]
       have e:=bsc HAB.out 3 (.int .i64 v')
       rw [acs_bd] at e
       rw [if_pos (by omega),HBV.out]
       exact e
    ·have hqn:q=n - 2:=by omega
     have hbd:(if 0 < q then bnd (a :: b :: r) else 0)=bnd (a :: b :: r):=by
      by_cases h0:0 < q
      ·rw [if_pos h0]
      ·rw [if_neg h0]
       unfold bnd
       rw [List.getElem?_eq_none (by rw [HNR.out];omega)]
     have hab2:=HAB.out
     rw [hbd,acs_full] at hab2
     have y0:=cob hab2 0
     have y1:=cob hab2 1
     have y2:=cob hab2 2
     have y3:=cob hab2 3
     obtain ⟨ts1,tm1,hts1,hf1⟩:=HTW.out.ts
     have hts1':TS w1 sb nv { xs with ts:=ts1,tm:=tm1 } (addTs T [a,b]):=hts1
     obtain ⟨xz,hadd,_⟩:=adds_terms HES.out T
     have hpst:=pst_terms H.out (Nat.le_refl _) hadd.pre hts1' HTW.out.ext (fun k hk=>(hf1 k hk).imp id (fun e=>by omega))
     have hpq:PSt wr.drew sb nv { xs with ts:=ts1,tm:=tm1 } (addTs T [a,b]) A:=(hpst.ext HEQ.out (fun k hk e=>by
      rcases hk with hk | hk | hk
      ·rcases hf1 k hk with e2 | e2
       ·have:=HLT.out k e2;omega
       ·omega
      ·have:=HLTP.out k (.inr (.inl hk));omega
      ·have:=HLTP.out k (.inr (.inr hk));omega)).ext ((Ext.refl (fun _=>False) wr).drew) (fun _ _ f=>f)
     have hc:=num_atree hpq HAX.out (addTs_mem HES.out T) (by have:=addTs_len HES.out T;have:=HLEN.out;omega) (by omega)
     rw [key_atom] at hc
     have HC:=hide hc
     have HF1:=hide hf1
     clear hc hf1 hts1 hts1' hadd hpst hpq hab2 hbd
     have HE1:=hide HTW.out.ext
     clear HTW
     go_wp2_with fail
     go_region_law (go_simp;go_wp2_with (go_at_call 149;refine HC.out.mono ?_;rintro e w2 ⟨rfl,hap⟩;have HAP:=hide hap;clear hap))
     all_goals
      go_wp2_with fail
      go_ret
      refine ⟨rfl,?_⟩
      obtain ⟨ts2,tm2,at2,am2,k1,k2,k3⟩:=HAP.out
      have s1:=HE1.out.size
      have s2:=HEQ.out.size
      have hpf1:∀ q,PF sb { xs with ts:=ts1,tm:=tm1 } q->PF sb xs q\/w.heap.size+2<=q:=by
       rintro q (e | e | e)
       ·exact (HF1.out q e).imp .inl id
       ·exact .inl (.inr (.inl e))
       ·exact .inl (.inr (.inr e))
      refine ⟨ts2,tm2,at2,am2,k1,?_,?_⟩
      ·refine (((HE1.out.mono (fun _ _ e=>Or.inl e)).trans' HEQ.out (fun q hq e=>by omega)).trans' (((Ext.refl (PF sb _) wr).drew).trans k2) (fun q hq e=>?_))
       rcases hpf1 q e with e | e
       ·exact e
       ·omega
      ·intro q hq
       rcases k3 q hq with e | e
       ·exact (hpf1 q e).imp id (fun e=>by omega)
       ·have e2:wr.heap.size<=q:=e
        exact .inr (by omega)
structure AddsP (T T' xs:List Nd):Prop where
 pre:T <+: T'
 mem:∀ y,y∈T'↔y∈T\/y∈xs
 len:T'.length<=T.length+xs.length
 nd:T.Nodup->T'.Nodup
theorem AddsP.refl (T:List Nd):AddsP T T []:=⟨List.prefix_refl _,fun y=>by simp,by simp,id⟩
theorem AddsP.trans {T T' T'' xs ys:List Nd} (h:AddsP T T' xs) (k:AddsP T' T'' ys):AddsP T T'' (xs++ys) :=
 ⟨h.pre.trans k.pre,fun y=>by rw [k.mem,h.mem];simp [or_assoc],by rw [List.length_append];have:=h.len;have:=k.len;omega,fun e=>k.nd (h.nd e)⟩
theorem AddsP.cast {T T' xs ys:List Nd} (h:AddsP T T' xs) (e:xs=ys):AddsP T T' ys:=e ▸ h
inductive FT (w:World) (D:Nat->Prop) (A:List Nd):List Value->Nd->Prop
 | atom {word:ByteArray} {v:Int} {ps:List Nd} (hm:.mk 2 word v ps∈A):FT w D A [.int .i64 2,.string ⟨#[]⟩,.int .i64 (idx A (.mk 2 word v ps)),.slice none 0 0] (.mk 2 word v ps)
 | node {k v:Int} {word:ByteArray} {ps:List Nd} {pv:Value} {kids:List (List Value)} (h2:¬k=2)
   (how:w.ownsRow 0 112 4 pv ps.length kids.flatten) (hl:∀ cs∈kids,cs.length=4) (hn:kids.length=ps.length) (hD:∀ g,pv.ownBlock=some g->D g)
   (hk:∀ (i:Nat) (cs:List Value) (p:Nd),kids[i]?=some cs->ps[i]?=some p->FT w D A cs p):FT w D A [.int .i64 k,.string word,.int .i64 0,pv] (.mk k word v ps)
theorem FT.ext {S D:Nat->Prop} {w w':World} {A:List Nd} {cs:List Value} {nd:Nd} (h:FT w D A cs nd) (hx:Ext S w w') (hS:∀ k,k < w.heap.size->D k->¬S k):FT w' D A cs nd:=by
 induction h with
 | atom hm=>exact .atom hm
 | node h2 how hl hn hD hk ih=>exact .node h2 (own_ext how hx (fun k hk=>hS k (how.lt k hk).2 (hD k hk))) hl hn hD (fun i cs p h1 h3=>ih i cs p h1 h3)
theorem FT.mono {D D':Nat->Prop} {w:World} {A:List Nd} {cs:List Value} {nd:Nd} (h:FT w D A cs nd) (hl':∀ k,k < w.heap.size->D k->D' k):FT w D' A cs nd:=by
 induction h with
 | atom hm=>exact .atom hm
 | node h2 how hl hn hD hk ih=>exact .node h2 how hl hn (fun g hg=>hl' g (how.lt g hg).2 (hD g hg)) (fun i cs p h1 h3=>ih i cs p h1 h3)
theorem FT.pre {D:Nat->Prop} {w:World} {A A':List Nd} {cs:List Value} {nd:Nd} (h:FT w D A cs nd) (hp:A <+: A'):FT w D A' cs nd:=by
 induction h with
 | atom hm =>
  have h1:=FT.atom (w:=w) (D:=D) (A:=A') (hp.subset hm)
  rw [idx_pre hp hm] at h1
  exact h1
 | node h2 how hl hn hD hk ih=>exact .node h2 how hl hn hD (fun i cs p h1 h3=>ih i cs p h1 h3)
theorem FT.len {D:Nat->Prop} {w:World} {A:List Nd} {cs:List Value} {nd:Nd} (h:FT w D A cs nd):cs.length=4:=by
 cases h <;> rfl
theorem FT.free {D:Nat->Prop} {w:World} {sb:Nat} {nv:Value} {xs:PX} {T A A':List Nd} {cs:List Value} {nd:Nd} (h:FT w D A' cs nd) (hp:PSt w sb nv xs T A):FT w (fun q=>D q/\¬PF sb xs q) A' cs nd:=by
 induction h with
 | atom hm=>exact .atom hm
 | node h2 how hl hn hD hk ih =>
  refine .node h2 how hl hn (fun g hg=>⟨hD g hg,?_⟩) (fun i cs p h1 h3=>ih i cs p h1 h3)
  obtain ⟨cur,hc⟩:=own_type how hg
  rintro ((e | e | e) | e | e)
  ·rw [e,hp.ts.blk] at hc
   simp at hc
  ·exact own_not hp.ts.row.own hc (by decide) e
  ·rcases hp.ts.row.map with ⟨e2,_⟩ | ⟨mb,M,e2,ho,_⟩
   ·rw [e2] at e;exact absurd e (by simp [mapB])
   ·rw [e2] at e
    simp [mapB] at e
    subst e
    obtain ⟨es,cl,h5,_⟩:=ho
    rw [hc] at h5
    simp at h5
  ·exact own_not hp.ar.own hc (by decide) e
  ·rcases hp.ar.map with ⟨e2,_⟩ | ⟨mb,M,e2,ho,_⟩
   ·rw [e2] at e;exact absurd e (by simp [mapB])
   ·rw [e2] at e
    simp [mapB] at e
    subst e
    obtain ⟨es,cl,h5,_⟩:=ho
    rw [hc] at h5
    simp at h5
def FmPost (w:World) (sb:Nat) (nv:Value) (xs:PX) (T A:List Nd) (f:Nd) (e:Ending) (w':World):Prop :=
 ∃ k wd i pa pn pc,e=.returned (.agg #[.int .i64 k,.string wd,.int .i64 i,.slice pa pn pc])/\∃ T' A',AddsP T T' (subs true f)/\AddsP A A' (subs false f)/\FT w' (fun q=>w.heap.size<=q) A' [.int .i64 k,.string wd,.int .i64 i,.slice pa pn pc] f/\APost w sb nv xs T' A' w'
def FmIH (sb:Nat) (nv:Value) (f:Nd):Prop:=∀ (w:World) (xs:PX) (T A:List Nd) (D:Nat->Prop) (k':Int) (wd':ByteArray) (v':Int) (pa':Option Addr) (pn' pc':Nat),PN w D [.int .i64 k',.string wd',.int .i64 v',.slice pa' pn' pc'] f->(∀ k,D k->k < w.heap.size)->(∀ k,D k->¬PF sb xs k)->PSt w sb nv xs T A->T.length+(subs true f).length<=9000000->A.length+(subs false f).length<=9000000 ->
 Calls Tryz.prog 73 #[.pointer (some ⟨sb,1,none⟩),.agg #[.int .i64 k',.string wd',.int .i64 v',.slice pa' pn' pc']] w (FmPost w sb nv xs T A f)
theorem fm_done {w V w2 W:World} {sb:Nat} {nv:Value} {xs:PX} {T' A':List Nd} {ts2 tm2 at2 am2:Value} (hxV:Ext (fun _=>False) w V) (hVs:w.heap.size+2<=V.heap.size) (hlt:∀ k,PF sb xs k->k < w.heap.size) (k1:PSt w2 sb nv { xs with ts:=ts2,tm:=tm2,at_:=at2,am:=am2 } T' A') (k2:Ext (PF sb xs) V w2) (k3:∀ k,PF sb { xs with ts:=ts2,tm:=tm2,at_:=at2,am:=am2 } k->PF sb xs k\/V.heap.size<=k) (hW:Ext (fun k=>k=w.heap.size+1) w2 W):APost w sb nv xs T' A' W:=by
 refine ⟨ts2,tm2,at2,am2,k1.ext hW (fun k hk e=>?_),((hxV.mono (fun _ _ f=>f.elim)).trans k2).trans' hW (fun k hk e=>by omega),fun k hk=>(k3 k hk).imp id (fun e=>by omega)⟩
 rcases k3 k hk with h | h
 ·have:=hlt k h;omega
 ·omega
theorem atom_adds {T:List Nd} {word:ByteArray} {a b:Nd} {r:List Nd} (ha:TmOk a) (hb:TmOk b) (hr:r=[]\/∃ v,r=[.mk 5 ByteArray.empty v []] /\ -1000<=v/\v<=1000):AddsP T (addTs T [a,b]) (subs true (.mk 2 word 0 (a :: b :: r)))/\(subsAll true [a,b]).length<=(subs true (.mk 2 word 0 (a :: b :: r))).length/\subs false (.mk 2 word 0 (a :: b :: r))=[.mk 2 word 0 (a :: b :: r)]:=by
 have hes:∀ p∈[a,b],TmOk p:=by
  intro p hp
  simp at hp
  rcases hp with rfl | rfl
  ·exact ha
  ·exact hb
 obtain ⟨xz,hadd,h2,h3⟩:=adds_terms hes T
 have e:subs true (.mk 2 word 0 (a :: b :: r))=subsAll true [a,b]:=by
  simp only [subs,subsAll]
  rw [if_neg (by simp [isIt])]
  rcases hr with rfl | ⟨v,rfl,_⟩ <;> simp [subsAll,subs,isIt]
 refine ⟨⟨hadd.pre,fun y=>by rw [hadd.mem,h2,e],by rw [e];have:=hadd.len;omega,hadd.nd⟩,by rw [e];exact Nat.le_refl _,?_⟩
 simp only [subs,subsAll]
 rw [if_pos (by simp [isIt]),term_atoms ha,term_atoms hb]
 rcases hr with rfl | ⟨v,rfl,_⟩ <;> simp [subsAll,subs,isIt]
theorem putN_adds (A:List Nd) (x:Nd):AddsP A (putN A x) [x]:=⟨putN_pre,fun y=>by rw [mem_putN];simp,by have:=putN_len (T:=A) (x:=x);simp;omega,putN_nodup⟩
set_option maxRecDepth 100000 in
set_option maxHeartbeats 1000000 in
theorem fm_atom {w:World} {sb:Nat} {nv:Value} {xs:PX} {T A:List Nd} {word:ByteArray} {a b:Nd} {r:List Nd} {pa:Option Addr} {pn pc:Nat} {D:Nat->Prop} (hx:AtOk (.mk 2 word 0 (a :: b :: r))) (ha:TmOk a) (hb:TmOk b) (hr:r=[]\/∃ v,r=[.mk 5 ByteArray.empty v []] /\ -1000<=v/\v<=1000) (hpn:PN w D [.int .i64 2,.string word,.int .i64 0,.slice pa pn pc] (.mk 2 word 0 (a :: b :: r))) (hDl:∀ k,D k->k < w.heap.size) (hDT:∀ k,D k->¬PF sb xs k) (h:PSt w sb nv xs T A) (hl1:T.length+(subs true (.mk 2 word 0 (a :: b :: r))).length<=9000000) (hl2:A.length+(subs false (.mk 2 word 0 (a :: b :: r))).length<=9000000) :
  Calls Tryz.prog 73 #[.pointer (some ⟨sb,1,none⟩),.agg #[.int .i64 2,.string word,.int .i64 0,.slice pa pn pc]] w (FmPost w sb nv xs T A (.mk 2 word 0 (a :: b :: r))):=by
 obtain ⟨had,hsl,hsa⟩:=atom_adds (T:=T) (word:=word) ha hb hr
 have hr1:r.length<=1:=by
  rcases hr with rfl | ⟨v,rfl,_⟩ <;> simp
 obtain ⟨V,hV⟩:∃ V,(w.alloc (.cells #[.int .i64 2,.string word,.int .i64 0,.slice pa pn pc] 115)).alloc (.cells #[.int .i64 0,.string ⟨#[]⟩,.int .i64 0,.slice none 0 0] 112)=V:=⟨_,rfl⟩
 have hxV:Ext (fun _=>False) w V:=by rw [<- hV];exact ((Ext.refl _ w).alloc _).alloc _
 have kR:V.heap[w.heap.size+1]?=some (.cells #[.int .i64 0,.string ⟨#[]⟩,.int .i64 0,.slice none 0 0] 112):=by rw [<- hV];exact heap_alloc2_new w _ _
 have hVs:V.heap.size=w.heap.size+2:=by rw [<- hV];simp
 have hlt:=h.lt
 have hc:Calls Tryz.prog 111 #[.pointer (some ⟨sb,1,none⟩),.agg #[.int .i64 2,.string word,.int .i64 0,.slice pa pn pc]] V fun e w'=>e=.returned (.int .i64 (idx (putN A (.mk 2 word 0 (a :: b :: r))) (.mk 2 word 0 (a :: b :: r)):Nat))/\APost V sb nv xs (addTs T [a,b]) (putN A (.mk 2 word 0 (a :: b :: r))) w':=by
  have hpV:=hpn.ext hxV (fun _ _ _ f=>f)
  cases hpV with
  | @mk _ _ _ _ _ kids how hkl hkn hD hk =>
   obtain ⟨a',cap,hv,h1,h2,hkid⟩:=pkid_at how hkl hkn hD hk
   cases hv
   obtain ⟨g,_,_,_,_,_,_,rfl,_⟩:=hkid 0 a rfl
   exact atom_any (h.ext hxV (fun _ _ f=>f)) hx hr1 ha hb (by omega) (by rw [hsa] at hl2;simp at hl2;omega) h1 h2 hkid (fun k hd=>by have:=hDl k hd;omega) hDT
 have HC:=hide hc
 have HV:=hide hV
 have HXV:=hide hxV
 have KR:=hide kR
 have HLT:=hide hlt
 have HAD:=hide had
 have HSA:=hide hsa
 clear hc hV hxV kR hlt had hsa hpn h hDl hDT hl1 hl2 hx ha hb hr hsl
 go_enter Tryz.func73,Tryz.ntmps73
 go_wp2_with fail
 rw [HV.out]
 refine HC.out.mono ?_
 rintro e w2 ⟨rfl,hap⟩
 obtain ⟨i,hi⟩:∃ i,idx (putN A (.mk 2 word 0 (a :: b :: r))) (.mk 2 word 0 (a :: b :: r))=i:=⟨_,rfl⟩
 have HI:=hide hi
 rw [hi]
 clear hi
 obtain ⟨ts2,tm2,at2,am2,k1,k2,k3⟩:=hap
 have kr2:w2.heap[w.heap.size+1]?=some (.cells #[.int .i64 0,.string ⟨#[]⟩,.int .i64 0,.slice none 0 0] 112):=(k2.block _ (blt KR.out) (fun hq=>by have:=HLT.out _ hq;omega)).trans KR.out
 have r0:=cob kr2 0
 have r1:=cob kr2 1
 have r2:=cob kr2 2
 have r3:=cob kr2 3
 have f0:=fob kr2 0
 have f1:=fob kr2 1
 have f2:=fob kr2 2
 have f3:=fob kr2 3
 have hlr:=blt kr2
 have K1:=hide k1
 have K2:=hide k2
 have K3:=hide k3
 clear k1 k2 k3 kr2
 go_wp2_with fail
 refine bodyPost_ret (v:=.agg #[.int .i64 2,.string ⟨#[]⟩,.int .i64 i,.slice none 0 0]) (by simp [results,Tryz.results73,go_sem,r0,r1,r2,r3]) rfl ?_
 refine ⟨2,⟨#[]⟩,i,none,0,0,rfl,_,_,HAD.out,(putN_adds A _).cast HSA.out.symm,by rw [<- HI.out];exact .atom (mem_putN.2 (.inr rfl)),?_⟩
 exact fm_done HXV.out (by omega) HLT.out K1.out K2.out K3.out ((((((Ext.refl (fun k=>k=w.heap.size+1) w2).setCell (p:=⟨w.heap.size+1,0,none⟩) (fun _=>rfl) _).setCell (p:=⟨w.heap.size+1,1,none⟩) (fun _=>rfl) _).setCell (p:=⟨w.heap.size+1,2,none⟩) (fun _=>rfl) _).setCell (p:=⟨w.heap.size+1,3,none⟩) (fun _=>rfl) _))
def FKids (w:World) (D:Nat->Prop) (A:List Nd) (ys:List Value) (ps:List Nd) (j:Nat):Prop :=
 ∃ kids:List (List Value),ys=kids.flatten/\(∀ cs∈kids,cs.length=4)/\kids.length=j/\∀ (i:Nat) (cs:List Value) (p:Nd),kids[i]?=some cs->ps[i]?=some p->FT w D A cs p
theorem FKids.snoc {wr w2 W:World} {D D1 D2:Nat->Prop} {A1 A2:List Nd} {ys zs:List Value} {ps:List Nd} {j:Nat} {p:Nd} (h:FKids wr D1 A1 ys ps j) (hp:ps[j]?=some p) (hA:A1 <+: A2) (hz:FT w2 D2 A2 zs p)
  (h1:∀ cs q,FT wr D1 A1 cs q->FT W D A1 cs q) (h2:FT w2 D2 A2 zs p->FT W D A2 zs p):FKids W D A2 (ys++zs) ps (j+1):=by
 obtain ⟨kids,rfl,hl,hn,hk⟩:=h
 refine ⟨kids++[zs],by simp,fun cs hc=>?_,by simp [hn],fun i cs q hi hq=>?_⟩
 ·rcases List.mem_append.1 hc with e | e
  ·exact hl cs e
  ·rw [List.mem_singleton.1 e];exact hz.len
 ·by_cases hlt:i < kids.length
  ·rw [List.getElem?_append_left hlt] at hi
   exact (h1 cs q (hk i cs q hi hq)).pre hA
  ·have hlen:=(List.getElem?_eq_some_iff.1 hi).1
   simp at hlen
   have hij:i=kids.length:=by omega
   subst hij
   rw [List.getElem?_append_right (Nat.le_refl _)] at hi
   simp at hi
   subst hi
   rw [hn,hp] at hq
   obtain rfl:p=q:=by simpa using hq
   exact h2 hz
structure FW (w:World) (sb:Nat) (nv:Value) (xs:PX) (T A:List Nd) (k:Int) (word:ByteArray) (pv:Value) (ps:List Nd) (j:Nat) (wr:World):Prop where
 ext:Ext (PF sb xs) w wr
 nbk:wr.heap[w.heap.size]?=some (.cells #[.int .i64 k,.string word,.int .i64 0,pv] 115)
 rbk:wr.heap[w.heap.size+1]?=some (.cells #[.int .i64 0,.string ⟨#[]⟩,.int .i64 0,.slice none 0 0] 112)
 row:∃ fv ys,wr.heap[w.heap.size+2]?=some (.cells #[.int .i64 k,.string word,.int .i64 0,fv] 112)/\wr.ownsRow 0 112 4 fv j ys/\(∀ q,fv.ownBlock=some q->w.heap.size+3<=q) /\
  ∃ ts' tm' at' am' T' A',PSt wr sb nv { xs with ts:=ts',tm:=tm',at_:=at',am:=am' } T' A'/\AddsP T T' (subsAll true (ps.take j))/\AddsP A A' (subsAll false (ps.take j))/\(∀ q,PF sb { xs with ts:=ts',tm:=tm',at_:=at',am:=am' } q->PF sb xs q\/w.heap.size+3<=q)/\(∀ q,fv.ownBlock=some q->¬PF sb { xs with ts:=ts',tm:=tm',at_:=at',am:=am' } q)/\FKids wr (fun q=>w.heap.size+3<=q/\¬fv.ownBlock=some q) A' ys ps j
theorem fw_step {w wr V w2 w0 w3:World} {sb g cap':Nat} {nv pv fv:Value} {xs:PX} {T A T1 A1 T2 A2:List Nd} {k:Int} {word:ByteArray} {ps:List Nd} {j:Nat} {p:Nd} {ys zs:List Value} {ts1 tm1 at1 am1 ts2 tm2 at2 am2:Value} (h:FW w sb nv xs T A k word pv ps j wr) (hlt:∀ q,PF sb xs q->q < w.heap.size)
  (hfv:wr.heap[w.heap.size+2]?=some (.cells #[.int .i64 k,.string word,.int .i64 0,fv] 112)) (hown:wr.ownsRow 0 112 4 fv j ys) (hfq:∀ q,fv.ownBlock=some q->w.heap.size+3<=q)
  (hT1:AddsP T T1 (subsAll true (ps.take j))) (hA1:AddsP A A1 (subsAll false (ps.take j))) (hf1:∀ q,PF sb { xs with ts:=ts1,tm:=tm1,at_:=at1,am:=am1 } q->PF sb xs q\/w.heap.size+3<=q) (hfn:∀ q,fv.ownBlock=some q->¬PF sb { xs with ts:=ts1,tm:=tm1,at_:=at1,am:=am1 } q)
  (hx:Ext (fun _=>False) wr V) (hT2:AddsP T1 T2 (subs true p)) (hA2:AddsP A1 A2 (subs false p)) (h2:PSt w2 sb nv { xs with ts:=ts2,tm:=tm2,at_:=at2,am:=am2 } T2 A2) (hE:Ext (PF sb { xs with ts:=ts1,tm:=tm1,at_:=at1,am:=am1 }) V w2) (hf2:∀ q,PF sb { xs with ts:=ts2,tm:=tm2,at_:=at2,am:=am2 } q->PF sb { xs with ts:=ts1,tm:=tm1,at_:=at1,am:=am1 } q\/V.heap.size<=q)
  (hx0:Ext (fun _=>False) w2 w0) (hgrow:w0.grownBy w3 fv.ownBlock) (hown3:w3.ownsRow 0 112 4 (.slice (some ⟨g,0,none⟩) (j+1) cap') (j+1) (ys++zs)) (hat:fv.ownBlock=some g\/w2.heap.size<=g) (hp:ps[j]?=some p) (hps1:PSt wr sb nv { xs with ts:=ts1,tm:=tm1,at_:=at1,am:=am1 } T1 A1) (hkids:FKids wr (fun q=>w.heap.size+3<=q/\¬fv.ownBlock=some q) A1 ys ps j) (hft:FT w2 (fun q=>V.heap.size<=q) A2 zs p) :
  FW w sb nv xs T A k word pv ps (j+1) (w3.setCell ⟨w.heap.size+2,3,none⟩ (.slice (some ⟨g,0,none⟩) (j+1) cap')):=by
 have s0:=h.ext.size
 have l0:=blt h.nbk
 have l1:=blt h.rbk
 have l2:=blt hfv
 have sx:=hx.size
 have sE:=hE.size
 have s2:=hx0.size
 have hlt2:=h2.lt
 have hno:∀ q,w.heap.size<=q->q < w.heap.size+3->¬PF sb { xs with ts:=ts1,tm:=tm1,at_:=at1,am:=am1 } q:=by
  intro q h1 h2 h3
  rcases hf1 q h3 with e | e
  ·have:=hlt q e;omega
  ·omega
 have hfl:∀ q,fv.ownBlock=some q->q < wr.heap.size:=fun q hq=>(hown.lt q hq).2
 have hxx:Ext (fun q=>PF sb { xs with ts:=ts1,tm:=tm1,at_:=at1,am:=am1 } q\/fv.ownBlock=some q\/q=w.heap.size+2) wr (w3.setCell ⟨w.heap.size+2,3,none⟩ (.slice (some ⟨g,0,none⟩) (j+1) cap')):=by
  have e1:Ext (fun q=>PF sb { xs with ts:=ts1,tm:=tm1,at_:=at1,am:=am1 } q\/fv.ownBlock=some q\/q=w.heap.size+2) wr w3:=(((hx.mono (fun _ _ f=>f.elim)).trans (hE.mono (fun _ _ e=>.inl e))).trans (hx0.mono (fun _ _ f=>f.elim))).grown hgrow (fun q hq _=>.inr (.inl hq))
  exact e1.setCell (p:=⟨w.heap.size+2,3,none⟩) (fun _=>.inr (.inr rfl)) _
 have keep:∀ q o,q < w.heap.size+2->w.heap.size<=q->wr.heap[q]?=some o->(w3.setCell ⟨w.heap.size+2,3,none⟩ (.slice (some ⟨g,0,none⟩) (j+1) cap')).heap[q]?=some o:=by
  intro q o h1 h2 h3
  refine (hxx.block q (blt h3) ?_).trans h3
  rintro (e | e | e)
  ·exact hno q h2 (by omega) e
  ·have:=hfq q e;omega
  ·omega
 have k3:w3.heap[w.heap.size+2]?=some (.cells #[.int .i64 k,.string word,.int .i64 0,fv] 112):=by
  have e1:Ext (fun q=>PF sb { xs with ts:=ts1,tm:=tm1,at_:=at1,am:=am1 } q\/fv.ownBlock=some q) wr w3:=(((hx.mono (fun _ _ f=>f.elim)).trans (hE.mono (fun _ _ e=>.inl e))).trans (hx0.mono (fun _ _ f=>f.elim))).grown hgrow (fun q hq _=>.inr hq)
  refine (e1.block _ l2 ?_).trans hfv
  rintro (e | e)
  ·exact hno _ (by omega) (by omega) e
  ·have:=hfq _ e;omega
 have hx3:Ext (fun q=>fv.ownBlock=some q) w2 w3:=(hx0.mono (fun _ _ f=>f.elim)).grown hgrow (fun q hq _=>hq)
 have hg3:w.heap.size+3<=g:=by
  rcases hat with e | e
  ·exact hfq g e
  ·omega
 have hfn2:∀ q,fv.ownBlock=some q->¬PF sb { xs with ts:=ts2,tm:=tm2,at_:=at2,am:=am2 } q:=by
  intro q hq h3
  rcases hf2 q h3 with e | e
  ·exact hfn q hq e
  ·have:=hfl q hq;omega
 have hf:∀ q,PF sb { xs with ts:=ts2,tm:=tm2,at_:=at2,am:=am2 } q->PF sb xs q\/w.heap.size+3<=q:=by
  intro q hq
  rcases hf2 q hq with e | e
  ·exact hf1 q e
  ·exact .inr (by omega)
 have hW:Ext (fun q=>q=w.heap.size+2) w3 (w3.setCell ⟨w.heap.size+2,3,none⟩ (.slice (some ⟨g,0,none⟩) (j+1) cap')):=(Ext.refl (fun q=>q=w.heap.size+2) w3).setCell (p:=⟨w.heap.size+2,3,none⟩) (fun _=>rfl) _
 have et:subsAll true (ps.take (j+1))=subsAll true (ps.take j)++subs true p:=by rw [List.take_add_one,hp,subsAll_append];simp [subsAll]
 have ef:subsAll false (ps.take (j+1))=subsAll false (ps.take j)++subs false p:=by rw [List.take_add_one,hp,subsAll_append];simp [subsAll]
 refine ⟨h.ext.trans' hxx (fun q hq e=>?_),keep _ _ (by omega) (Nat.le_refl _) h.nbk,keep _ _ (by omega) (by omega) h.rbk,.slice (some ⟨g,0,none⟩) (j+1) cap',ys++zs,bsc k3 3 _,own_ext hown3 hW (fun q hq e=>by simp [Value.ownBlock] at hq;omega),fun q hq=>by simp [Value.ownBlock] at hq;omega,ts2,tm2,at2,am2,T2,A2,?_,(hT1.trans hT2).cast et.symm,(hA1.trans hA2).cast ef.symm,hf,?_,?_⟩
 ·rcases e with e | e | e
  ·rcases hf1 q e with e | e
   ·exact e
   ·omega
  ·have:=hfq q e;omega
  ·omega
 ·refine (h2.ext hx3 (fun q hq e=>hfn2 q e hq)).ext hW (fun q hq e=>?_)
  rcases hf q hq with e2 | e2
  ·have:=hlt q e2;omega
  ·omega
 ·intro q hq h3
  simp [Value.ownBlock] at hq
  subst hq
  rcases hat with e | e
  ·exact hfn2 g e h3
  ·have:=hlt2 g h3;omega
 ·refine hkids.snoc hp hA2.pre hft (fun cs q hq=>?_) (fun hq=>?_)
  ·have hq1:=(hq.free hps1).mono (D':=fun k=>(w.heap.size+3<=k/\¬fv.ownBlock=some k/\¬PF sb { xs with ts:=ts1,tm:=tm1,at_:=at1,am:=am1 } k)/\¬(Value.slice (some ⟨g,0,none⟩) (j+1) cap').ownBlock=some k) (fun k hk hd=>⟨⟨hd.1.1,hd.1.2,hd.2⟩,fun e=>by
    simp [Value.ownBlock] at e
    subst e
    rcases hat with e | e
    ·exact hd.1.2 e
    ·omega⟩)
   exact (hq1.ext hxx (fun k hk hd e=>by
    rcases e with e | e | e
    ·exact hd.1.2.2 e
    ·exact hd.1.2.1 e
    ·have:=hd.1.1;omega)).mono (fun k hk hd=>⟨hd.1.1,hd.2⟩)
  ·have hq1:=hq.mono (D':=fun k=>(V.heap.size<=k)/\¬(Value.slice (some ⟨g,0,none⟩) (j+1) cap').ownBlock=some k) (fun k hk hd=>⟨hd,fun e=>by
    simp [Value.ownBlock] at e
    subst e
    rcases hat with e | e
    ·have:=hfl g e;omega
    ·omega⟩)
   exact ((hq1.ext hx3 (fun k hk hd e=>by have:=hfl k e;have:=hd.1;omega)).ext hW (fun k hk hd e=>by have:=hd.1;omega)).mono (fun k hk hd=>⟨by have:=hd.1;omega,hd.2⟩)
theorem fw_done {w wr W:World} {sb:Nat} {nv pv:Value} {xs:PX} {T A:List Nd} {k:Int} {word:ByteArray} {ps:List Nd} (hlt:∀ q,PF sb xs q->q < w.heap.size) (h:FW w sb nv xs T A k word pv ps ps.length wr) (hW:Ext (fun q=>q=w.heap.size+1) wr W) (hk:∀ t,isIt t k=false) {fv:Value} (hfv:wr.heap[w.heap.size+2]?=some (.cells #[.int .i64 k,.string word,.int .i64 0,fv] 112)):∃ T' A',AddsP T T' (subs true (.mk k word 0 ps))/\AddsP A A' (subs false (.mk k word 0 ps))/\FT W (fun q=>w.heap.size<=q) A' [.int .i64 k,.string word,.int .i64 0,fv] (.mk k word 0 ps)/\APost w sb nv xs T' A' W:=by
 obtain ⟨fv2,ys,hfv2,hown,hfq,ts',tm',at',am',T',A',h1,h2,h3,h4,_,kids,rfl,hl,hn,hkf⟩:=h.row
 rw [hfv] at hfv2
 obtain rfl:fv=fv2:=by simpa using hfv2
 have e:∀ t,subsAll t (ps.take ps.length)=subs t (.mk k word 0 ps):=by
  intro t
  rw [List.take_of_length_le (Nat.le_refl _),subs,if_neg (by rw [hk t];decide)]
  rfl
 have h2k:¬k=2:=by
  intro e2
  subst e2
  have:=hk false
  simp [isIt] at this
 refine ⟨T',A',h2.cast (e true),h3.cast (e false),.node h2k (own_ext hown hW (fun q hq e=>by have:=hfq q hq;omega)) hl hn (fun g hg=>by have:=hfq g hg;omega) (fun i cs p hi hp=>((hkf i cs p hi hp).ext hW (fun q _ hd e=>by have:=hd.1;omega)).mono (fun q _ hd=>by have:=hd.1;omega)),ts',tm',at',am',h1.ext hW (fun q hq e=>?_),h.ext.trans' hW (fun q hq e=>by omega),fun q hq=>(h4 q hq).imp id (fun e=>by omega)⟩
 rcases h4 q hq with e2 | e2
 ·have:=hlt q e2;omega
 ·omega
set_option maxRecDepth 100000 in
set_option maxHeartbeats 1000000 in
theorem fm_con {w:World} {sb:Nat} {nv:Value} {xs:PX} {T A:List Nd} {k:Int} {word:ByteArray} {ps:List Nd} {pa:Option Addr} {pc:Nat} {D:Nat->Prop} (h:PSt w sb nv xs T A) (hk2:(k == 2)=false) (hk:∀ t,isIt t k=false) (hlen:T.length+(subsAll true ps).length<=9000000) (hlen2:A.length+(subsAll false ps).length<=9000000) (hpl:ps.length<=9000000)
  (hkid:∀ (i:Nat) (p:Nd),ps[i]?=some p->∃ g k' wd' v' pa' pn' pc',pa=some ⟨g,0,none⟩/\g < w.heap.size/\D g/\w.cell? ⟨g,i * 4,none⟩=some (.int .i64 k')/\w.cell? ⟨g,i * 4+1,none⟩=some (.string wd')/\w.cell? ⟨g,i * 4+2,none⟩=some (.int .i64 v')/\w.cell? ⟨g,i * 4+3,none⟩=some (.slice pa' pn' pc')/\PN w D [.int .i64 k',.string wd',.int .i64 v',.slice pa' pn' pc'] p)
  (hDl:∀ k,D k->k < w.heap.size) (hDT:∀ k,D k->¬PF sb xs k) (hih:∀ p∈ps,FmIH sb nv p) :
  Calls Tryz.prog 73 #[.pointer (some ⟨sb,1,none⟩),.agg #[.int .i64 k,.string word,.int .i64 0,.slice pa ps.length pc]] w (FmPost w sb nv xs T A (.mk k word 0 ps)):=by
 have HLT:=hide h.lt
 have H:=hide h
 have HK:=hide hk
 have HLEN:=hide hlen
 have HLEN2:=hide hlen2
 have HKID:=hide hkid
 have HDL:=hide hDl
 have HDT:=hide hDT
 have HIH:=hide hih
 have hFW:FW w sb nv xs T A k word (.slice pa ps.length pc) ps 0 (((w.alloc (.cells #[.int .i64 k,.string word,.int .i64 0,.slice pa ps.length pc] 115)).alloc (.cells #[.int .i64 0,.string ⟨#[]⟩,.int .i64 0,.slice none 0 0] 112)).alloc (.cells #[.int .i64 k,.string word,.int .i64 0,.slice none 0 0] 112)):=by
  have hx:Ext (fun _=>False) w (((w.alloc (.cells #[.int .i64 k,.string word,.int .i64 0,.slice pa ps.length pc] 115)).alloc (.cells #[.int .i64 0,.string ⟨#[]⟩,.int .i64 0,.slice none 0 0] 112)).alloc (.cells #[.int .i64 k,.string word,.int .i64 0,.slice none 0 0] 112)):=(((Ext.refl _ w).alloc _).alloc _).alloc _
  refine ⟨hx.mono (fun _ _ f=>f.elim),?_,?_,.slice none 0 0,[],?_,World.ownsRow_nil _ _ _ _,fun q hq=>absurd hq (by simp [Value.ownBlock]),xs.ts,xs.tm,xs.at_,xs.am,T,A,h.ext hx (fun _ _ f=>f),AddsP.refl T,AddsP.refl A,fun q hq=>.inl hq,fun q hq=>absurd hq (by simp [Value.ownBlock]),[],rfl,by simp,rfl,by simp⟩
  ·rw [heap_alloc_old _ _ (by simp;omega),heap_alloc_old _ _ (by simp)];exact heap_alloc_new w _
  ·rw [heap_alloc_old _ _ (by simp)];exact heap_alloc2_new w _ _
  ·have e:=heap_alloc_new ((w.alloc (.cells #[.int .i64 k,.string word,.int .i64 0,.slice pa ps.length pc] 115)).alloc (.cells #[.int .i64 0,.string ⟨#[]⟩,.int .i64 0,.slice none 0 0] 112)) (.cells #[.int .i64 k,.string word,.int .i64 0,.slice none 0 0] 112)
   simpa using e
 have HFW:=hide hFW
 obtain ⟨i0,hi,hz0,hz1,hz2⟩:=info_parts infoFml
 have HI:Hid (Tryz.prog.info? 112=some i0/\i0.zero=some (.agg #[.int .i64 0,.string ByteArray.empty,.int .i64 0,.slice none 0 0])/\i0.size=4/\i0.bytes=56):=⟨hi,hz0,hz1,hz2⟩
 clear h hk hlen hlen2 hkid hDl hDT hih hFW hi hz0 hz1 hz2
 go_enter Tryz.func73,Tryz.ntmps73
 go_wp2_with fail
 go_loopw [23] (fun i wr=>∃ (j:Nat),j<=ps.length/\i=.int .i64 j/\FW w sb nv xs T A k word (.slice pa ps.length pc) ps j wr) (fun i _=>ps.length - (intOf i).toNat)
 case atStart=>exact ⟨0,Nat.zero_le _,rfl,HFW.out⟩
 case round =>
  clear HFW
  obtain ⟨j,hj,rfl,hfw⟩:=hrel
  have HFW:=hide hfw
  clear hfw
  by_cases hlt:j < ps.length
  ·obtain ⟨p,hp⟩:∃ p,ps[j]?=some p:=⟨_,List.getElem?_eq_getElem hlt⟩
   obtain ⟨g,k',wd',v',pa',pn',pc',rfl,hgl,hDg,z0,z1,z2,z3,hpn⟩:=HKID.out j p hp
   rw [<- HFW.out.ext.cell (p:=⟨g,j * 4,none⟩) hgl (HDT.out g hDg)] at z0
   rw [<- HFW.out.ext.cell (p:=⟨g,j * 4+1,none⟩) hgl (HDT.out g hDg)] at z1
   rw [<- HFW.out.ext.cell (p:=⟨g,j * 4+2,none⟩) hgl (HDT.out g hDg)] at z2
   rw [<- HFW.out.ext.cell (p:=⟨g,j * 4+3,none⟩) hgl (HDT.out g hDg)] at z3
   have HP:=hide hp
   have HPN:=hide hpn
   have HMEM:=hide (List.mem_of_getElem? hp)
   obtain ⟨fv,ys,hfv,hown,hfq,ts1,tm1,at1,am1,T1,A1,hps1,hT1,hA1,hf1,hfn,hkids⟩:=HFW.out.row
   obtain ⟨fa,fc,rfl⟩:=row_shape hown
   have HFV:=hide hfv
   have HOWN:=hide hown
   have HFQ:=hide hfq
   have HPS1:=hide hps1
   have HT1:=hide hT1
   have HA1:=hide hA1
   have HF1:=hide hf1
   have HFN:=hide hfn
   have HKI:=hide hkids
   clear hp hpn hgl hDg hfv hown hfq hps1 hT1 hA1 hf1 hfn hkids
   go_wp2_with fail
   obtain ⟨V,hV⟩:∃ V,wr.alloc (.cells #[.int .i64 k',.string wd',.int .i64 v',.slice pa' pn' pc'] 115)=V:=⟨_,rfl⟩
   have HXV:Hid (Ext (fun _=>False) wr V):=by rw [<- hV];exact (Ext.refl _ wr).alloc _
   have HXD:Hid (Ext (fun _=>False) wr V.drew):=HXV.out.drew
   have kP:V.heap[wr.heap.size]?=some (.cells #[.int .i64 k',.string wd',.int .i64 v',.slice pa' pn' pc'] 115):=by rw [<- hV];exact heap_alloc_new wr _
   have kT:V.heap[w.heap.size+1+1]?=some (.cells #[.int .i64 k,.string word,.int .i64 0,.slice fa j fc] 112):=(HXV.out.block _ (blt HFV.out) (fun f=>f)).trans HFV.out
   rw [hV]
   clear hV z0 z1 z2 z3
   have z0:=cob kP 0
   have z1:=cob kP 1
   have z2:=cob kP 2
   have z3:=cob kP 3
   have t3:=cob kT 3
   have hlT:=blt kT
   have KT:=hide kT
   have HC:=hide (HIH.out p HMEM.out V.drew _ T1 A1 D k' wd' v' pa' pn' pc' ((HPN.out.ext HFW.out.ext (fun k _ hd=>HDT.out k hd)).ext HXD.out (fun _ _ _ f=>f)) (fun k hd=>by have:=HDL.out k hd;have:=HFW.out.ext.size;have:=HXD.out.size;omega) (fun k hd hq=>by
    rcases HF1.out k hq with e | e
    ·exact HDT.out k hd e
    ·have:=HDL.out k hd;omega) (HPS1.out.ext HXD.out (fun _ _ f=>f)) (by
    have h1:=HT1.out.len
    have h2:=subs_upto true HP.out
    have h3:=HLEN.out
    omega) (by
    have h1:=HA1.out.len
    have h2:=subs_upto false HP.out
    have h3:=HLEN2.out
    omega))
   have hno:¬PF sb { xs with ts:=ts1,tm:=tm1,at_:=at1,am:=am1 } (w.heap.size+1+1):=fun hq=>by
    rcases HF1.out _ hq with e | e
    ·have:=HLT.out _ e;omega
    ·omega
   have HNO:=hide hno
   obtain ⟨hi,hz0,hz1,hz2⟩:=HI.out
   clear kP kT hno
   go_region_law (first | (refine step_append_lies _ (by rfl) _ _ _ (by rfl) 0 112 i0 _ 4 56 Tryz.underlying89 hi hz0 hz1 hz2 rfl (by omega) (.slice fa j fc) j ys (by rfl) (HO2.out.alloc _) ⟨w2.heap.size,0,none⟩ 1 1 [.int .i64 rk,.string rwd',.int .i64 ri,.slice rpa rpn rpc] (by rfl) (by rfl) (World.news_of_block (cs:=#[.int .i64 rk,.string rwd',.int .i64 ri,.slice rpa rpn rpc]) (t:=112) (fr:=(0,0)) (heap_alloc_new w2 _)) (by simp [Value.oneCell']) (by omega) (by unfold maxLen;omega) (by omega) (Nat.zero_le _) (w2.heap.size+1) (by simp) ?_;intro g3 cap3 w3 hown3 hgrow hat hlt3;have kb3:w3.heap[w.heap.size+1+1]?=some (.cells #[.int .i64 k,.string word,.int .i64 0,.slice fa j fc] 112):=(hgrow.block _ (by have:=blt KB2.out;simp;omega) (fun e=>by have:=HFQ.out _ e.symm;omega)).trans ((Below.heap_alloc w2 _ _ (blt KB2.out)).trans KB2.out);have d3:=cob kb3 3;have d3f:=fob kb3 3) | (go_simp;go_wp2_with (go_at_call 73;refine HC.out.mono ?_;rintro e w2 ⟨rk,rwd',ri,rpa,rpn,rpc,rfl,T2,A2,hT2,hA2,hft,ts2,tm2,at2,am2,k1,k2,k3⟩;have HFT:=hide hft;have KB2:Hid (w2.heap[w.heap.size+1+1]?=some (.cells #[.int .i64 k,.string word,.int .i64 0,.slice fa j fc] 112)):=(k2.block _ hlT HNO.out).trans KT.out;have c23:=cob KB2.out 3;have hl2:=blt KB2.out;have hne2:¬w.heap.size+1+1=w2.heap.size:=(by omega);have HO2:=hide (own_ext (own_ext HOWN.out HXD.out (fun _ _ f=>f)) k2 (fun q hq=>HFN.out q hq));have HK1:=hide k1;have HK2:=hide k2;have HK3:=hide k3;have HT2:=hide hT2;have HA2:=hide hA2;clear k1 k2 k3 hT2 hA2 hft)))
   all_goals
    have hfs:=fw_step HFW.out HLT.out HFV.out HOWN.out HFQ.out HT1.out HA1.out HF1.out HFN.out HXD.out HT2.out HA2.out HK1.out HK2.out HK3.out ((Ext.refl (fun _=>False) w2).alloc _) hgrow hown3 (hat.imp id (fun e=>by omega)) HP.out HPS1.out HKI.out HFT.out
    have HFS:=hide hfs
    clear hfs hown3 hgrow hat kb3
    go_wp2_with fail
    go_roundw
    case measure=>simp [intOf];omega
    case rel=>exact ⟨j+1,by omega,by go_num,HFS.out⟩
  ·have hjl:j=ps.length:=by omega
   subst hjl
   obtain ⟨fv,ys,hfv,hown,_⟩:=HFW.out.row
   obtain ⟨fa,fc,rfl⟩:=row_shape hown
   have kT:wr.heap[w.heap.size+1+1]?=some (.cells #[.int .i64 k,.string word,.int .i64 0,.slice fa ps.length fc] 112):=hfv
   have t0:=cob kT 0
   have t1:=cob kT 1
   have t2:=cob kT 2
   have t3:=cob kT 3
   have kR:=HFW.out.rbk
   have r0:=cob kR 0
   have r1:=cob kR 1
   have r2:=cob kR 2
   have r3:=cob kR 3
   have f0:=fob kR 0
   have f1:=fob kR 1
   have f2:=fob kR 2
   have f3:=fob kR 3
   have KT:=hide kT
   clear hfv hown kT kR
   go_wp2_with fail
   refine bodyPost_ret (v:=.agg #[.int .i64 k,.string word,.int .i64 0,.slice fa ps.length fc]) (by simp [results,Tryz.results73,go_sem,r0,r1,r2,r3]) rfl ?_
   refine ⟨k,word,0,fa,ps.length,fc,rfl,fw_done HLT.out HFW.out ?_ HK.out KT.out⟩
   exact (((((Ext.refl (fun q=>q=w.heap.size+1) wr).setCell (p:=⟨w.heap.size+1,0,none⟩) (fun _=>rfl) _).setCell (p:=⟨w.heap.size+1,1,none⟩) (fun _=>rfl) _).setCell (p:=⟨w.heap.size+1,2,none⟩) (fun _=>rfl) _).setCell (p:=⟨w.heap.size+1,3,none⟩) (fun _=>rfl) _)
theorem mparts_few {k v:Int} {w:ByteArray} {ps:List Nd}:ps.length<=(formOf (.mk k w v ps)).length:=by
 have h1:ps.length<=(formsOf ps).length:=by
  induction ps with
  | nil=>exact Nat.le_refl _
  | cons q qs ih=>simp only [formsOf,List.length_cons,List.length_append];omega
 have h2:(formsOf ps).length<=(formOf (.mk k w v ps)).length:=by
  rw [formOf]
  split
  ·simp only [List.length_cons,List.length_append];omega
  ·rename_i h
   have:ps=[]:=by
    cases ps with
    | nil=>rfl
    | cons p ps=>exact absurd (Or.inr (Or.inr (by simp))) h
   subst this
   simp [formsOf]
 omega
theorem part_few {k v:Int} {w:ByteArray} {ps:List Nd} {p:Nd} (hp:p∈ps):(formOf p).length<=(formOf (.mk k w v ps)).length:=by
 have h1:(formOf p).length<=(formsOf ps).length:=by
  induction ps with
  | nil=>exact absurd hp (by simp)
  | cons q qs ih =>
   simp only [formsOf,List.length_cons,List.length_append]
   rcases List.mem_cons.1 hp with rfl | h
   ·omega
   ·have:=ih h;omega
 rw [formOf,if_pos (Or.inr (Or.inr (by intro e;subst e;simp at hp)))]
 simp only [List.length_cons,List.length_append]
 omega
theorem formula_any {sb:Nat} {nv:Value}:∀ {f:Nd},FmOk f->(formOf f).length<=1000000->FmIH sb nv f:=by
 intro f hf
 induction hf with
 | @truth word hw =>
  intro _ w xs T A D k' wd' v' pa' pn' pc' hpn hDl hDT hps hl1 hl2
  cases hpn with
  | @mk _ _ _ _ _ kids how hkl hkn hD hk =>
   obtain ⟨a,cap,hv,_,_,hkid⟩:=pkid_at how hkl hkn hD hk
   cases hv
   exact fm_con hps (by decide) (fun t=>by cases t <;> rfl) (by simp [subsAll];omega) (by simp [subsAll];omega) (by simp) hkid hDl hDT (fun p hp=>absurd hp (by simp))
 | @con word ps hw hp ih =>
  intro hfl w xs T A D k' wd' v' pa' pn' pc' hpn hDl hDT hps hl1 hl2
  cases hpn with
  | @mk _ _ _ _ _ kids how hkl hkn hD hk =>
   obtain ⟨a,cap,hv,_,_,hkid⟩:=pkid_at how hkl hkn hD hk
   cases hv
   have e:∀ t,subs t (.mk 1 word 0 ps)=subsAll t ps:=by
    intro t
    rw [subs,if_neg (by cases t <;> decide)]
    rfl
   rw [e] at hl1 hl2
   have:=mparts_few (k:=1) (v:=0) (w:=word) (ps:=ps)
   exact fm_con hps (by decide) (fun t=>by cases t <;> rfl) hl1 hl2 (by omega) hkid hDl hDT (fun p hpp=>ih p hpp (by have:=part_few (k:=1) (v:=0) (w:=word) hpp;omega))
 | @two word a b hw ha hb =>
  intro _ w xs T A D k' wd' v' pa' pn' pc' hpn hDl hDT hps hl1 hl2
  have hpn2:=hpn
  cases hpn
  exact fm_atom (.two hw ha hb) ha hb (.inl rfl) hpn2 hDl hDT hps hl1 hl2
 | @le word a b v hw ha hb h1 h2 =>
  intro _ w xs T A D k' wd' v' pa' pn' pc' hpn hDl hDT hps hl1 hl2
  have hpn2:=hpn
  cases hpn
  exact fm_atom (.le hw ha hb h1 h2) ha hb (.inr ⟨v,rfl,h1,h2⟩) hpn2 hDl hDT hps hl1 hl2
theorem row_len {w:World} {e size n:Nat} {v:Value} {xs:List Value} (h:w.ownsRow 0 e size v n xs):∃ a cap,v=.slice a n cap:=row_shape h
set_option maxRecDepth 100000 in
set_option maxHeartbeats 1000000 in
theorem psize_any {w:World} {sb:Nat} {nv:Value} {xs:PX} {T A:List Nd} (h:PSt w sb nv xs T A) :
  Calls Tryz.prog 41 #[.pointer (some ⟨sb,1,none⟩)] w fun e w'=>e=.returned (.agg #[.int .i64 T.length,.int .i64 A.length])/\Ext (fun _=>False) w w':=by
 obtain ⟨ta,tc,ht⟩:=row_shape h.ts.row.own
 obtain ⟨aa,ac,ha⟩:=row_shape h.ar.own
 rw [keys_len] at ht
 rw [keysA_len] at ha
 have kb:=h.ts.blk
 rw [ht,ha] at kb
 have hsb:=blt kb
 have c1:=cob kb 1
 have c3:=cob kb 3
 have hne:¬sb=w.heap.size:=by omega
 have HX:Hid (Ext (fun _=>False) w (w.alloc (.cells #[.int .i64 0,.int .i64 0] 103))):=(Ext.refl _ w).alloc _
 have kr:=heap_alloc_new w (.cells #[.int .i64 0,.int .i64 0] 103)
 have r0:=cob kr 0
 have r1:=cob kr 1
 have f0:=fob kr 0
 have f1:=fob kr 1
 clear h kb ht ha kr
 go_enter Tryz.func41,Tryz.ntmps41
 go_wp2_with fail
 go_region
 all_goals
  go_wp2_with fail
  refine bodyPost_ret (v:=.agg #[.int .i64 T.length,.int .i64 A.length]) (by simp [results,Tryz.results41,go_sem]) rfl ⟨rfl,?_⟩
  exact ((Ext.refl _ w).alloc _).drew
set_option maxHeartbeats 400000 in
theorem great_any (n m:Nat) (w:World) (hn:n<=100000000) (hm:m<=100000000) :
  Calls Tryz.prog 74 #[.agg #[.int .i64 n,.int .i64 m]] w fun e w'=>e=.returned (.int .i64 (if 12 < n then 9 else if 16 < m then 10 else 0))/\Ext (fun _=>False) w w':=by
 have HX:Hid (Ext (fun _=>False) w (w.alloc (.cells #[.int .i64 n,.int .i64 m] 103))):=(Ext.refl _ w).alloc _
 by_cases h1:12 < n
 ·go_enter Tryz.func74,Tryz.ntmps74
  go_wp2_with fail
  go_ret
  exact ⟨rfl,HX.out⟩
 by_cases h2:16 < m
 ·go_enter Tryz.func74,Tryz.ntmps74
  go_wp2_with fail
  go_ret
  exact ⟨rfl,HX.out⟩
 ·go_enter Tryz.func74,Tryz.ntmps74
  go_wp2_with fail
  go_ret
  exact ⟨rfl,HX.out⟩
theorem pst_cut {w w1 w2:World} {sb n m:Nat} {nv:Value} {xs:PX} {T A:List Nd} {tv' av':Value} (h:PSt w sb nv xs T A) (hac:AC (T.take n) (A.take m)) (k1:w2.heap[sb]?=some (.cells #[nv,tv',xs.tm,av',xs.am,xs.fs,xs.ks,xs.vd,xs.ml] 98)) (ht:TRow w1 tv' xs.tm ((keys T).take n)) (hE1:Ext (fun k=>k=sb\/xs.ts.ownBlock=some k\/mapB xs.tm=some k) w w1) (ho1:tv'.ownBlock=xs.ts.ownBlock)
  (ha:ARow w2 av' xs.am ((keysA T A).take m)) (hE2:Ext (fun k=>k=sb\/xs.at_.ownBlock=some k\/mapB xs.am=some k) w1 w2) (ho2:av'.ownBlock=xs.at_.ownBlock):APost w sb nv xs (T.take n) (A.take m) w2:=by
 have htf:∀ k,TF sb { xs with ts:=tv',tm:=xs.tm,at_:=av',am:=xs.am } k->TF sb xs k:=by
  rintro k (e | e | e)
  ·exact .inl e
  ·exact .inr (.inl (ho1 ▸ e))
  ·exact .inr (.inr e)
 refine ⟨tv',xs.tm,av',xs.am,⟨⟨k1,?_,h.ts.cl.take n,h.ts.nd.sublist (List.take_sublist n T),fun k hk=>h.ts.s1 k (ho1 ▸ hk),h.ts.s2⟩,?_,hac,h.nd.sublist (List.take_sublist m A),fun k hk=>h.s3 k (ho2 ▸ hk),h.s4,fun k hk=>?_⟩,?_,?_⟩
 ·rw [keys_take h.ts.cl]
  refine ht.ext hE2 ?_ ?_
  ·rintro g hg (e | e | e)
   ·exact h.ts.s1 g (ho1 ▸ hg) e
   ·exact (h.ap g (.inr (.inl (ho1 ▸ hg)))).1 e
   ·exact (h.ap g (.inr (.inl (ho1 ▸ hg)))).2 e
  ·rintro g hg (e | e | e)
   ·exact h.ts.s2 g hg e
   ·exact (h.ap g (.inr (.inr hg))).1 e
   ·exact (h.ap g (.inr (.inr hg))).2 e
 ·rw [keysA_take m n hac]
  exact ha
 ·have:=h.ap k (htf k hk)
  exact ⟨fun e=>this.1 (ho2 ▸ e),this.2⟩
 ·exact (hE1.mono (fun _ _ e=>Or.inl e)).trans' hE2 (fun k _ e=>e.elim (fun e=>.inl (.inl e)) (fun e=>.inr e))
 ·rintro k (e | e | e)
  ·exact .inl (.inl (htf k e))
  ·exact .inl (.inr (.inl (ho2 ▸ e)))
  ·exact .inl (.inr (.inr e))
set_option maxRecDepth 100000 in
set_option maxHeartbeats 1000000 in
theorem pcut_any {w:World} {sb n m:Nat} {nv:Value} {xs:PX} {T A:List Nd} (h:PSt w sb nv xs T A) (hn:n<=T.length) (hm:m<=A.length) (hl:T.length<=10000000) (hl2:A.length<=10000000) (hac:AC (T.take n) (A.take m)) :
  Calls Tryz.prog 44 #[.pointer (some ⟨sb,1,none⟩),.agg #[.int .i64 n,.int .i64 m]] w fun e w'=>e=.returned (.tuple #[])/\APost w sb nv xs (T.take n) (A.take m) w':=by
 have H:=hide h
 have HAC:=hide hac
 obtain ⟨V,hV⟩:∃ V,w.alloc (.cells #[.int .i64 n,.int .i64 m] 103)=V:=⟨_,rfl⟩
 have hxV:Ext (fun _=>False) w V:=by rw [<- hV];exact (Ext.refl _ w).alloc _
 have kS:V.heap[w.heap.size]?=some (.cells #[.int .i64 n,.int .i64 m] 103):=by rw [<- hV];exact heap_alloc_new w _
 have hV2:=h.ext hxV.drew (fun _ _ f=>f)
 have HC:=hide (cut_tm_any n hV2.ts.blk hV2.ts.row hV2.ts.s1 hV2.ts.s2 (by rw [keys_len];exact hl) (by rw [keys_len];exact hn))
 have hlt:=h.lt
 have HV:=hide hV
 have HXV:=hide hxV
 have KS:=hide kS
 have HLT:=hide hlt
 have hsb:=blt h.ts.blk
 clear h hac hxV hV2 hlt
 have s0:=cob kS 0
 have s1:=cob kS 1
 clear kS hV
 go_enter Tryz.func44,Tryz.ntmps44
 go_wp2_with fail
 rw [HV.out]
 go_region_law (go_simp;go_wp2_with (go_at_call 65;refine HC.out.mono ?_;rintro e w1 ⟨rfl,tv',k1,k2,k3,k4⟩;have KS1:Hid (w1.heap[w.heap.size]?=some (.cells #[.int .i64 n,.int .i64 m] 103)):=(k3.block _ (blt KS.out) (fun hq=>by have:=HLT.out _ (Or.inl hq);omega)).trans KS.out;have s1':=cob KS1.out 1;have K1:=hide k1;have K2:=hide k2;have K3:=hide k3;have K4:=hide k4;clear k1 k2 k3 k4))
 all_goals
  have har:ARow w1.drew xs.at_ xs.am (keysA T A):=by
   refine (H.out.ar.ext (HXV.out.drew) (fun _ _ f=>f) (fun _ _ f=>f)).ext K3.out.drew ?_ ?_
   ·rintro g hg (e | e | e)
    ·exact H.out.s3 g hg e
    ·exact (H.out.ap g (.inr (.inl e))).1 hg
    ·exact (H.out.ap g (.inr (.inr e))).1 hg
   ·rintro g hg (e | e | e)
    ·exact H.out.s4 g hg e
    ·exact (H.out.ap g (.inr (.inl e))).2 hg
    ·exact (H.out.ap g (.inr (.inr e))).2 hg
  have HC2:=hide (cut_at_any (xs := { xs with ts:=tv' }) (w:=w1.drew) m K1.out har H.out.s3 H.out.s4 (by rw [keysA_len];exact hl2) (by rw [keysA_len];exact hm))
  clear har
  go_wp2_with fail
  go_region_law (go_simp;go_wp2_with (go_at_call 66;refine HC2.out.mono ?_;rintro e w2 ⟨rfl,av',q1,q2,q3,q4⟩;have Q1:=hide q1;have Q2:=hide q2;have Q3:=hide q3;have Q4:=hide q4;clear q1 q2 q3 q4))
  all_goals
   go_wp2_with fail
   go_end0
   refine ⟨rfl,?_⟩
   exact pst_cut H.out HAC.out Q1.out K2.out ((HXV.out.drew.mono (fun _ _ f=>f.elim)).trans K3.out) K4.out Q2.out (((Ext.refl _ w1).drew).trans Q3.out) Q4.out
def tkCode (n m:Nat):Int:=if 12 < n then 9 else if 16 < m then 10 else 0
def TkPost (w:World) (sb:Nat) (nv:Value) (xs:PX) (T A:List Nd) (f:Nd) (e:Ending) (w':World):Prop :=
 ∃ T' A',AddsP T T' (subs true f)/\AddsP A A' (subs false f)/\∃ k wd i pa pn pc,e=.returned (.tuple #[.agg #[.int .i64 k,.string wd,.int .i64 i,.slice pa pn pc],.int .i64 (tkCode T'.length A'.length)])/\(tkCode T'.length A'.length=0->FT w' (fun q=>w.heap.size<=q) A' [.int .i64 k,.string wd,.int .i64 i,.slice pa pn pc] f) /\
  APost w sb nv xs (if tkCode T'.length A'.length=0 then T' else T) (if tkCode T'.length A'.length=0 then A' else A) w'
theorem pre_take {T T':List Nd} (h:T <+: T'):T'.take T.length=T:=by
 obtain ⟨r,rfl⟩:=h
 simp
theorem apost_more {w V w2 W:World} {sb:Nat} {nv:Value} {xs:PX} {T' A':List Nd} (hxV:Ext (fun _=>False) w V) (hlt:∀ k,PF sb xs k->k < w.heap.size) (h:APost V sb nv xs T' A' w2) (hW:Ext (fun k=>w.heap.size<=k/\k < V.heap.size) w2 W):APost w sb nv xs T' A' W:=by
 obtain ⟨a,b,c,d,k1,k2,k3⟩:=h
 refine ⟨a,b,c,d,k1.ext hW (fun k hk e=>?_),((hxV.mono (fun _ _ f=>f.elim)).trans k2).trans' hW (fun k hk e=>by omega),fun k hk=>(k3 k hk).imp id (fun e=>by have:=hxV.size;omega)⟩
 rcases k3 k hk with h | h
 ·have:=hlt k h;omega
 ·omega
theorem apost_trans {w w1 w2:World} {sb:Nat} {nv:Value} {xs:PX} {T' A':List Nd} {ts1 tm1 at1 am1:Value} (h1:Ext (PF sb xs) w w1) (h3:∀ k,PF sb { xs with ts:=ts1,tm:=tm1,at_:=at1,am:=am1 } k->PF sb xs k\/w.heap.size<=k) (h:APost w1 sb nv { xs with ts:=ts1,tm:=tm1,at_:=at1,am:=am1 } T' A' w2):APost w sb nv xs T' A' w2:=by
 obtain ⟨a,b,c,d,k1,k2,k3⟩:=h
 refine ⟨a,b,c,d,k1,h1.trans' k2 (fun k hk e=>?_),fun k hk=>?_⟩
 ·rcases h3 k e with e | e
  ·exact e
  ·omega
 ·rcases k3 k hk with e | e
  ·exact h3 k e
  ·have:=h1.size;exact .inr (by omega)
set_option maxRecDepth 100000 in
set_option maxHeartbeats 1000000 in
theorem ptake_any {w:World} {sb:Nat} {nv:Value} {xs:PX} {T A:List Nd} {f:Nd} {D:Nat->Prop} {k':Int} {wd':ByteArray} {v':Int} {pa':Option Addr} {pn' pc':Nat} (hf:FmOk f) (hfl:(formOf f).length<=1000000) (hpn:PN w D [.int .i64 k',.string wd',.int .i64 v',.slice pa' pn' pc'] f) (hDl:∀ k,D k->k < w.heap.size) (hDT:∀ k,D k->¬PF sb xs k) (h:PSt w sb nv xs T A) (hT:T.length<=12) (hA:A.length<=16) :
  Calls Tryz.prog 48 #[.pointer (some ⟨sb,1,none⟩),.agg #[.int .i64 k',.string wd',.int .i64 v',.slice pa' pn' pc']] w (TkPost w sb nv xs T A f):=by
 have hft:=form_few hf true
 have hff:=form_few hf false
 have HLT:=hide h.lt
 have H:=hide h
 have HF:=hide hf
 have HFL:=hide hfl
 have HPN:=hide hpn
 have HDL:=hide hDl
 have HDT:=hide hDT
 obtain ⟨V1,hV1⟩:∃ V1,(w.alloc (.cells #[.int .i64 k',.string wd',.int .i64 v',.slice pa' pn' pc'] 115)).alloc (.cells #[.int .i64 0,.string ⟨#[]⟩,.int .i64 0,.slice none 0 0] 112)=V1:=⟨_,rfl⟩
 have HX1:Hid (Ext (fun _=>False) w V1):=by rw [<- hV1];exact ((Ext.refl _ w).alloc _).alloc _
 have kN:V1.heap[w.heap.size]?=some (.cells #[.int .i64 k',.string wd',.int .i64 v',.slice pa' pn' pc'] 115):=by rw [<- hV1,heap_alloc_old _ _ (by simp)];exact heap_alloc_new w _
 have kR:V1.heap[w.heap.size+1]?=some (.cells #[.int .i64 0,.string ⟨#[]⟩,.int .i64 0,.slice none 0 0] 112):=by rw [<- hV1];exact heap_alloc2_new w _ _
 have hV1s:V1.heap.size=w.heap.size+2:=by rw [<- hV1];simp
 have HV1:=hide hV1
 have KN:=hide kN
 have KR:=hide kR
 have HC1:=hide (psize_any (h.ext HX1.out (fun _ _ f=>f)))
 clear h hf hpn hDl hDT hV1 kN kR
 go_enter Tryz.func48,Tryz.ntmps48
 go_wp2_with fail
 rw [HV1.out]
 refine HC1.out.mono ?_
 rintro e w1 ⟨rfl,hx1⟩
 have HXW1:=hide hx1
 obtain ⟨V2,hV2⟩:∃ V2,w1.alloc (.cells #[.int .i64 T.length,.int .i64 A.length] 103)=V2:=⟨_,rfl⟩
 have HX2:Hid (Ext (fun _=>False) w1 V2):=by rw [<- hV2];exact (Ext.refl _ w1).alloc _
 have kZ:V2.heap[w1.heap.size]?=some (.cells #[.int .i64 T.length,.int .i64 A.length] 103):=by rw [<- hV2];exact heap_alloc_new w1 _
 have kN1:w1.heap[w.heap.size]?=some (.cells #[.int .i64 k',.string wd',.int .i64 v',.slice pa' pn' pc'] 115):=(hx1.block _ (blt KN.out) (fun f=>f)).trans KN.out
 have HV2:=hide hV2
 have KZ:=hide kZ
 have hs1:=hx1.size
 have hV2s:V2.heap.size=w1.heap.size+1:=by rw [<- hV2];simp
 have n0:=cob kN1 0
 have n1:=cob kN1 1
 have n2:=cob kN1 2
 have n3:=cob kN1 3
 have HXA:Hid (Ext (fun _=>False) w V2):=(HX1.out.trans hx1).trans HX2.out
 have hnl:w.heap.size < w1.heap.size:=by omega
 have hnw:¬w.heap.size=w1.heap.size:=by omega
 have hc2:=formula_any (sb:=sb) (nv:=nv) HF.out HFL.out V2 xs T A D k' wd' v' pa' pn' pc' (HPN.out.ext HXA.out (fun _ _ _ f=>f)) (fun k hd=>by have:=HDL.out k hd;omega) HDT.out (H.out.ext HXA.out (fun _ _ f=>f)) (by omega) (by omega)
 have HC2:=hide hc2
 have hx1':=hide hx1
 clear hx1 hV2 kZ kN1 HC1 hc2
 go_wp2_with fail
 rw [HV2.out]
 refine HC2.out.mono ?_
 rintro e w2 ⟨rk,rw',ri,rpa,rpn,rpc,rfl,T2,A2,hT2,hA2,hft,ts2,tm2,at2,am2,k1,k2,k3⟩
 have HFT:=hide hft
 clear hft
 have hs2:=k2.size
 obtain ⟨V3,hV3⟩:∃ V3,w2.alloc (.cells #[.int .i64 rk,.string rw',.int .i64 ri,.slice rpa rpn rpc] 112)=V3:=⟨_,rfl⟩
 have HX3:Hid (Ext (fun _=>False) w2 V3):=by rw [<- hV3];exact (Ext.refl _ w2).alloc _
 have kF:V3.heap[w2.heap.size]?=some (.cells #[.int .i64 rk,.string rw',.int .i64 ri,.slice rpa rpn rpc] 112):=by rw [<- hV3];exact heap_alloc_new w2 _
 have hno:∀ q,w.heap.size<=q->q < V2.heap.size->¬PF sb xs q:=fun q h1 _ hq=>by have:=HLT.out q hq;omega
 have kR3:V3.heap[w.heap.size+1]?=some (.cells #[.int .i64 0,.string ⟨#[]⟩,.int .i64 0,.slice none 0 0] 112):=(HX3.out.block _ (by omega) (fun f=>f)).trans ((k2.block _ (by omega) (hno _ (by omega) (by omega))).trans (((hx1'.out.trans HX2.out).block _ (by omega) (fun f=>f)).trans KR.out))
 have kZ3:V3.heap[w1.heap.size]?=some (.cells #[.int .i64 T.length,.int .i64 A.length] 103):=(HX3.out.block _ (by omega) (fun f=>f)).trans ((k2.block _ (by omega) (hno _ (by omega) (by omega))).trans KZ.out)
 have HC3:=hide (psize_any (k1.ext HX3.out (fun _ _ f=>f)))
 have HV3:=hide hV3
 have KF:=hide kF
 have KR3:=hide kR3
 have KZ3:=hide kZ3
 have HT2:=hide hT2
 have HA2:=hide hA2
 have K1:=hide k1
 have K2:=hide k2
 have K3:=hide k3
 have hlT:=hT2.len
 have hlA:=hA2.len
 have hs3:=HX3.out.size
 clear hV3 kF kR3 kZ3 hT2 hA2 k1 k2 k3 hno n0 n1 n2 n3 HC2
 go_wp2_with fail
 rw [HV3.out]
 refine HC3.out.mono ?_
 rintro e w3 ⟨rfl,hx3⟩
 have HX3':=hide hx3
 have hs4:=hx3.size
 clear hx3 HC3
 go_wp2_with fail
 refine (great_any T2.length A2.length w3 (by omega) (by omega)).mono ?_
 rintro e w4 ⟨rfl,hx4⟩
 obtain ⟨cd,hcd⟩:∃ cd,(if 12 < T2.length then 9 else if 16 < A2.length then 10 else 0:Int)=cd:=⟨_,rfl⟩
 have HX4:Hid (Ext (fun _=>False) V3 w4):=HX3'.out.trans hx4
 have hs5:=hx4.size
 have kF4:=(HX4.out.block _ (blt KF.out) (fun f=>f)).trans KF.out
 have kR4:=(HX4.out.block _ (blt KR3.out) (fun f=>f)).trans KR3.out
 have kZ4:=(HX4.out.block _ (blt KZ3.out) (fun f=>f)).trans KZ3.out
 have HPS4:=hide (K1.out.ext (HX3.out.trans HX4.out) (fun _ _ f=>f))
 have HCD:Hid (tkCode T2.length A2.length=cd):=hcd
 rw [hcd]
 clear hx4 hcd
 by_cases hc0:cd=0
 ·subst hc0
  have f0:=cob kF4 0
  have f1:=cob kF4 1
  have f2:=cob kF4 2
  have f3:=cob kF4 3
  have r0:=cob kR4 0
  have r1:=cob kR4 1
  have r2:=cob kR4 2
  have r3:=cob kR4 3
  have g0:=fob kR4 0
  have g1:=fob kR4 1
  have g2:=fob kR4 2
  have g3:=fob kR4 3
  clear kF4 kR4 kZ4
  go_wp2_with fail
  refine bodyPost_ret (v:=.tuple #[.agg #[.int .i64 rk,.string rw',.int .i64 ri,.slice rpa rpn rpc],.int .i64 0]) (by simp [results,Tryz.results48,go_sem,r0,r1,r2,r3]) rfl ?_
  have hSS:w.heap.size<=w.heap.size+1/\w.heap.size+1 < V2.heap.size:=⟨by omega,by omega⟩
  refine ⟨T2,A2,HT2.out,HA2.out,rk,rw',ri,rpa,rpn,rpc,by rw [HCD.out],fun _=>?_,?_⟩
  ·refine (((HFT.out.ext (HX3.out.trans HX4.out) (fun _ _ _ f=>f)).ext (S:=fun k=>w.heap.size<=k/\k < V2.heap.size) ?_ (fun k _ h1 h2=>by omega)).mono (fun k _ h1=>by omega))
   exact (((((Ext.refl (fun k=>w.heap.size<=k/\k < V2.heap.size) w4).setCell (p:=⟨w.heap.size+1,0,none⟩) (fun _=>hSS) _).setCell (p:=⟨w.heap.size+1,1,none⟩) (fun _=>hSS) _).setCell (p:=⟨w.heap.size+1,2,none⟩) (fun _=>hSS) _).setCell (p:=⟨w.heap.size+1,3,none⟩) (fun _=>hSS) _)
  rw [HCD.out,if_pos rfl,if_pos rfl]
  refine apost_more HXA.out HLT.out ⟨ts2,tm2,at2,am2,HPS4.out,K2.out.trans ((HX3.out.trans HX4.out).mono (fun _ _ f=>f.elim)),K3.out⟩ ?_
  exact (((((Ext.refl (fun k=>w.heap.size<=k/\k < V2.heap.size) w4).setCell (p:=⟨w.heap.size+1,0,none⟩) (fun _=>hSS) _).setCell (p:=⟨w.heap.size+1,1,none⟩) (fun _=>hSS) _).setCell (p:=⟨w.heap.size+1,2,none⟩) (fun _=>hSS) _).setCell (p:=⟨w.heap.size+1,3,none⟩) (fun _=>hSS) _)
 ·have hc0':(cd == 0)=false:=by simpa using hc0
  have z0:=cob kZ4 0
  have z1:=cob kZ4 1
  have hpt:T2.take T.length=T:=pre_take HT2.out.pre
  have hpa:A2.take A.length=A:=pre_take HA2.out.pre
  have hac:AC (T2.take T.length) (A2.take A.length):=by rw [hpt,hpa];exact H.out.ac
  have hc4:=pcut_any (n:=T.length) (m:=A.length) HPS4.out HT2.out.pre.length_le HA2.out.pre.length_le (by omega) (by omega) hac
  rw [hpt,hpa] at hc4
  have HC4:=hide hc4
  have KR4:=hide kR4
  clear hc4 hpt hpa hac kF4 kR4 kZ4
  go_wp2_with fail
  refine HC4.out.mono ?_
  rintro e w5 ⟨rfl,hap⟩
  have hap2:=apost_trans (K2.out.trans ((HX3.out.trans HX4.out).mono (fun _ _ f=>f.elim))) K3.out hap
  obtain ⟨q1,q2,q3,q4,j1,j2,j3⟩:=hap2
  have kR5:w5.heap[w.heap.size+1]?=some (.cells #[.int .i64 0,.string ⟨#[]⟩,.int .i64 0,.slice none 0 0] 112):=(j2.block _ (by omega) (fun hq=>by have:=HLT.out _ hq;omega)).trans (((hx1'.out.trans HX2.out).block _ (by omega) (fun f=>f)).trans KR.out)
  have r0:=cob kR5 0
  have r1:=cob kR5 1
  have r2:=cob kR5 2
  have r3:=cob kR5 3
  have g0:=fob kR5 0
  have g1:=fob kR5 1
  have g2:=fob kR5 2
  have g3:=fob kR5 3
  have J1:=hide j1
  have J2:=hide j2
  have J3:=hide j3
  clear hap j1 j2 j3 kR5 z0 z1
  go_wp2_with fail
  refine bodyPost_ret (v:=.tuple #[.agg #[.int .i64 0,.string ⟨#[]⟩,.int .i64 0,.slice none 0 0],.int .i64 cd]) (by simp [results,Tryz.results48,go_sem,r0,r1,r2,r3]) rfl ?_
  refine ⟨T2,A2,HT2.out,HA2.out,0,⟨#[]⟩,0,none,0,0,by rw [HCD.out],fun e=>absurd (HCD.out.symm.trans e) hc0,?_⟩
  rw [HCD.out,if_neg hc0,if_neg hc0]
  have hSS:w.heap.size<=w.heap.size+1/\w.heap.size+1 < V2.heap.size:=⟨by omega,by omega⟩
  refine apost_more HXA.out HLT.out ⟨q1,q2,q3,q4,J1.out,J2.out,J3.out⟩ ?_
  exact (((((Ext.refl (fun k=>w.heap.size<=k/\k < V2.heap.size) w5).setCell (p:=⟨w.heap.size+1,0,none⟩) (fun _=>hSS) _).setCell (p:=⟨w.heap.size+1,1,none⟩) (fun _=>hSS) _).setCell (p:=⟨w.heap.size+1,2,none⟩) (fun _=>hSS) _).setCell (p:=⟨w.heap.size+1,3,none⟩) (fun _=>hSS) _)
end Go.Proofs.YtegbdaffhpiacaaGreatDoor
