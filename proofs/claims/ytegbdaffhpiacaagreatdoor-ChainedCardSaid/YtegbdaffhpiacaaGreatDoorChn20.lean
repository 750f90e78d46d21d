/- The program: a term with arguments is taken in; The program's row of atoms: finding one, or taking it in; The program's rows that keep things once each: the last ones are taken back; The keys of atoms in the program's row of atoms; a session's pool. -/
import Derived.Test.YtegbdaffhpiacaaGreatDoorChn19
namespace Go.Proofs.YtegbdaffhpiacaaGreatDoor
open Go.RowKit Go.Maps Ar
theorem addTs_append (T:List Nd) (ps qs:List Nd):addTs T (ps++qs)=addTs (addTs T ps) qs:=by
 induction ps generalizing T with
 | nil=>simp [addTs]
 | cons p ps ih=>simp [addTs,ih]
theorem adds_terms:∀ {qs:List Nd},(∀ q∈qs,TmOk q)->∀ T,∃ xs,Adds T (addTs T qs) xs/\(∀ y,y∈xs↔y∈subsAll true qs)/\xs.length=(subsAll true qs).length
 | [],_,T=>⟨[],by simp only [addTs];exact Adds.refl T,fun y=>by simp [subsAll],rfl⟩
 | q :: qs,hq,T=>by
  obtain ⟨xs,h1,h2,h3⟩:=adds_term (hq q (by simp)) T
  obtain ⟨ys,k1,k2,k3⟩:=adds_terms (qs:=qs) (fun r hr=>hq r (List.mem_cons_of_mem _ hr)) (addT T q)
  refine ⟨xs++ys,?_,fun y=>by simp only [subsAll,List.mem_append,h2,k2],by simp only [subsAll,List.length_append,h3,k3]⟩
  simp only [addTs]
  exact h1.trans k1
theorem addTs_pre {ps:List Nd} (hp:∀ p∈ps,TmOk p) (T:List Nd) (j:Nat):addTs T (ps.take j) <+: addTs T ps:=by
 have e:addTs T ps=addTs (addTs T (ps.take j)) (ps.drop j):=by rw [<- addTs_append,List.take_append_drop]
 obtain ⟨xs,h,_⟩:=adds_terms (qs:=ps.drop j) (fun q hq=>hp q (List.mem_of_mem_drop hq)) (addTs T (ps.take j))
 rw [e]
 exact h.pre
theorem addTs_len {ps:List Nd} (hp:∀ p∈ps,TmOk p) (T:List Nd):(addTs T ps).length<=T.length+(subsAll true ps).length:=by
 obtain ⟨xs,h,_,h3⟩:=adds_terms hp T
 have:=h.len
 omega
theorem subs_upto (t:Bool) {qs:List Nd} {j:Nat} {p:Nd} (h:qs[j]?=some p):(subsAll t (qs.take j)).length+(subs t p).length<=(subsAll t qs).length:=by
 have h1:subsAll t (qs.take (j+1))=subsAll t (qs.take j)++subs t p:=by
  rw [List.take_add_one,h,subsAll_append]
  simp [subsAll]
 have h2:subsAll t qs=subsAll t (qs.take (j+1))++subsAll t (qs.drop (j+1)):=by rw [<- subsAll_append,List.take_append_drop]
 rw [h2,h1]
 simp only [List.length_append]
 omega
theorem term_self {p:Nd} (h:TmOk p):p∈subs true p:=by cases h <;> simp [subs,isIt]
theorem addTs_mem {ps:List Nd} (hp:∀ p∈ps,TmOk p) (T:List Nd):∀ p∈ps,p∈addTs T ps:=by
 intro p hpp
 obtain ⟨xs,h,h2,_⟩:=adds_terms hp T
 rw [h.mem,h2,mem_subsAll]
 exact .inr ⟨p,hpp,term_self (hp p hpp)⟩
theorem arg_place {ps:List Nd} (hp:∀ p∈ps,TmOk p) {T:List Nd} {j:Nat} {p:Nd} (h:ps[j]?=some p):(idx (addT (addTs T (ps.take j)) p) p:Int)=ix (addTs T ps) ps j:=by
 have e:addT (addTs T (ps.take j)) p=addTs T (ps.take (j+1)):=by rw [List.take_add_one,h];exact (addTs_snoc T _ p).symm
 unfold ix
 rw [h]
 simp only
 rw [idx_pre (addTs_pre hp T (j+1)) (by rw [<- e];exact addT_self _ p),<- e]
def ThIH (sb:Nat) (nv:Value) (p:Nd):Prop:=∀ (w:World) (xs:PX) (T:List Nd) (D:Nat->Prop) (k':Int) (wd':ByteArray) (v':Int) (pa':Option Addr) (pn' pc':Nat),PN w D [.int .i64 k',.string wd',.int .i64 v',.slice pa' pn' pc'] p->(∀ k,D k->k < w.heap.size)->(∀ k,D k->¬TF sb xs k)->TS w sb nv xs T->T.length+(subs true p).length<=9000000 ->
 Calls Tryz.prog 148 #[.pointer (some ⟨sb,1,none⟩),.agg #[.int .i64 k',.string wd',.int .i64 v',.slice pa' pn' pc']] w (TPost w sb nv xs (addT T p) (idx (addT T p) p))
theorem tw_step {w wr V w2:World} {sb:Nat} {nv pv:Value} {xs:PX} {T:List Nd} {k v:Int} {word:ByteArray} {ps:List Nd} {j:Nat} {p:Nd} {ts1 tm1 ts2 tm2:Value} (hps:∀ p∈ps,TmOk p) (h:TW2 w sb w.heap.size (w.heap.size+1) nv xs T k v word pv ps j wr) (hlt:∀ q,TF sb xs q->q < w.heap.size) (hl:w.heap.size+2<=wr.heap.size) (hx:Ext (fun _=>False) wr V)
  (hf1:∀ q,TF sb { xs with ts:=ts1,tm:=tm1 } q->TF sb xs q\/w.heap.size+2<=q) (h2:TS w2 sb nv { xs with ts:=ts2,tm:=tm2 } (addT (addTs T (ps.take j)) p)) (hE:Ext (TF sb { xs with ts:=ts1,tm:=tm1 }) V w2) (hf2:∀ q,TF sb { xs with ts:=ts2,tm:=tm2 } q->TF sb { xs with ts:=ts1,tm:=tm1 } q\/V.heap.size<=q)
  (hp:ps[j]?=some p) (hj:j < 3):w2.heap[w.heap.size+1]?=some (.cells (tcs word (addTs T ps) ps j) 145)/\TW2 w sb w.heap.size (w.heap.size+1) nv xs T k v word pv ps (j+1) (w2.setCell ⟨w.heap.size+1,2+j,none⟩ (.int .i64 (idx (addT (addTs T (ps.take j)) p) p:Nat))):=by
 have hno:∀ q,q < w.heap.size+2->w.heap.size<=q->¬TF sb { xs with ts:=ts1,tm:=tm1 } q:=by
  intro q h1 h2 h3
  rcases hf1 q h3 with e | e
  ·have:=hlt q e;omega
  ·omega
 have s1:=hx.size
 have kt:w2.heap[w.heap.size+1]?=some (.cells (tcs word (addTs T ps) ps j) 145):=(hE.block _ (by omega) (hno _ (by omega) (by omega))).trans ((hx.block _ (by omega) (fun f=>f)).trans h.tbk)
 have kn:w2.heap[w.heap.size]?=some (.cells #[.int .i64 k,.string word,.int .i64 v,pv] 115):=(hE.block _ (by omega) (hno _ (by omega) (Nat.le_refl _))).trans ((hx.block _ (by omega) (fun f=>f)).trans h.nbk)
 have hxs:Ext (fun q=>q=w.heap.size+1) w2 (w2.setCell ⟨w.heap.size+1,2+j,none⟩ (.int .i64 (idx (addT (addTs T (ps.take j)) p) p:Nat))):=(Ext.refl (fun q=>q=w.heap.size+1) w2).setCell (p:=⟨w.heap.size+1,2+j,none⟩) (fun _=>rfl) _
 have hf:∀ q,TF sb { xs with ts:=ts2,tm:=tm2 } q->TF sb xs q\/w.heap.size+2<=q:=by
  intro q hq
  rcases hf2 q hq with e | e
  ·exact hf1 q e
  ·exact .inr (by omega)
 refine ⟨kt,⟨?_,?_,?_,ts2,tm2,?_,hf⟩⟩
 ·refine ((h.ext.trans' (hx.mono (fun _ _ f=>f.elim)) (fun _ _ e=>e)).trans' hE (fun q hq e=>?_)).trans' hxs (fun q hq e=>?_)
  ·rcases hf1 q e with e | e
   ·exact e
   ·omega
  ·omega
 ·exact (hxs.block _ (blt kn) (by show ¬w.heap.size=w.heap.size+1;omega)).trans kn
 ·have e:=bsc kt (2+j) (.int .i64 (idx (addT (addTs T (ps.take j)) p) p:Nat))
  rw [arg_place hps hp,tcs_set hj] at e
  rw [arg_place hps hp]
  exact e
 ·have e:addTs T (ps.take (j+1))=addT (addTs T (ps.take j)) p:=by rw [List.take_add_one,hp];exact addTs_snoc T _ p
  rw [e]
  refine h2.ext hxs (fun q hq e=>?_)
  rcases hf q hq with h | h
  ·have:=hlt q h;omega
  ·omega
set_option maxRecDepth 100000 in
set_option maxHeartbeats 1000000 in
theorem term_app {w:World} {sb:Nat} {nv:Value} {xs:PX} {T:List Nd} {word:ByteArray} {ps:List Nd} {pa:Option Addr} {pc:Nat} {D:Nat->Prop} (h:TS w sb nv xs T) (hname:isName word.toList=true) (hl3:ps.length<=3) (hps:∀ p∈ps,TmOk p) (hlen:T.length+(subsAll true ps).length<=9000000)
  (hkid:∀ (i:Nat) (p:Nd),ps[i]?=some p->∃ g k' wd' v' pa' pn' pc',pa=some ⟨g,0,none⟩/\g < w.heap.size/\D g/\w.cell? ⟨g,i * 4,none⟩=some (.int .i64 k')/\w.cell? ⟨g,i * 4+1,none⟩=some (.string wd')/\w.cell? ⟨g,i * 4+2,none⟩=some (.int .i64 v')/\w.cell? ⟨g,i * 4+3,none⟩=some (.slice pa' pn' pc')/\PN w D [.int .i64 k',.string wd',.int .i64 v',.slice pa' pn' pc'] p)
  (hDl:∀ k,D k->k < w.heap.size) (hDT:∀ k,D k->¬TF sb xs k) (hih:∀ p∈ps,ThIH sb nv p) :
  Calls Tryz.prog 148 #[.pointer (some ⟨sb,1,none⟩),.agg #[.int .i64 3,.string word,.int .i64 0,.slice pa ps.length pc]] w (TPost w sb nv xs (addT T (.mk 3 word 0 ps)) (idx (addT T (.mk 3 word 0 ps)) (.mk 3 word 0 ps))):=by
 have hsb:=blt h.blk
 have HLT:=hide h.lt
 have H:=hide h
 have HN:=hide hname
 have HPS:=hide hps
 have HLEN:=hide hlen
 have HKID:=hide hkid
 have HDL:=hide hDl
 have HDT:=hide hDT
 have HIH:=hide hih
 have hTW:TW2 w sb w.heap.size (w.heap.size+1) nv xs T 3 0 word (.slice pa ps.length pc) ps 0 ((w.alloc (.cells #[.int .i64 3,.string word,.int .i64 0,.slice pa ps.length pc] 115)).alloc (.cells #[.string word,.int .i64 ps.length,.int .i64 0,.int .i64 0,.int .i64 0,.int .i64 0] 145)):=by
  have hx:Ext (fun _=>False) w ((w.alloc (.cells #[.int .i64 3,.string word,.int .i64 0,.slice pa ps.length pc] 115)).alloc (.cells #[.string word,.int .i64 ps.length,.int .i64 0,.int .i64 0,.int .i64 0,.int .i64 0] 145)):=((Ext.refl _ w).alloc _).alloc _
  refine ⟨hx.mono (fun _ _ f=>f.elim),?_,?_,xs.ts,xs.tm,?_,fun q hq=>.inl hq⟩
  ·rw [heap_alloc_old _ _ (by simp)];exact heap_alloc_new w _
  ·rw [tcs_zero];exact heap_alloc2_new w _ _
  ·simp only [List.take_zero,addTs]
   exact h.ext hx (fun _ _ f=>f)
 have HTW:=hide hTW
 clear h hname hps hlen hkid hDl hDT hih hTW
 go_enter Tryz.func148,Tryz.ntmps148
 go_wp2_with fail
 go_loopw [28] (fun i wr=>∃ (j:Nat),j<=ps.length/\i=.int .i64 j/\w.heap.size+2<=wr.heap.size/\TW2 w sb w.heap.size (w.heap.size+1) nv xs T 3 0 word (.slice pa ps.length pc) ps j wr) (fun i _=>ps.length - (intOf i).toNat)
 case atStart=>exact ⟨0,Nat.zero_le _,rfl,by simp,HTW.out⟩
 case round =>
  clear HTW
  obtain ⟨j,hj,rfl,hws,htw⟩:=hrel
  have n0:=cob htw.nbk 0
  have n1:=cob htw.nbk 1
  have n3:=cob htw.nbk 3
  have HTW:=hide htw
  clear htw
  by_cases hlt:j < ps.length
  ·obtain ⟨p,hp⟩:∃ p,ps[j]?=some p:=⟨_,List.getElem?_eq_getElem hlt⟩
   obtain ⟨g,k',wd',v',pa',pn',pc',rfl,hgl,hDg,z0,z1,z2,z3,hpn⟩:=HKID.out j p hp
   rw [<- HTW.out.ext.cell (p:=⟨g,j * 4,none⟩) hgl (HDT.out g hDg)] at z0
   rw [<- HTW.out.ext.cell (p:=⟨g,j * 4+1,none⟩) hgl (HDT.out g hDg)] at z1
   rw [<- HTW.out.ext.cell (p:=⟨g,j * 4+2,none⟩) hgl (HDT.out g hDg)] at z2
   rw [<- HTW.out.ext.cell (p:=⟨g,j * 4+3,none⟩) hgl (HDT.out g hDg)] at z3
   have HP:=hide hp
   have HPN:=hide hpn
   have hj3:j < 3:=by omega
   obtain ⟨ts1,tm1,hts1,hf1⟩:=HTW.out.ts
   have HTS1:=hide hts1
   have HF1:=hide hf1
   have HMEM:=hide (List.mem_of_getElem? hp)
   clear hp hpn hgl hDg hts1 hf1
   go_wp2_with fail
   obtain ⟨V,hV⟩:∃ V,wr.alloc (.cells #[.int .i64 k',.string wd',.int .i64 v',.slice pa' pn' pc'] 115)=V:=⟨_,rfl⟩
   have HXV:Hid (Ext (fun _=>False) wr V):=by rw [<- hV];exact (Ext.refl _ wr).alloc _
   rw [hV]
   clear hV
   refine (HIH.out p HMEM.out V _ _ D k' wd' v' pa' pn' pc' ((HPN.out.ext HTW.out.ext (fun k _ hd=>HDT.out k hd)).ext HXV.out (fun _ _ _ f=>f)) (fun k hd=>by have:=HDL.out k hd;have:=HXV.out.size;omega) (fun k hd hq=>by
    rcases HF1.out k hq with e | e
    ·exact HDT.out k hd e
    ·have:=HDL.out k hd;omega) (HTS1.out.ext HXV.out (fun _ _ f=>f)) (by
    have h1:=addTs_len (ps:=ps.take j) (fun q hq=>HPS.out q (List.mem_of_mem_take hq)) T
    have h2:=subs_upto true HP.out
    have h3:=HLEN.out
    omega)).mono ?_
   rintro e w2 ⟨rfl,ts2,tm2,hTS2,hE2,hF2⟩
   obtain ⟨kt,htw2⟩:=tw_step HPS.out HTW.out HLT.out hws HXV.out HF1.out hTS2 hE2 hF2 HP.out hj3
   have hsz2:w.heap.size+2<=w2.heap.size:=by have:=HXV.out.size;have:=hE2.size;omega
   obtain ⟨u,hu⟩:=tcs_cell (w:=word) (T:=addTs T ps) (ps:=ps) (j:=j) (q:=2+j) (by omega)
   have tc:=(cob kt (2+j)).trans hu
   have tf:=fob kt (2+j)
   have HT2:=hide htw2
   clear hTS2 hE2 hF2 kt htw2 hu n0 n1 n3 z0 z1 z2 z3
   go_wp2_with fail
   go_roundw
   case measure=>simp [intOf];omega
   case rel=>exact ⟨j+1,by omega,by go_num,by simpa using hsz2,HT2.out⟩
  ·have hjl:j=ps.length:=by omega
   subst hjl
   have htb:=HTW.out.tbk
   rw [tcs_full] at htb
   have t0:=cob htb 0
   have t1:=cob htb 1
   have t2:=cob htb 2
   have t3:=cob htb 3
   have t4:=cob htb 4
   have t5:=cob htb 5
   obtain ⟨ts1,tm1,hts1,hf1⟩:=HTW.out.ts
   rw [List.take_of_length_le (Nat.le_refl _)] at hts1
   have hx:TmOk (.mk 3 word 0 ps):=.app HN.out hl3 HPS.out
   have hc:=num_tree (hts1.ext ((Ext.refl (fun _=>False) wr).drew) (fun _ _ f=>f)) hx (addTs_mem HPS.out T) (by have:=addTs_len HPS.out T;have:=HLEN.out;omega)
   rw [key_app] at hc
   have HC:=hide hc
   have HF1:=hide hf1
   clear hc hf1 hts1 htb hx n0 n1 n3
   go_wp2_with fail
   go_region_law (go_simp;go_wp2_with (go_at_call 188;refine HC.out.mono ?_;rintro e w2 ⟨rfl,ts2,tm2,hTS2,hE2,hF2⟩;have HTS2:=hide hTS2;have HE2:=hide hE2;have HF2:=hide hF2;clear hTS2 hE2 hF2))
   all_goals
    go_wp2_with fail
    go_ret
    simp only [addT]
    refine ⟨rfl,ts2,tm2,HTS2.out,HTW.out.ext.trans' (((Ext.refl (TF sb _) wr).drew).trans HE2.out) (fun q hq e=>?_),fun q hq=>?_⟩
    ·rcases HF1.out q e with e | e
     ·exact e
     ·omega
    ·rcases HF2.out q hq with e | e
     ·exact (HF1.out q e).imp id (fun e=>by omega)
     ·have e2:wr.heap.size<=q:=e
      exact .inr (by omega)
theorem pterm_any {sb:Nat} {nv:Value}:∀ {p:Nd},TmOk p->ThIH sb nv p:=by
 intro p hp
 induction hp with
 | num h1 h2 =>
  intro w xs T D k' wd' v' pa' pn' pc' hpn hDl hDT hts hlen
  cases hpn
  exact term_num hts h1 h2 (by omega)
 | @app word ps hw hl hps ih =>
  intro w xs T D k' wd' v' pa' pn' pc' hpn hDl hDT hts hlen
  cases hpn with
  | @mk _ _ _ _ _ kids how hkl hkn hD hk =>
   obtain ⟨a,cap,hv,_,_,hkid⟩:=pkid_at how hkl hkn hD hk
   cases hv
   refine term_app hts hw hl hps ?_ hkid hDl hDT ih
   have:(subs true (.mk 3 word 0 ps)).length=1+(subsAll true ps).length:=by
    simp only [subs,List.length_append]
    rw [if_pos (by simp [isIt])]
    rfl
   omega
theorem num_at_some (mb:Nat) (W:World):(binOp BinOp.eql 84 (.map (some mb)) (.map none)).run Tryz.prog W=.ok (.bool false) W:=by kernel_rfl
theorem num_at_none (W:World):(binOp BinOp.eql 84 (.map none) (.map none)).run Tryz.prog W=.ok (.bool true) W:=by kernel_rfl
structure ARow (w:World) (tv mv:Value) (K:List AKey):Prop where
 own:w.ownsRow 0 153 4 tv K.length (K.flatMap AKey.cells)
 nd:K.Nodup
 ok:∀ k∈K,k.Ok
 map:(mv=.map none/\K=[])\/∃ mb D,mv=.map (some mb)/\w.ownsMap Tryz.prog 153 (plainElem Tryz.prog 3) mb K.length D/\MapF klA AKey.Ok (fun _=>True) K D K.length
 sep:∀ g,tv.ownBlock=some g->¬mapB mv=some g
theorem ARow.ext {S:Nat->Prop} {w w':World} {tv mv:Value} {K:List AKey} (h:ARow w tv mv K) (hx:Ext S w w') (h1:∀ g,tv.ownBlock=some g->¬S g) (h2:∀ g,mapB mv=some g->¬S g):ARow w' tv mv K:=by
 refine ⟨own_ext h.own hx h1,h.nd,h.ok,?_,h.sep⟩
 rcases h.map with e | ⟨mb,D,rfl,ho,hm⟩
 ·exact .inl e
 ·exact .inr ⟨mb,D,rfl,ownsMap_ext ho hx (h2 mb rfl),hm⟩
def num_atPost (w:World) (sb:Nat) (nv:Value) (xs:PX) (K:List AKey) (x:AKey) (e:Ending) (w':World):Prop :=
 ∃ (i:Nat) (tv' mv':Value),e=.returned (.int .i64 i)/\(putK K x)[i]?=some x/\w'.heap[sb]?=some (.cells #[nv,xs.ts,xs.tm,tv',mv',xs.fs,xs.ks,xs.vd,xs.ml] 98)/\ARow w' tv' mv' (putK K x)/\Ext (fun k=>k=sb\/xs.at_.ownBlock=some k\/mapB xs.am=some k) w w' /\
  (∀ k,tv'.ownBlock=some k->xs.at_.ownBlock=some k\/w.heap.size<=k)/\(∀ k,mapB mv' = some k->mapB xs.am=some k\/w.heap.size<=k)
set_option maxRecDepth 100000 in
theorem num_at_new {w w0 w1 w2 W:World} {sb mb g cap':Nat} {nv:Value} {xs:PX} {K:List AKey} {x:AKey} {D:DataW Unit} (h:ARow w xs.at_ xs.am K) (hx:x.Ok) (hn:¬x∈K)
  (h0:Ext (fun k=>k=sb) w w0) (hgrow:w0.grownBy w1 xs.at_.ownBlock) (hown:w1.ownsRow 0 153 4 (.slice (some ⟨g,0,none⟩) (K.length+1) cap') (K.length+1) (K.flatMap AKey.cells++x.cells))
  (hat:xs.at_.ownBlock=some g\/w.heap.size<=g) (hmg:¬g=mb) (hgs:¬g=sb) (hms:¬mb=sb) (hmb:mapB xs.am=some mb\/w.heap.size<=mb) (h2:Ext (fun k=>k=sb) w1 w2) (hm0:MapF klA AKey.Ok (fun _=>True) K D K.length) (htd:Maps.Tidy D)
  (hown2:W.ownsMap Tryz.prog 153 (plainElem Tryz.prog 3) mb (K.length+1) (D.put (klA x) (.lit (.int .i64 K.length)))) (h3:Ext (fun k=>k=mb) w2 W)
  (kW:w2.heap[sb]?=some (.cells #[nv,xs.ts,xs.tm,(.slice (some ⟨g,0,none⟩) (K.length+1) cap'),(.map (some mb)),xs.fs,xs.ks,xs.vd,xs.ml] 98)) :
  num_atPost w sb nv xs K x (.returned (.int .i64 K.length)) W:=by
 have hk:WideAt.IsKeyLit (klA x):=kdAtom.key (klA_eq hx)
 have hmf:=mapf_put hm0 htd hk h.ok hx (fun y hy e=>klA_inj hy hx e) hn
 have s0:=h0.size
 refine ⟨K.length,.slice (some ⟨g,0,none⟩) (K.length+1) cap',.map (some mb),rfl,?_,?_,⟨?_,?_,?_,?_,?_⟩,?_,?_,?_⟩
 ·rw [putK_new hn];simp
 ·exact (h3.block sb (blt kW) (fun e=>hms e.symm)).trans kW
 ·rw [putK_new hn]
  have ho:=own_ext (own_ext hown h2 (fun k hk e=>by simp [Value.ownBlock] at hk;omega)) h3 (fun k hk e=>by simp [Value.ownBlock] at hk;omega)
  simpa using ho
 ·rw [putK_new hn,List.nodup_append]
  refine ⟨h.nd,by simp,?_⟩
  intro a ha b hb e
  simp at hb
  subst hb e
  exact hn ha
 ·rw [putK_new hn]
  intro k hk
  rcases List.mem_append.1 hk with hk | hk
  ·exact h.ok k hk
  ·simp at hk;subst hk;exact hx
 ·rw [putK_new hn]
  refine .inr ⟨mb,_,rfl,?_,hmf⟩
  simpa using hown2
 ·intro k hk e
  simp [Value.ownBlock] at hk
  simp [mapB] at e
  omega
 ·have e1:Ext (fun k=>k=sb\/xs.at_.ownBlock=some k\/mapB xs.am=some k) w w1:=(h0.mono (fun _ _ e=>.inl e)).grown hgrow (fun k hk _=>.inr (.inl hk))
  exact (e1.trans' h2 (fun _ _ e=>.inl e)).trans' h3 (fun k hk e=>by
   subst e
   rcases hmb with e2 | e2
   ·exact .inr (.inr e2)
   ·omega)
 ·intro k hk
  simp [Value.ownBlock] at hk
  subst hk
  exact hat
 ·intro k hk
  simp [mapB] at hk
  subst hk
  exact hmb
set_option maxRecDepth 100000 in
set_option maxHeartbeats 1000000 in
theorem num_at_any {w:World} {sb:Nat} {nv:Value} {xs:PX} {K:List AKey} (x:AKey) (kb:w.heap[sb]?=some (.cells #[nv,xs.ts,xs.tm,xs.at_,xs.am,xs.fs,xs.ks,xs.vd,xs.ml] 98)) (h:ARow w xs.at_ xs.am K) (hx:x.Ok) (hs1:∀ k,xs.at_.ownBlock=some k->¬k=sb) (hs2:∀ k,mapB xs.am=some k->¬k=sb) (hlen:K.length<=10000000) :
  Calls Tryz.prog 149 #[.pointer (some ⟨sb,3,none⟩),x.val] w (num_atPost w sb nv xs K x):=by
 show Calls Tryz.prog 149 #[.pointer (some ⟨sb,3,none⟩),.agg #[.string x.wd,.int .i64 x.i,.int .i64 x.j,.int .i64 x.b]] w (num_atPost w sb nv xs K x)
 have hke:keyOf Tryz.prog 153 (.agg #[.string x.wd,.int .i64 x.i,.int .i64 x.j,.int .i64 x.b])=some (klA x):=klA_eq hx
 have HKE:=hide hke
 clear hke
 obtain ⟨ts,tm,at_,am,fs,ks,vd,ml⟩:=xs
 simp only at kb h hs1 hs2
 have hsb:=blt kb
 have HX0:Hid (Ext (fun _=>False) w (w.alloc (.cells #[.string x.wd,.int .i64 x.i,.int .i64 x.j,.int .i64 x.b] 153))):=(Ext.refl _ w).alloc _
 have HBX:Hid ((w.alloc (.cells #[.string x.wd,.int .i64 x.i,.int .i64 x.j,.int .i64 x.b] 153)).heap[w.heap.size]?=some (.cells #[.string x.wd,.int .i64 x.i,.int .i64 x.j,.int .i64 x.b] 153)):=heap_alloc_new w _
 by_cases hin:x∈K
 ·-- it is there
  obtain ⟨i,hi⟩:=List.mem_iff_getElem?.1 hin
  rcases h.map with ⟨_,e⟩ | ⟨mb,D,hmv,ho,hm⟩
  ·subst e;exact absurd hin (by simp)
  subst hmv
  have hlk:∀ n,(Instr.lookup 84 (.map (some mb)) (.agg #[.string x.wd,.int .i64 x.i,.int .i64 x.j,.int .i64 x.b]) true).run Tryz.prog ((w.alloc (.cells #[.string x.wd,.int .i64 x.i,.int .i64 x.j,.int .i64 x.b] 153)).drewN n)=.ok (.tuple #[.int .i64 i,.bool true]) ((w.alloc (.cells #[.string x.wd,.int .i64 x.i,.int .i64 x.j,.int .i64 x.b] 153)).drewN n):=by
   intro n
   have ho2:=ownsMap_ext ho (((Ext.refl (fun _=>False) w).alloc (.cells #[.string x.wd,.int .i64 x.i,.int .i64 x.j,.int .i64 x.b] 153)).drewN n) (fun f=>f)
   obtain ⟨v,ps,hrun,hv⟩:=ho2.look_ok kdAtom Tryz.underlying84 (infoIntZ _) (plainElem_int Tryz.underlying3 (by decide)) HKE.out
   rw [(hm.yes i x hi trivial).1] at hv
   obtain ⟨a,rfl,e2,_⟩:=plainElem_int_inv Tryz.underlying3 hv
   simp at e2
   rw [hrun,(hm.yes i x hi trivial).2,e2.1]
  have c1:=cob kb 3
  have c2:=cob kb 4
  have H:=hide h
  have KB:=hide kb
  have HI:=hide hi
  have HW0:Hid (Ext (fun _=>False) w (w.alloc (.cells #[.string x.wd,.int .i64 x.i,.int .i64 x.j,.int .i64 x.b] 153))):=(Ext.refl _ w).alloc _
  have hlk0:=hlk 0
  have hnw:¬sb=w.heap.size:=by omega
  clear h kb ho hm hi
  go_enter Tryz.func149,Tryz.ntmps149
  go_wp2_with fail
  go_quiet (fail)
  go_wp2_with fail
  go_ret
  refine ⟨i,_,_,rfl,by rw [putK_in hin];exact HI.out,?_,?_,?_,fun k hk=>.inl hk,fun k hk=>.inl hk⟩
  ·exact ((HW0.out.drewN nq).block sb hsb (fun f=>f)).trans KB.out
  ·rw [putK_in hin]
   exact H.out.ext (HW0.out.drewN nq) (fun _ _ f=>f) (fun _ _ f=>f)
  ·exact (HW0.out.drewN nq).mono (fun _ _ f=>f.elim)
 ·have HX:=hide hx
  have HS1:=hide hs1
  have HS2:=hide hs2
  obtain ⟨ta,tc,hts⟩:∃ ta tc,at_=.slice ta K.length tc:=by
   rcases h.own.2 with ⟨e,e0⟩ | ⟨g,cap,cur,hv,_⟩
   ·exact ⟨none,0,by rw [e,e0]⟩
   ·exact ⟨_,cap,hv⟩
  subst hts
  rcases h.map with ⟨hmv,hK⟩ | ⟨mb,D,hmv,ho,hm⟩
  ·subst hmv
   have hlk:∀ n,(Instr.lookup 84 (.map none) (.agg #[.string x.wd,.int .i64 x.i,.int .i64 x.j,.int .i64 x.b]) true).run Tryz.prog ((w.alloc (.cells #[.string x.wd,.int .i64 x.i,.int .i64 x.j,.int .i64 x.b] 153)).drewN n)=.ok (.tuple #[.int .i64 0,.bool false]) ((w.alloc (.cells #[.string x.wd,.int .i64 x.i,.int .i64 x.j,.int .i64 x.b] 153)).drewN n):=by
    intro n
    have e:=Maps.look_nil (w:=(w.alloc (.cells #[.string x.wd,.int .i64 x.i,.int .i64 x.j,.int .i64 x.b] 153)).drewN n) true kdAtom Tryz.underlying84 (infoIntZ _) HKE.out
    simpa using e
   have c1:=cob kb 3
   have c2:=cob kb 4
   have f2:=fob kb 4
   have hlk0:=hlk 0
   have hnw:¬sb=w.heap.size:=by omega
   have hmm:=@run_makeMap Tryz.prog
   have hnil:=num_at_none
   have HK:=hide hK
   have H:=hide h
   have KB:=hide kb
   clear h kb hx hs1 hs2 hK
   go_enter Tryz.func149,Tryz.ntmps149
   go_wp2_with fail
   go_quiet (fail)
   obtain ⟨V0,hVe⟩:∃ V0,(w.alloc (.cells #[.string x.wd,.int .i64 x.i,.int .i64 x.j,.int .i64 x.b] 153)).drewN nq=V0:=⟨_,rfl⟩
   have HVF:Hid (Ext (fun _=>False) w V0):=by rw [<- hVe];exact ((Ext.refl _ w).alloc _).drewN nq
   have KV0:=hide ((HVF.out.block sb hsb (fun f=>f)).trans KB.out)
   have KX0:Hid (V0.heap[w.heap.size]?=some (.cells #[.string x.wd,.int .i64 x.i,.int .i64 x.j,.int .i64 x.b] 153)):=by rw [<- hVe];exact heap_alloc_new w _
   have hl0:=blt KV0.out
   have hlx0:=blt KX0.out
   rw [hVe]
   clear hVe hlk hlk0 c1 c2 f2
   have c1:=cob KV0.out 3
   have c2:=cob KV0.out 4
   have f2:=fob KV0.out 4
   go_wp2_with fail
   obtain ⟨mb,hmb⟩:∃ mb,mb=V0.heap.size:=⟨_,rfl⟩
   obtain ⟨D,hD⟩:∃ D:DataW Unit,D=.map []:=⟨_,rfl⟩
   obtain ⟨V,hVe⟩:∃ V,(V0.setCell ⟨sb,4,none⟩ (.map (some V0.heap.size))).alloc (.map #[] 0)=V:=⟨_,rfl⟩
   have hsz:(V0.setCell ⟨sb,4,none⟩ (.map (some V0.heap.size))).heap.size=V0.heap.size:=by simp
   have HVA:Hid (Ext (fun k=>k=sb) V0 V):=by rw [<- hVe];exact ((Ext.refl (fun k=>k=sb) _).setCell (p:=⟨sb,4,none⟩) (fun _=>rfl) _).alloc _
   have HV:Hid (Ext (fun k=>k=sb) w V):=(HVF.out.mono (fun _ _ f=>f.elim)).trans HVA.out
   have KV:Hid (V.heap[sb]?=some (.cells #[nv,ts,tm,.slice ta K.length tc,.map (some mb),fs,ks,vd,ml] 98)):=by
    rw [<- hVe,hmb]
    exact (Below.heap_alloc _ _ sb (by rw [hsz];exact hl0)).trans (bsc KV0.out 4 _)
   have KX:Hid (V.heap[w.heap.size]?=some (.cells #[.string x.wd,.int .i64 x.i,.int .i64 x.j,.int .i64 x.b] 153)):=(HVA.out.block _ hlx0 (by show ¬w.heap.size=sb;omega)).trans KX0.out
   have HMS:Hid (¬mb=sb):=by show ¬_;omega
   have HOV:Hid (V.ownsMap Tryz.prog 153 (plainElem Tryz.prog 3) mb K.length D):=by
    have e:=World.ownsMap_made (H:=Unit) (V0.setCell ⟨sb,4,none⟩ (.map (some V0.heap.size))) Tryz.prog 153 (plainElem Tryz.prog 3)
    rw [hsz,hVe] at e
    rw [hmb,hD,HK.out]
    exact e
   have HMF:Hid (MapF klA AKey.Ok (fun _=>True) K D K.length):=by rw [hD,HK.out];exact mapf_nil
   have HTD:Hid (Maps.Tidy D):=by rw [hD];exact tidy_empty
   have HMB:Hid (mapB (.map none)=some mb\/w.heap.size<=mb):=.inr (by have:=HVF.out.size;omega)
   have HSEP:Hid (∀ g,(Value.slice ta K.length tc).ownBlock=some g->¬g=mb):=fun g hg e=>by
    have h1:=(H.out.own.lt g hg).2
    have:=HVF.out.size
    omega
   rw [hVe,<- hmb]
   clear hVe hmb hD c1 c2 f2 KV0 KX0 hnil hsz
   have hlV:=blt KV.out
   have hlX:=blt KX.out
   have c1:=cob KV.out 3
   have c2:=cob KV.out 4
   have x0:=cob KX.out 0
   have x1:=cob KX.out 1
   have x2:=cob KX.out 2
   have x3:=cob KX.out 3
   obtain ⟨i0,hi,hz0,hz1,hz2⟩:=info_parts infoAtom
   have hnn:=num_at_some mb
   have HOR:=hide (own_ext H.out.own HV.out (fun k hk e=>HS1.out k hk e))
   go_wp2_with fail
   go_region_law ((refine step_append_lies _ (by rfl) _ _ _ (by rfl) 0 153 i0 _ 4 40 Tryz.underlying83 hi hz0 hz1 hz2 rfl (by omega) (.slice ta K.length tc) K.length (K.flatMap AKey.cells) (by rfl) ((HOR.out.alloc _).drew) ⟨V.heap.size,0,none⟩ 1 1 x.cells (by rfl) (by rfl) (World.news_of_block (cs:=#[.string x.wd,.int .i64 x.i,.int .i64 x.j,.int .i64 x.b]) (t:=153) (fr:=(0,0)) (heap_alloc_new V _)) (by simp [AKey.cells,Value.oneCell']) (by omega) (by unfold maxLen;omega) (by omega) (Nat.zero_le _) (V.heap.size+1) (by simp) ?_;intro g cap' w2 hown2 hgrow hat hlt2;have kb2:w2.heap[sb]?=some (.cells #[nv,ts,tm,.slice ta K.length tc,.map (some mb),fs,ks,vd,ml] 98):=(hgrow.block sb (by simp;omega) (fun e=>HS1.out sb e.symm rfl)).trans ((Below.heap_alloc V _ sb hlV).trans KV.out);have d1:=cob kb2 3;have d1f:=fob kb2 3))
   all_goals
    obtain ⟨W3,hW3⟩:∃ W3,w2.setCell ⟨sb,3,none⟩ (.slice (some ⟨g,0,none⟩) (K.length+1) cap')=W3:=⟨_,rfl⟩
    have hxV:Ext (fun k=>(Value.slice ta K.length tc).ownBlock=some k) V w2:=((((Ext.refl (fun _=>False) V).alloc _).drew).mono (fun _ _ f=>f.elim)).grown hgrow (fun k hk _=>hk)
    have hx3:Ext (fun k=>k=sb) w2 W3:=by rw [<- hW3];exact (Ext.refl (fun k=>k=sb) w2).setCell (p:=⟨sb,3,none⟩) (fun _=>rfl) _
    have kb3:W3.heap[sb]?=some (.cells #[nv,ts,tm,(.slice (some ⟨g,0,none⟩) (K.length+1) cap'),.map (some mb),fs,ks,vd,ml] 98):=by rw [<- hW3];exact bsc kb2 3 _
    have kx3:W3.heap[w.heap.size]?=some (.cells #[.string x.wd,.int .i64 x.i,.int .i64 x.j,.int .i64 x.b] 153):=(hx3.block _ (Nat.lt_of_lt_of_le hlX hxV.size) (by show ¬w.heap.size=sb;omega)).trans ((hxV.block _ hlX (fun e=>by have:=(H.out.own.lt _ e).2;omega)).trans KX.out)
    have ho3:W3.drew.ownsMap Tryz.prog 153 (plainElem Tryz.prog 3) mb K.length D:=ownsMap_ext (ownsMap_ext (ownsMap_ext HOV.out hxV (fun e=>HSEP.out mb e rfl)) hx3 HMS.out) ((Ext.refl (fun _=>False) W3).drew) (fun f=>f)
    obtain ⟨W4,hst,how4,hturn⟩:=ho3.store kdAtom Tryz.underlying84 (by unfold maxLen;omega) HKE.out (plainElem_int Tryz.underlying3 (sm_wf (n:=(K.length:Int)) ⟨by omega,by omega⟩))
    have e1:=cob kb3 3
    have e2:=cob kb3 4
    have y0:=cob kx3 0
    have y1:=cob kx3 1
    have y2:=cob kx3 2
    have y3:=cob kx3 3
    have HN:Hid (num_atPost w sb nv ⟨ts,tm,.slice ta K.length tc,.map none,fs,ks,vd,ml⟩ K x (.returned (.int .i64 K.length)) W4):=num_at_new (xs:=⟨ts,tm,.slice ta K.length tc,.map none,fs,ks,vd,ml⟩) H.out HX.out hin ((HV.out.alloc _).drew) hgrow hown2 (hat.imp id (fun e=>by have:=HV.out.size;omega)) (by
     rcases hat with e | e
     ·exact fun e3=>HSEP.out mb (e3 ▸ e) rfl
     ·have:=HOV.out.lt;omega) (by
     rcases hat with e | e
     ·exact HS1.out g e
     ·omega) HMS.out HMB.out hx3 HMF.out HTD.out how4 ((((Ext.refl (fun _=>False) W3).drew).mono (fun _ _ f=>f.elim)).trans (mapTurned_ext hturn)) kb3
    rw [hW3]
    clear hW3 hxV hx3 kb3 kx3 ho3 how4 hturn kb2 hown2 hgrow hat c1 c2 d1 d1f
    go_wp2_with fail
    go_region
    all_goals
     go_wp2_with fail
     go_ret
     exact HN.out
  ·subst hmv
   have hlk:∀ n,(Instr.lookup 84 (.map (some mb)) (.agg #[.string x.wd,.int .i64 x.i,.int .i64 x.j,.int .i64 x.b]) true).run Tryz.prog ((w.alloc (.cells #[.string x.wd,.int .i64 x.i,.int .i64 x.j,.int .i64 x.b] 153)).drewN n)=.ok (.tuple #[.int .i64 0,.bool false]) ((w.alloc (.cells #[.string x.wd,.int .i64 x.i,.int .i64 x.j,.int .i64 x.b] 153)).drewN n):=by
    intro n
    have ho2:=ownsMap_ext ho (((Ext.refl (fun _=>False) w).alloc (.cells #[.string x.wd,.int .i64 x.i,.int .i64 x.j,.int .i64 x.b] 153)).drewN n) (fun f=>f)
    obtain ⟨v,ps,hrun,hv⟩:=ho2.look_ok kdAtom Tryz.underlying84 (infoIntZ _) (plainElem_int Tryz.underlying3 (by decide)) HKE.out
    have hno:=hm.no x hx (fun hc=>hin hc.1)
    rw [atKey_of_not_has hno] at hv
    obtain ⟨a,rfl,e2,_⟩:=plainElem_int_inv Tryz.underlying3 hv
    simp at e2
    rw [hrun,hno,<- e2.1]
   have c1:=cob kb 3
   have c2:=cob kb 4
   have hlk0:=hlk 0
   have hnw:¬sb=w.heap.size:=by omega
   have HTD:=hide (ho.tidy kdAtom)
   have HMF:=hide hm
   have HO:=hide ho
   have H:=hide h
   have KB:=hide kb
   have HSEP:Hid (∀ g,(Value.slice ta K.length tc).ownBlock=some g->¬g=mb):=fun g hg e=>h.sep g hg (by rw [e];rfl)
   have HMS:Hid (¬mb=sb):=hs2 mb rfl
   have HMB:Hid (mapB (.map (some mb))=some mb\/w.heap.size<=mb):=.inl rfl
   clear h kb ho hm hx hs1 hs2
   go_enter Tryz.func149,Tryz.ntmps149
   go_wp2_with fail
   go_quiet (fail)
   obtain ⟨V,hVe⟩:∃ V,(w.alloc (.cells #[.string x.wd,.int .i64 x.i,.int .i64 x.j,.int .i64 x.b] 153)).drewN nq=V:=⟨_,rfl⟩
   have HVF:Hid (Ext (fun _=>False) w V):=by rw [<- hVe];exact ((Ext.refl _ w).alloc _).drewN nq
   have HV:Hid (Ext (fun k=>k=sb) w V):=HVF.out.mono (fun _ _ f=>f.elim)
   have KV:=hide ((HVF.out.block sb hsb (fun f=>f)).trans KB.out)
   have KX:Hid (V.heap[w.heap.size]?=some (.cells #[.string x.wd,.int .i64 x.i,.int .i64 x.j,.int .i64 x.b] 153)):=by rw [<- hVe];exact heap_alloc_new w _
   have HOV:=hide (ownsMap_ext HO.out HVF.out (fun f=>f))
   rw [hVe]
   clear hVe hlk hlk0 c1 c2
   have hlV:=blt KV.out
   have hlX:=blt KX.out
   have c1:=cob KV.out 3
   have c2:=cob KV.out 4
   have x0:=cob KX.out 0
   have x1:=cob KX.out 1
   have x2:=cob KX.out 2
   have x3:=cob KX.out 3
   obtain ⟨i0,hi,hz0,hz1,hz2⟩:=info_parts infoAtom
   have hnn:=num_at_some mb
   have HOR:=hide (own_ext H.out.own HV.out (fun k hk e=>HS1.out k hk e))
   go_wp2_with fail
   go_region_law ((refine step_append_lies _ (by rfl) _ _ _ (by rfl) 0 153 i0 _ 4 40 Tryz.underlying83 hi hz0 hz1 hz2 rfl (by omega) (.slice ta K.length tc) K.length (K.flatMap AKey.cells) (by rfl) ((HOR.out.alloc _).drew) ⟨V.heap.size,0,none⟩ 1 1 x.cells (by rfl) (by rfl) (World.news_of_block (cs:=#[.string x.wd,.int .i64 x.i,.int .i64 x.j,.int .i64 x.b]) (t:=153) (fr:=(0,0)) (heap_alloc_new V _)) (by simp [AKey.cells,Value.oneCell']) (by omega) (by unfold maxLen;omega) (by omega) (Nat.zero_le _) (V.heap.size+1) (by simp) ?_;intro g cap' w2 hown2 hgrow hat hlt2;have kb2:w2.heap[sb]?=some (.cells #[nv,ts,tm,.slice ta K.length tc,.map (some mb),fs,ks,vd,ml] 98):=(hgrow.block sb (by simp;omega) (fun e=>HS1.out sb e.symm rfl)).trans ((Below.heap_alloc V _ sb hlV).trans KV.out);have d1:=cob kb2 3;have d1f:=fob kb2 3))
   all_goals
    obtain ⟨W3,hW3⟩:∃ W3,w2.setCell ⟨sb,3,none⟩ (.slice (some ⟨g,0,none⟩) (K.length+1) cap')=W3:=⟨_,rfl⟩
    have hxV:Ext (fun k=>(Value.slice ta K.length tc).ownBlock=some k) V w2:=((((Ext.refl (fun _=>False) V).alloc _).drew).mono (fun _ _ f=>f.elim)).grown hgrow (fun k hk _=>hk)
    have hx3:Ext (fun k=>k=sb) w2 W3:=by rw [<- hW3];exact (Ext.refl (fun k=>k=sb) w2).setCell (p:=⟨sb,3,none⟩) (fun _=>rfl) _
    have kb3:W3.heap[sb]?=some (.cells #[nv,ts,tm,(.slice (some ⟨g,0,none⟩) (K.length+1) cap'),.map (some mb),fs,ks,vd,ml] 98):=by rw [<- hW3];exact bsc kb2 3 _
    have kx3:W3.heap[w.heap.size]?=some (.cells #[.string x.wd,.int .i64 x.i,.int .i64 x.j,.int .i64 x.b] 153):=(hx3.block _ (Nat.lt_of_lt_of_le hlX hxV.size) (by show ¬w.heap.size=sb;omega)).trans ((hxV.block _ hlX (fun e=>by have:=(H.out.own.lt _ e).2;omega)).trans KX.out)
    have ho3:W3.drew.ownsMap Tryz.prog 153 (plainElem Tryz.prog 3) mb K.length D:=ownsMap_ext (ownsMap_ext (ownsMap_ext HOV.out hxV (fun e=>HSEP.out mb e rfl)) hx3 HMS.out) ((Ext.refl (fun _=>False) W3).drew) (fun f=>f)
    obtain ⟨W4,hst,how4,hturn⟩:=ho3.store kdAtom Tryz.underlying84 (by unfold maxLen;omega) HKE.out (plainElem_int Tryz.underlying3 (sm_wf (n:=(K.length:Int)) ⟨by omega,by omega⟩))
    have e1:=cob kb3 3
    have e2:=cob kb3 4
    have y0:=cob kx3 0
    have y1:=cob kx3 1
    have y2:=cob kx3 2
    have y3:=cob kx3 3
    have HN:Hid (num_atPost w sb nv ⟨ts,tm,.slice ta K.length tc,.map (some mb),fs,ks,vd,ml⟩ K x (.returned (.int .i64 K.length)) W4):=num_at_new (xs:=⟨ts,tm,.slice ta K.length tc,.map (some mb),fs,ks,vd,ml⟩) H.out HX.out hin ((HV.out.alloc _).drew) hgrow hown2 (hat.imp id (fun e=>by have:=HV.out.size;omega)) (by
     rcases hat with e | e
     ·exact fun e3=>HSEP.out mb (e3 ▸ e) rfl
     ·have:=HOV.out.lt;omega) (by
     rcases hat with e | e
     ·exact HS1.out g e
     ·omega) HMS.out HMB.out hx3 HMF.out HTD.out how4 ((((Ext.refl (fun _=>False) W3).drew).mono (fun _ _ f=>f.elim)).trans (mapTurned_ext hturn)) kb3
    rw [hW3]
    clear hW3 hxV hx3 kb3 kx3 ho3 how4 hturn kb2 hown2 hgrow hat c1 c2 d1 d1f
    go_wp2_with fail
    go_region
    all_goals
     go_wp2_with fail
     go_ret
     exact HN.out
def cut_atPost (w:World) (sb:Nat) (nv:Value) (xs:PX) (K:List AKey) (n:Nat) (w':World):Prop :=
 ∃ tv',w'.heap[sb]?=some (.cells #[nv,xs.ts,xs.tm,tv',xs.am,xs.fs,xs.ks,xs.vd,xs.ml] 98)/\ARow w' tv' xs.am (K.take n)/\Ext (fun k=>k=sb\/xs.at_.ownBlock=some k\/mapB xs.am=some k) w w'/\tv'.ownBlock=xs.at_.ownBlock
theorem cut_at_cells {K:List AKey} {n:Nat} (hn:n<=K.length):(K.flatMap AKey.cells).take (n * 4)=(K.take n).flatMap AKey.cells:=by
 have hl:∀ l:List AKey,(l.flatMap AKey.cells).length=l.length * 4:=by
  intro l
  induction l with
  | nil=>rfl
  | cons a l ih=>simp only [List.flatMap_cons,List.length_append,List.length_cons,ih];simp [AKey.cells];omega
 have e:K.flatMap AKey.cells=(K.take n).flatMap AKey.cells++(K.drop n).flatMap AKey.cells:=by rw [<- List.flatMap_append,List.take_append_drop]
 rw [e,List.take_append_of_le_length (by rw [hl,List.length_take];omega),List.take_of_length_le (by rw [hl,List.length_take];omega)]
theorem cut_at_get {K:List AKey} {i:Nat} {x:AKey} (h:K[i]?=some x) (q:Nat) (hq:q < 4):(K.flatMap AKey.cells)[i * 4+q]?=x.cells[q]?:=by
 obtain ⟨hi,hx⟩:=List.getElem?_eq_some_iff.1 h
 have hl:∀ l:List AKey,(l.flatMap AKey.cells).length=l.length * 4:=by
  intro l
  induction l with
  | nil=>rfl
  | cons a l ih=>simp only [List.flatMap_cons,List.length_append,List.length_cons,ih];simp [AKey.cells];omega
 have e:K.take i++x :: K.drop (i+1)=K:=by rw [<- hx,List.getElem_cons_drop,List.take_append_drop]
 have e2:(K.take i++x :: K.drop (i+1)).flatMap AKey.cells=(K.take i).flatMap AKey.cells++(x.cells++(K.drop (i+1)).flatMap AKey.cells):=by simp
 rw [e] at e2
 have hlt:((K.take i).flatMap AKey.cells).length=i * 4:=by rw [hl,List.length_take];congr 1;omega
 have hc:x.cells.length=4:=rfl
 rw [e2,List.getElem?_append_right (by rw [hlt];omega),hlt,show i * 4+q - i * 4=q by omega,List.getElem?_append_left (by omega)]
theorem cut_at_done {w wr w2 W:World} {sb n:Nat} {nv v':Value} {xs:PX} {K:List AKey} (h:ARow w xs.at_ xs.am K) (hn:n<=K.length) (hs1:∀ k,xs.at_.ownBlock=some k->¬k=sb) (hs2:∀ k,mapB xs.am=some k->¬k=sb) (hE:Ext (fun k=>mapB xs.am=some k) w wr)
  (hm:(xs.am=.map none/\K=[])\/∃ mb D,xs.am=.map (some mb)/\wr.ownsMap Tryz.prog 153 (plainElem Tryz.prog 3) mb (n+(K.length - K.length)) D/\MapF klA AKey.Ok (MidS K n K.length) K D (n+(K.length - K.length)))
  (hown:w2.ownsRow 0 153 4 v' n ((K.flatMap AKey.cells).take (n * 4))) (hx:Ext (fun k=>xs.at_.ownBlock=some k) wr w2) (hob:v'.ownBlock=xs.at_.ownBlock) (hW:Ext (fun k=>k=sb) w2 W) (kW:W.heap[sb]?=some (.cells #[nv,xs.ts,xs.tm,v',xs.am,xs.fs,xs.ks,xs.vd,xs.ml] 98)):cut_atPost w sb nv xs K n W:=by
 refine ⟨v',kW,⟨?_,h.nd.sublist (List.take_sublist n K),fun k hk=>h.ok k (List.mem_of_mem_take hk),?_,fun k hk=>by rw [hob] at hk;exact h.sep k hk⟩,?_,hob⟩
 ·rw [cut_at_cells hn] at hown
  have hl:(K.take n).length=n:=by rw [List.length_take];omega
  rw [hl]
  exact own_ext hown hW (fun k hk=>by rw [hob] at hk;exact hs1 k hk)
 ·rcases hm with ⟨e1,e2⟩ | ⟨mb,D,e1,ho,hmf⟩
  ·exact .inl ⟨e1,by rw [e2];simp⟩
  ·refine .inr ⟨mb,D,e1,?_,mapf_done hmf hn⟩
   have hl:(K.take n).length=n+(K.length - K.length):=by rw [List.length_take];omega
   rw [hl]
   exact ownsMap_ext (ownsMap_ext ho hx (fun e=>h.sep mb e (by rw [e1];rfl))) hW (hs2 mb (by rw [e1];rfl))
 ·exact ((hE.mono (fun _ _ e=>.inr (.inr e))).trans' hx (fun _ _ e=>.inr (.inl e))).trans' hW (fun _ _ e=>.inl e)
set_option maxRecDepth 100000 in
set_option maxHeartbeats 1000000 in
theorem cut_at_any {w:World} {sb:Nat} {nv:Value} {xs:PX} {K:List AKey} (n:Nat) (kb:w.heap[sb]?=some (.cells #[nv,xs.ts,xs.tm,xs.at_,xs.am,xs.fs,xs.ks,xs.vd,xs.ml] 98)) (h:ARow w xs.at_ xs.am K) (hs1:∀ k,xs.at_.ownBlock=some k->¬k=sb) (hs2:∀ k,mapB xs.am=some k->¬k=sb) (hlen:K.length<=10000000) (hn:n<=K.length) :
  Calls Tryz.prog 66 #[.pointer (some ⟨sb,3,none⟩),.int .i64 n] w fun e w'=>e=.returned (.tuple #[])/\cut_atPost w sb nv xs K n w':=by
 obtain ⟨ts,tm,at_,am,fs,ks,vd,ml⟩:=xs
 simp only at kb h hs1 hs2
 have hsb:=blt kb
 have hsh:(at_=.slice none 0 0/\K.length=0)\/∃ g tc,at_=.slice (some ⟨g,0,none⟩) K.length tc/\K.length<=tc/\tc<=9223372036854775807/\g < w.heap.size/\∀ q,q < K.length * 4->w.cell? ⟨g,q,none⟩=(K.flatMap AKey.cells)[q]?:=by
  rcases h.own.2 with ⟨e,e0⟩ | ⟨g,cap,cur,hv,_,hh,h1,h2,_⟩
  ·exact .inl ⟨e,e0⟩
  ·refine .inr ⟨g,cap,hv,h1,by unfold maxLen at h2;exact h2,blt hh,fun q hq=>?_⟩
   have h3:=h.own
   rw [hv] at h3
   exact h3.cellAt q hq
 rcases hsh with ⟨hts,hK0⟩ | ⟨g,tc,hts,htc,htc2,hgl,hcells⟩
 ·clear hlen
  have hKe:K=[]:=List.length_eq_zero_iff.1 hK0
  have hn0:n=0:=by omega
  subst hn0 hts
  have HM0:Hid ((am=.map none/\K=[])\/∃ mb D,am=.map (some mb)/\w.ownsMap Tryz.prog 153 (plainElem Tryz.prog 3) mb (0+(K.length - K.length)) D/\MapF klA AKey.Ok (MidS K 0 K.length) K D (0+(K.length - K.length))):=by
   rcases h.map with e | ⟨mb,D,e,ho,hm⟩
   ·exact .inl e
   ·have hm2:=mapf_mid hm (Nat.zero_le _)
    refine .inr ⟨mb,D,e,?_,?_⟩
    ·rw [show 0+(K.length - K.length)=K.length by omega];exact ho
    ·rw [hK0] at hm2 ⊢;exact hm2
  have c1:=cob kb 3
  have hlb:=hsb
  have H:=hide h
  have KB:=hide kb
  have HS1:=hide hs1
  have HS2:=hide hs2
  have HOR:=hide (own_ext h.own ((Ext.refl (fun _=>False) w).drew) (fun _ _ f=>f))
  rw [hK0] at HOR
  clear h kb hs1 hs2
  go_enter Tryz.func66,Tryz.ntmps66
  go_wp2_with fail
  go_loopw [13] (fun i wr=>i=.int .i64 0/\wr=w) (fun _ _=>0)
  case atStart=>exact ⟨rfl,rfl⟩
  case round =>
   obtain ⟨rfl,rfl⟩:=hrel
   go_wp2_with fail
   go_region_law (go_simp;go_wp2_with (go_at_call 101;refine (del_at HOR.out (Nat.le_refl 0) (by omega)).mono ?_;rintro e w2 ⟨v',rfl,hown2,hx2,hob⟩;obtain ⟨va,vc,rfl⟩:=row_shape hown2;have kb2:w2.heap[sb]?=some (.cells #[nv,ts,tm,.slice none 0 0,am,fs,ks,vd,ml] 98):=(hx2.block sb hlb (fun e=>HS1.out sb e rfl)).trans KB.out;have d1:=cob kb2 3;have d1f:=fob kb2 3))
   all_goals
    go_wp2_with fail
    go_end0
    refine ⟨rfl,?_⟩
    exact cut_at_done (xs:=⟨ts,tm,.slice none 0 0,am,fs,ks,vd,ml⟩) H.out (Nat.zero_le _) HS1.out HS2.out (Ext.refl _ _) HM0.out hown2 (((Ext.refl _ _).drew).trans hx2) hob ((Ext.refl (fun k=>k=sb) w2).setCell (p:=⟨sb,3,none⟩) (fun _=>rfl) _) (bsc kb2 3 _)
 ·by_cases hK0:K.length=0
  ·clear hlen hcells htc2
   rw [hK0] at hts
   have hKe:K=[]:=List.length_eq_zero_iff.1 hK0
   have hn0:n=0:=by omega
   subst hn0 hts
   have HM0:Hid ((am=.map none/\K=[])\/∃ mb D,am=.map (some mb)/\w.ownsMap Tryz.prog 153 (plainElem Tryz.prog 3) mb (0+(K.length - K.length)) D/\MapF klA AKey.Ok (MidS K 0 K.length) K D (0+(K.length - K.length))):=by
    rcases h.map with e | ⟨mb,D,e,ho,hm⟩
    ·exact .inl e
    ·have hm2:=mapf_mid hm (Nat.zero_le _)
     refine .inr ⟨mb,D,e,?_,?_⟩
     ·rw [show 0+(K.length - K.length)=K.length by omega];exact ho
     ·rw [hK0] at hm2 ⊢;exact hm2
   have c1:=cob kb 3
   have hlb:=hsb
   have H:=hide h
   have KB:=hide kb
   have HS1:=hide hs1
   have HS2:=hide hs2
   have HOR:=hide (own_ext h.own ((Ext.refl (fun _=>False) w).drew) (fun _ _ f=>f))
   rw [hK0] at HOR
   clear h kb hs1 hs2
   go_enter Tryz.func66,Tryz.ntmps66
   go_wp2_with fail
   go_loopw [13] (fun i wr=>i=.int .i64 0/\wr=w) (fun _ _=>0)
   case atStart=>exact ⟨rfl,rfl⟩
   case round =>
    obtain ⟨rfl,rfl⟩:=hrel
    go_wp2_with fail
    go_region_law (go_simp;go_wp2_with (go_at_call 101;refine (del_at HOR.out (Nat.le_refl 0) (by omega)).mono ?_;rintro e w2 ⟨v',rfl,hown2,hx2,hob⟩;obtain ⟨va,vc,rfl⟩:=row_shape hown2;have kb2:w2.heap[sb]?=some (.cells #[nv,ts,tm,.slice (some ⟨g,0,none⟩) 0 tc,am,fs,ks,vd,ml] 98):=(hx2.block sb hlb (fun e=>HS1.out sb e rfl)).trans KB.out;have d1:=cob kb2 3;have d1f:=fob kb2 3))
    all_goals
     go_wp2_with fail
     go_end0
     refine ⟨rfl,?_⟩
     exact cut_at_done (xs:=⟨ts,tm,.slice (some ⟨g,0,none⟩) 0 tc,am,fs,ks,vd,ml⟩) H.out (Nat.zero_le _) HS1.out HS2.out (Ext.refl _ _) HM0.out hown2 (((Ext.refl _ _).drew).trans hx2) hob ((Ext.refl (fun k=>k=sb) w2).setCell (p:=⟨sb,3,none⟩) (fun _=>rfl) _) (bsc kb2 3 _)
  subst hts
  rcases h.map with ⟨hmv,hK⟩ | ⟨mb,D,hmv,ho,hm⟩
  ·exact absurd (by rw [hK];rfl) hK0
  ·subst hmv
   obtain ⟨A,hA,hA2⟩:∃ A,(if tc=n then some (⟨g,0,none⟩:Addr) else some ⟨g,n * 4,none⟩)=some A/\(n < tc->A=⟨g,n * 4,none⟩):=by
    by_cases h:tc=n
    ·exact ⟨_,by rw [if_pos h],fun h2=>by omega⟩
    ·exact ⟨_,by rw [if_neg h],fun _=>rfl⟩
   have hnc:n<=tc:=by omega
   have c1:=cob kb 3
   have HMF:=hide (mapf_mid hm hn)
   have HO:=hide ho
   have H:=hide h
   have KB:=hide kb
   have HCELLS:=hide hcells
   have HA2:=hide hA2
   have HS1:=hide hs1
   have HS2:=hide hs2
   have HMS:Hid (¬mb=sb):=hs2 mb rfl
   have hml:=ho.lt
   clear h kb ho hm hcells hA2 hs1 hs2
   go_enter Tryz.func66,Tryz.ntmps66
   go_wp2_with fail
   go_loopw [13] (fun i wr=>∃ (j:Nat) (D:DataW Unit),n<=j/\j<=K.length/\i=.int .i64 ((j - n:Nat):Int)/\Ext (fun k=>k=mb) w wr/\wr.ownsMap Tryz.prog 153 (plainElem Tryz.prog 3) mb (n+(K.length - j)) D/\MapF klA AKey.Ok (MidS K n j) K D (n+(K.length - j))) (fun i _=>K.length - n - (intOf i).toNat)
   case atStart=>exact ⟨n,D,Nat.le_refl _,hn,by simp,Ext.refl _ _,by rw [show n+(K.length - n)=K.length by omega];exact HO.out,HMF.out⟩
   case round =>
    clear c1
    obtain ⟨j,Dj,hj1,hj2,rfl,hE,hoj,hmj⟩:=hrel
    have kbr:=(hE.block sb hsb (fun e=>HMS.out e.symm)).trans KB.out
    have c1:=cob kbr 3
    have c2:=cob kbr 4
    have hlb:=blt kbr
    have HE:=hide hE
    have HOJ:=hide hoj
    have HMJ:=hide hmj
    have KBR:=hide kbr
    clear hE hoj hmj kbr
    by_cases hlt:j < K.length
    ·obtain ⟨x,hx⟩:∃ x,K[j]?=some x:=⟨_,List.getElem?_eq_getElem hlt⟩
     have hAe:=HA2.out (by omega)
     subst hAe
     have hxo:=H.out.ok x (List.mem_of_getElem? hx)
     have hke:keyOf Tryz.prog 153 (.agg #[.string x.wd,.int .i64 x.i,.int .i64 x.j,.int .i64 x.b])=some (klA x):=klA_eq hxo
     have hgm:¬g=mb:=fun e=>H.out.sep g rfl (by rw [e];rfl)
     have hc:∀ q,q < 4->wr.cell? ⟨g,j * 4+q,none⟩=x.cells[q]?:=by
      intro q hq
      rw [HE.out.cell (p:=⟨g,j * 4+q,none⟩) hgl hgm,HCELLS.out _ (by omega)]
      exact cut_at_get hx q hq
     have z0:wr.cell? ⟨g,j * 4,none⟩=some (.string x.wd):=hc 0 (by decide)
     have z1:wr.cell? ⟨g,j * 4+1,none⟩=some (.int .i64 x.i):=hc 1 (by decide)
     have z2:wr.cell? ⟨g,j * 4+2,none⟩=some (.int .i64 x.j):=hc 2 (by decide)
     have z3:wr.cell? ⟨g,j * 4+3,none⟩=some (.int .i64 x.b):=hc 3 (by decide)
     have ho1:(wr.alloc (.cells #[.string x.wd,.int .i64 x.i,.int .i64 x.j,.int .i64 x.b] 153)).drew.ownsMap Tryz.prog 153 (plainElem Tryz.prog 3) mb (n+(K.length - j)) Dj:=(HOJ.out.alloc _).drew
     obtain ⟨W1,hdr,how,hturn⟩:=ho1.drop kdAtom Tryz.underlying84 hke 0
     have HMN:=hide (mapf_del HMJ.out (HOJ.out.tidy kdAtom) H.out.nd H.out.ok (fun y hy e=>klA_inj hy hxo e) hj1 hx)
     have hE1:Ext (fun k=>k=mb) w W1:=(((HE.out.alloc _).drew).trans (mapTurned_ext hturn))
     have HE1:=hide hE1
     have HOW:=hide (owns_size how HMN.out.size)
     have e4:n * 4+(j - n) * 4=j * 4:=by omega
     clear how hturn ho1 hke hx hc hE1
     go_wp2_with fail
     go_region
     all_goals
      go_wp2_with fail
      go_roundw
      case measure=>simp [intOf];omega
      case rel=>exact ⟨j+1,_,by omega,by omega,by congr 1;omega,HE1.out,HOW.out,HMN.out⟩
    ·have hjn:j=K.length:=by omega
     subst hjn
     have HOR:=hide (own_ext H.out.own HE.out.drew (fun k hk e=>H.out.sep k hk (by rw [e];rfl)))
     go_wp2_with fail
     go_region_law (go_simp;go_wp2_with (go_at_call 101;refine (del_at HOR.out hn (by omega)).mono ?_;rintro e w2 ⟨v',rfl,hown2,hx2,hob⟩;obtain ⟨va,vc,rfl⟩:=row_shape hown2;have kb2:w2.heap[sb]?=some (.cells #[nv,ts,tm,.slice (some ⟨g,0,none⟩) K.length tc,.map (some mb),fs,ks,vd,ml] 98):=(hx2.block sb hlb (fun e=>HS1.out sb e rfl)).trans KBR.out;have d1:=cob kb2 3;have d1f:=fob kb2 3))
     all_goals
      go_wp2_with fail
      go_end0
      refine ⟨rfl,?_⟩
      exact cut_at_done (xs:=⟨ts,tm,.slice (some ⟨g,0,none⟩) K.length tc,.map (some mb),fs,ks,vd,ml⟩) H.out hn HS1.out HS2.out (HE.out.mono (fun _ _ e=>by rw [e];rfl)) (.inr ⟨mb,Dj,rfl,HOJ.out,HMJ.out⟩) hown2 (((Ext.refl _ wr).drew).trans hx2) hob ((Ext.refl (fun k=>k=sb) w2).setCell (p:=⟨sb,3,none⟩) (fun _=>rfl) _) (bsc kb2 3 _)
def ndVal:Nd->Int
 | .mk _ _ v _=>v
def bnd (ps:List Nd):Int:=match ps[2]? with
 | some nd=>ndVal nd
 | none=>0
noncomputable def keyA (T:List Nd):Nd->AKey
 | .mk _ w _ ps=>⟨w,ix T (ps.take 2) 0,ix T (ps.take 2) 1,bnd ps⟩
def ends (x:Nd):List Nd:=(parts x).take 2
theorem keyA_pre {T T':List Nd} (h:T <+: T') {x:Nd} (hp:∀ p∈ends x,p∈T):keyA T' x=keyA T x:=by
 cases x with
 | mk k w v ps =>
  have hp':∀ p∈ps.take 2,p∈T:=hp
  simp only [keyA,ix_pre h hp']
theorem rel_size {l:List UInt8} (h:AtW l):l.length<=2:=by
 rcases h with rfl | rfl | rfl | rfl <;> decide
theorem atom_shape {x:Nd} (h:AtOk x):∃ w a b r,x=.mk 2 w 0 (a :: b :: r)/\AtW w.toList/\TmOk a/\TmOk b/\(r=[]\/∃ v,r=[.mk 5 ByteArray.empty v []] /\ -1000<=v/\v<=1000):=by
 cases h with
 | @two w a b hw ha hb =>
  refine ⟨w,a,b,[],rfl,?_,ha,hb,.inl rfl⟩
  rcases hw with h | h | h
  ·exact .inl h
  ·exact .inr (.inl h)
  ·exact .inr (.inr (.inl h))
 | @le w a b v hw ha hb h1 h2=>exact ⟨w,a,b,_,rfl,.inr (.inr (.inr hw)),ha,hb,.inr ⟨v,rfl,h1,h2⟩⟩
theorem keyA_ok {T:List Nd} {x:Nd} (hx:AtOk x) (hp:∀ p∈ends x,p∈T) (hl:T.length<=10000000):(keyA T x).Ok:=by
 obtain ⟨w,a,b,r,rfl,hw,_,_,hr⟩:=atom_shape hx
 have hp':∀ p∈(a :: b :: r).take 2,p∈T:=hp
 have hsz:=rel_size hw
 rw [len_toList] at hsz
 refine ⟨by show _<=_;simp only [keyA];omega,ix_sm hp' hl 0,ix_sm hp' hl 1,?_⟩
 rcases hr with rfl | ⟨v,rfl,h1,h2⟩
 ·exact sm0
 ·exact ⟨by show _<=_;simp [keyA,bnd,ndVal];omega,by show _<=_;simp [keyA,bnd,ndVal];omega⟩
theorem keyA_inj {T:List Nd} {x y:Nd} (hx:AtOk x) (hy:AtOk y) (hpx:∀ p∈ends x,p∈T) (hpy:∀ p∈ends y,p∈T) (h:keyA T x=keyA T y):x=y:=by
 have ex:∀ (w:ByteArray) (a b:Nd) (r:List Nd),(∀ p∈ends (.mk 2 w 0 (a :: b :: r)),p∈T)->a∈T/\b∈T:=by
  intro w a b r hp
  exact ⟨hp a (by simp [ends,parts]),hp b (by simp [ends,parts])⟩
 have ek:∀ (w:ByteArray) (a b:Nd) (r:List Nd),keyA T (.mk 2 w 0 (a :: b :: r))=⟨w,idx T a,idx T b,bnd (a :: b :: r)⟩:=by
  intro w a b r
  rfl
 cases hx with
 | @two w a b hw ha hb =>
  obtain ⟨m1,m2⟩:=ex _ _ _ _ hpx
  cases hy with
  | @two w' a' b' hw' ha' hb' =>
   obtain ⟨m3,m4⟩:=ex _ _ _ _ hpy
   rw [ek,ek] at h
   simp only [AKey.mk.injEq] at h
   obtain ⟨rfl,e1,e2,_⟩:=h
   rw [idx_inj m1 m3 (by omega),idx_inj m2 m4 (by omega)]
  | @le w' a' b' v' hw' ha' hb' _ _ =>
   rw [ek,ek] at h
   simp only [AKey.mk.injEq] at h
   have h1:=h.1
   rw [h1] at hw
   rw [hw'] at hw
   exact absurd hw (by decide)
 | @le w a b v hw ha hb _ _ =>
  obtain ⟨m1,m2⟩:=ex _ _ _ _ hpx
  cases hy with
  | @two w' a' b' hw' ha' hb' =>
   rw [ek,ek] at h
   simp only [AKey.mk.injEq] at h
   rw [<- h.1,hw] at hw'
   exact absurd hw' (by decide)
  | @le w' a' b' v' hw' ha' hb' _ _ =>
   obtain ⟨m3,m4⟩:=ex _ _ _ _ hpy
   rw [ek,ek] at h
   simp only [AKey.mk.injEq] at h
   obtain ⟨rfl,e1,e2,e3⟩:=h
   have e4:v=v':=e3
   rw [idx_inj m1 m3 (by omega),idx_inj m2 m4 (by omega),e4]
noncomputable def keysA (T A:List Nd):List AKey:=A.map (keyA T)
theorem keysA_len (T A:List Nd):(keysA T A).length=A.length:=by simp [keysA]
def AC (T A:List Nd):Prop:=∀ x∈A,AtOk x/\∀ p∈ends x,p∈T
theorem keysA_pre {T T' A:List Nd} (h:T <+: T') (hc:AC T A):keysA T' A=keysA T A:=by
 unfold keysA
 apply List.map_congr_left
 intro x hx
 exact keyA_pre h (hc x hx).2
theorem AC.pre {T T' A:List Nd} (h:AC T A) (hp:T <+: T'):AC T' A:=fun x hx=>⟨(h x hx).1,fun p hpp=>hp.subset ((h x hx).2 p hpp)⟩
theorem keysA_put {T A:List Nd} {x:Nd} (hc:AC T A) (hx:AtOk x) (hp:∀ p∈ends x,p∈T):keysA T (putN A x)=putK (keysA T A) (keyA T x):=by
 by_cases hin:x∈A
 ·rw [putN_in hin,putK_in (show keyA T x∈keysA T A from List.mem_map.2 ⟨x,hin,rfl⟩)]
 ·have hno:¬keyA T x∈keysA T A:=by
   intro hm
   obtain ⟨y,hy,e⟩:=List.mem_map.1 hm
   have:=keyA_inj (hc y hy).1 hx (hc y hy).2 hp e
   exact hin (this ▸ hy)
  rw [putN_new hin,putK_new hno]
  simp [keysA]
theorem keysA_take {T A:List Nd} (n m:Nat) (hc:AC (T.take m) (A.take n)):keysA (T.take m) (A.take n)=(keysA T A).take n:=by
 have h1:=keysA_pre (List.take_prefix m T) hc
 unfold keysA at *
 rw [<- List.map_take,h1]
structure PSt (w:World) (sb:Nat) (nv:Value) (xs:PX) (T A:List Nd):Prop where
 ts:TS w sb nv xs T
 ar:ARow w xs.at_ xs.am (keysA T A)
 ac:AC T A
 nd:A.Nodup
 s3:∀ k,xs.at_.ownBlock=some k->¬k=sb
 s4:∀ k,mapB xs.am=some k->¬k=sb
 ap:∀ k,TF sb xs k->¬xs.at_.ownBlock=some k/\¬mapB xs.am=some k
def PF (sb:Nat) (xs:PX) (k:Nat):Prop:=TF sb xs k\/xs.at_.ownBlock=some k\/mapB xs.am=some k
theorem PSt.lt {w:World} {sb:Nat} {nv:Value} {xs:PX} {T A:List Nd} (h:PSt w sb nv xs T A):∀ k,PF sb xs k->k < w.heap.size:=by
 rintro k (e | e | e)
 ·exact h.ts.lt k e
 ·exact (h.ar.own.lt k e).2
 ·rcases h.ar.map with ⟨e2,_⟩ | ⟨mb,D,e2,ho,_⟩
  ·rw [e2] at e;exact absurd e (by simp [mapB])
  ·rw [e2] at e
   simp [mapB] at e
   subst e
   exact ho.lt
theorem PSt.ext {S:Nat->Prop} {w w':World} {sb:Nat} {nv:Value} {xs:PX} {T A:List Nd} (h:PSt w sb nv xs T A) (hx:Ext S w w') (hS:∀ k,PF sb xs k->¬S k):PSt w' sb nv xs T A :=
 ⟨h.ts.ext hx (fun k hk=>hS k (.inl hk)),h.ar.ext hx (fun k hk=>hS k (.inr (.inl hk))) (fun k hk=>hS k (.inr (.inr hk))),h.ac,h.nd,h.s3,h.s4,h.ap⟩
def APost (w:World) (sb:Nat) (nv:Value) (xs:PX) (T' A':List Nd) (w':World):Prop :=
 ∃ ts' tm' at' am',PSt w' sb nv { xs with ts:=ts',tm:=tm',at_:=at',am:=am' } T' A'/\Ext (PF sb xs) w w'/\(∀ k,PF sb { xs with ts:=ts',tm:=tm',at_:=at',am:=am' } k->PF sb xs k\/w.heap.size<=k)
theorem pst_terms {w w':World} {sb B:Nat} {nv:Value} {xs:PX} {T T' A:List Nd} {ts' tm':Value} (h:PSt w sb nv xs T A) (hB:w.heap.size<=B) (hpre:T <+: T') (h2:TS w' sb nv { xs with ts:=ts',tm:=tm' } T') (hE:Ext (TF sb xs) w w') (hF:∀ k,TF sb { xs with ts:=ts',tm:=tm' } k->TF sb xs k\/B<=k) :
  PSt w' sb nv { xs with ts:=ts',tm:=tm' } T' A:=by
 refine ⟨h2,?_,h.ac.pre hpre,h.nd,h.s3,h.s4,fun k hk=>?_⟩
 ·rw [keysA_pre hpre h.ac]
  exact h.ar.ext hE (fun g hg hf=>(h.ap g hf).1 hg) (fun g hg hf=>(h.ap g hf).2 hg)
 ·rcases hF k hk with e | e
  ·exact h.ap k e
  ·exact ⟨fun e2=>by have:=h.lt k (.inr (.inl e2));omega,fun e2=>by have:=h.lt k (.inr (.inr e2));omega⟩
theorem keyA_place {T A:List Nd} {x:Nd} (hc:AC T A) (hx:AtOk x) (hp:∀ p∈ends x,p∈T) (hnd:(keysA T (putN A x)).Nodup) {i:Nat} (h:(putK (keysA T A) (keyA T x))[i]?=some (keyA T x)):i=idx (putN A x) x:=by
 rw [<- keysA_put hc hx hp] at h
 have hm:x∈putN A x:=mem_putN.2 (.inr rfl)
 have h1:(keysA T (putN A x))[idx (putN A x) x]?=some (keyA T x):=by
  unfold keysA
  rw [List.getElem?_map,idx_get hm]
  rfl
 obtain ⟨hi,e1⟩:=List.getElem?_eq_some_iff.1 h
 obtain ⟨hj,e2⟩:=List.getElem?_eq_some_iff.1 h1
 have hpw:=List.pairwise_iff_getElem.1 hnd
 rcases Nat.lt_trichotomy i (idx (putN A x) x) with hlt | heq | hgt
 ·exact absurd (e1.trans e2.symm) (hpw _ _ hi hj hlt)
 ·exact heq
 ·exact absurd (e2.trans e1.symm) (hpw _ _ hj hi hgt)
theorem num_atree {w:World} {sb:Nat} {nv:Value} {xs:PX} {T A:List Nd} {x:Nd} (h:PSt w sb nv xs T A) (hx:AtOk x) (hp:∀ p∈ends x,p∈T) (hl:T.length<=10000000) (hl2:A.length<=10000000) :
  Calls Tryz.prog 149 #[.pointer (some ⟨sb,3,none⟩),(keyA T x).val] w fun e w'=>e=.returned (.int .i64 (idx (putN A x) x:Nat))/\APost w sb nv xs T (putN A x) w':=by
 refine (num_at_any (keyA T x) h.ts.blk h.ar (keyA_ok hx hp hl) h.s3 h.s4 (by rw [keysA_len];exact hl2)).mono ?_
 rintro e w' ⟨i,tv',mv',rfl,hi,hb,hr,hE,h1,h2⟩
 rw [<- keysA_put h.ac hx hp] at hr
 have hpl:=keyA_place h.ac hx hp hr.nd hi
 subst hpl
 have hsb:=blt h.ts.blk
 have hlt:=h.lt
 refine ⟨rfl,xs.ts,xs.tm,tv',mv',⟨⟨hb,h.ts.row.ext hE ?_ ?_,h.ts.cl,h.ts.nd,h.ts.s1,h.ts.s2⟩,hr,?_,putN_nodup h.nd,?_,?_,?_⟩,?_,?_⟩
 ·rintro g hg (e | e | e)
  ·exact h.ts.s1 g hg e
  ·exact (h.ap g (.inr (.inl hg))).1 e
  ·exact (h.ap g (.inr (.inl hg))).2 e
 ·rintro g hg (e | e | e)
  ·exact h.ts.s2 g hg e
  ·exact (h.ap g (.inr (.inr hg))).1 e
  ·exact (h.ap g (.inr (.inr hg))).2 e
 ·intro y hy
  rcases mem_putN.1 hy with hy | rfl
  ·exact h.ac y hy
  ·exact ⟨hx,hp⟩
 ·intro k hk e
  rcases h1 k hk with h' | h'
  ·exact h.s3 k h' e
  ·omega
 ·intro k hk e
  rcases h2 k hk with h' | h'
  ·exact h.s4 k h' e
  ·omega
 ·intro k hk
  have hk':TF sb xs k:=hk
  have hkl:=hlt k (.inl hk')
  refine ⟨fun e=>?_,fun e=>?_⟩
  ·rcases h1 k e with h' | h'
   ·exact (h.ap k hk').1 h'
   ·omega
  ·rcases h2 k e with h' | h'
   ·exact (h.ap k hk').2 h'
   ·omega
 ·exact hE.mono (fun k _ e=>e.elim (fun e=>.inl (.inl e)) (fun e=>.inr e))
 ·rintro k (e | e | e)
  ·exact .inl (.inl e)
  ·exact (h1 k e).imp (fun h=>.inr (.inl h)) id
  ·exact (h2 k e).imp (fun h=>.inr (.inr h)) id
end Go.Proofs.YtegbdaffhpiacaaGreatDoor
