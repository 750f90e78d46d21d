/- A part of the proof. -/
import Derived.Test.YtegbdaffhpiacaaGreatDoorMod13
import Derived.Lib.SliceRun
import Derived.Laws.IdiomCopy
import Derived.Deep.RegionLaw
set_option maxRecDepth 100000
set_option maxHeartbeats 1000000
namespace Go.Proofs.YtegbdaffhpiacaaGreatDoor
open Tryz
open Go.RowKit Ar
theorem zr7(g:Nat):∀ (vs:List Value) (o:Nat) (w:World) (cur:Array Value) (e:TypeId),w.heap[g]?=some (.cells cur e (0,0)) ->
  ∃ cur':Array Value,(w.setCells g o vs).heap[g]?=some (.cells cur' e (0,0))/\cur'.size=cur.size/\∀ i,i<o->cur'[i]?=cur[i]?
 | [],o,w,cur,e,h=>⟨cur,h,rfl,fun _ _=>rfl⟩
 | v::vs,o,w,cur,e,h=>by obtain⟨cur',h1,h2,h3⟩:=zr7 g vs (o+1) (w.setCell ⟨g,o,none⟩ v) _ e (Y4 h o v);refine⟨cur',h1,by simpa using h2,fun i hi=>?_⟩;rw[h3 i (by omega)];simp[Array.getElem?_setIfInBounds];omega
theorem zi1(w:World)(b o:Nat):w.setCells b o []=w:=rfl
theorem zz9(g:Nat):∀ (vs:List Value) (o:Nat) (w:World),q9 (fun k=>k=g) w (w.setCells g o vs)
 | [],_,w=>q9.refl _ w
 | v::vs,o,w=>((q9.refl (fun k=>k=g) w).setCell (p:=⟨g,o,none⟩) (fun _=>rfl) v).trans' (zz9 g vs (o+1) _) (fun _ _ e=>e)
theorem qq4{z:Array Value}{n:Nat}(hz:0<z.size):(Builtin.zeroCells z n).toList.length=n*z.size/\∀ u∈(Builtin.zeroCells z n).toList,u∈z.toList:=by unfold Builtin.zeroCells;refine⟨by simp,fun u hu=>?_⟩;simp at hu;obtain⟨i,_,rfl⟩:=hu;have h:=Nat.mod_lt i hz;rw[getElem!_pos z _ h];simp
theorem zn2{P:Program}(w:World)(t e ty:TypeId)(z:Value)(ht:P.underlying t=some (.slice e))(hv:∀ w,(zeroValue e).run P w=.ok z w)(hz:0<z.cells.size)(h1:∀ u∈z.cells.toList,u.oneCell' = true)(b o n c:Nat)(hn:0<n)
  (hc:∀ j,j<n*z.cells.size->(w.cell? ⟨b,o+j,none⟩).isSome=true) (hf:∀ j,j<n*z.cells.size->w.frozen? ⟨b,o+j,none⟩=false):
  (Builtin.clear_ #[t] ty #[.slice (some ⟨b,o,none⟩) n c]).run P w=.ok (.tuple #[]) (w.setCells b o (Builtin.zeroCells z.cells n).toList):=by
 obtain⟨hl,hm⟩:=qq4 (n:=n) hz;have hst:=run_storeCells_cells (P:=P) b o (Builtin.zeroCells z.cells n).toList 0 w (by rw[hl];simpa using hc) (by rw[hl];simpa using hf) (fun v hv'=>h1 v (hm v hv'));simp only[Nat.add_zero] at hst;obtain⟨m,rfl⟩:∃ m,n=m+1:=⟨n-1,by omega⟩;simp[Builtin.clear_,run_underlying ht,hv,hst]
def zt7(w:World)(e size:Nat)(v:Value)(m:Nat)(xs:List Value)(en:Ending)(w':World):Prop :=
 ∃ v',en=.returned v'/\w'.ownsRow 0 e size v' m (xs.take (m*size))/\q9 (fun k=>v.ownBlock=some k) w w'/\v'.ownBlock=v.ownBlock
theorem zh0{w:World}{e size n:Nat}{v:Value}{xs:List Value}(h:w.ownsRow 0 e size v n xs):zt7 w e size v n xs (.returned v) w:=by refine⟨v,rfl,?_,q9.refl _ _,rfl⟩;rw[List.take_of_length_le (by rw[h.1];exact Nat.le_refl _)];exact h
theorem zA0{w w1:World}{e size n m g cap o:Nat}{xs vs:List Value}(h:w.ownsRow 0 e size (.slice (some ⟨g,0,none⟩) n cap) n xs)(hm:m<=n)(ho:m*size<=o)(hx:q9 (fun _=>False) w w1):
  zt7 w e size (.slice (some ⟨g,0,none⟩) n cap) m xs (.returned (.slice (some ⟨g,0,none⟩) m cap)) (w1.setCells g o vs):=by
 rcases h.2 with⟨e0,_⟩|⟨g',cap',cur,hv,hg,hh,hn,hc,hs,ht⟩
 ·cases e0
 ·cases hv;obtain⟨cur',k1,k2,k3⟩:=zr7 g vs o w1 cur e ((hx.block g (z8 hh) (fun f=>f)).trans hh);refine⟨_,rfl,⟨?_,Or.inr ⟨g,cap,cur',rfl,Nat.zero_le _,k1,by omega,hc,by omega,?_⟩⟩,?_,rfl⟩
  ·rw[List.length_take,h.1];have:=Nat.mul_le_mul_right size hm;omega
  ·rw[<- ht,List.take_take,Nat.min_eq_left (Nat.mul_le_mul_right size hm)];apply List.ext_getElem?;intro i;by_cases hi:i<m*size
   ·rw[List.getElem?_take_of_lt hi,List.getElem?_take_of_lt hi,Array.getElem?_toList,Array.getElem?_toList];exact k3 i (by omega)
   ·rw[List.getElem?_eq_none (by simp;omega),List.getElem?_eq_none (by simp;omega)]
  ·exact(hx.mono (fun _ _ f=>f.elim)).trans' (zz9 g vs o w1) (fun _ _ e=>by rw[e];rfl)
theorem zb5{w:World}{e size n g cap:Nat}{xs:List Value}(h:w.ownsRow 0 e size (.slice (some ⟨g,0,none⟩) n cap) n xs):∀ j,j<n*size->(w.cell? ⟨g,j,none⟩).isSome=true/\w.frozen? ⟨g,j,none⟩=false:=by
 rcases h.2 with⟨e0,_⟩|⟨g',cap',cur,hv,hg,hh,hn,hc,hs,ht⟩
 ·cases e0
 ·cases hv;intro j hj;have hjs:j<cur.size:=by
   rw[hs];have:=Nat.mul_le_mul_right size hn;omega
  refine⟨?_,Q8 hh j⟩;rw[z6 hh j,Array.getElem?_eq_getElem hjs]
  rfl
theorem zA1:(prog.info? 145).map (fun i=>(i.zero,i.size,i.bytes))=some (some (.agg #[.string ByteArray.empty,.int .i64 0,.int .i64 0,.int .i64 0,.int .i64 0,.int .i64 0]),6,56):=by kernel_rfl
theorem zA2:(prog.info? 153).map (fun i=>(i.zero,i.size,i.bytes))=some (some (.agg #[.string ByteArray.empty,.int .i64 0,.int .i64 0,.int .i64 0]),4,40):=by kernel_rfl
theorem zH8:(prog.info? 112).map (fun i=>(i.zero,i.size,i.bytes))=some (some (.agg #[.int .i64 0,.string ByteArray.empty,.int .i64 0,.slice none 0 0]),4,56):=by kernel_rfl
theorem jo0{w:World}{v:Value}{n m:Nat}{xs:List Value}(h:w.ownsRow 0 142 2 v n xs)(hm:m<=n)(hn:n<=100000000):
  Calls prog 64 #[v,.int .i64 m,.int .i64 n] w (zt7 w 142 2 v m xs):=by
 have H:=q8 h;by_cases heq:m=n
 ·subst heq;obtain⟨a,cap,hv,hc⟩:∃ a cap,v=.slice a m cap/\m<=cap/\cap<=maxLen:=by
   rcases h.2 with⟨e,e0⟩|⟨g,cap,cur,hv,_,_,h1,h2,_⟩
   ·exact⟨none,0,by rw[e,e0],by omega,Nat.zero_le _⟩
   ·exact⟨_,cap,hv,h1,h2⟩
  subst hv;obtain⟨hc1,hc2⟩:=hc;unfold maxLen at hc2;clear h;cases a with
  | none=>
   have hm0:m=0:=by
    rcases H.out.2 with⟨e,e0⟩|⟨g,cap,cur,hv,_⟩
    ·exact e0
    ·cases hv
   subst hm0;have hcap:cap=0:=by
    rcases H.out.2 with⟨e,e0⟩|⟨g,cap,cur,hv,_⟩
    ·cases e;rfl
    ·cases hv
   subst hcap;go_enter func64,ntmps64;go_wp2_with fail;go_ret;exact zh0 H.out
  | some a=>go_enter func64,ntmps64;go_wp2_with fail;go_ret;exact zh0 H.out
 ·rcases h.2 with⟨e,e0⟩|⟨g,cap,cur,hv,hg,hh,h1,h2,h3,h4⟩
  ·omega
  subst hv;unfold maxLen at h2;have hgl:=z8 hh;obtain⟨i0,hi,hz0,hz1,hz2⟩:=info_parts qC2;have hne:((m:Int)==(n:Int))=false:=by simp;omega
  obtain⟨A,hA⟩:∃ A,(if cap=n then some (⟨g,0,none⟩:Addr) else some ⟨g,n*2,none⟩)=some A:=by
   by_cases h:cap=n
   ·exact⟨_,by rw[if_pos h]⟩
   ·exact⟨_,by rw[if_neg h]⟩
  have hcl:∀ ty,(Builtin.clear_ #[76] ty #[.slice (some ⟨g,m*2,none⟩) (n-m) (cap-m)]).run prog w.drew=.ok (.tuple #[]) (w.drew.setCells g (m*2) (Builtin.zeroCells (.agg #[.string ByteArray.empty,.int .i64 0]:Value).cells (n-m)).toList) :=
   fun ty=>zn2 w.drew _ _ ty (.agg #[.string ByteArray.empty,.int .i64 0]) underlying76 (fun _=>by kernel_rfl) (by decide) (by decide) g (m*2) _ _ (by omega) (fun j hj=>(zb5 H.out (m*2+j) (by have:j<(n-m)*2:=hj;omega)).1) (fun j hj=>(zb5 H.out (m*2+j) (by have:j<(n-m)*2:=hj;omega)).2)
  have hmc:m<=cap:=by omega
  clear h hh h3 h4;go_enter func64,ntmps64;go_wp2_with fail
  go_region_law (refine step_append_room rfl (.tmp 22) (.tmp 25) 76 rfl 142 i0 2 underlying76 hi hz1 g 0 m cap (by simp[Act.eval,Act.put]) A 0 (cap-n) [] (by simp[Act.eval,Act.put]) (by simp) (by simp) (by simp) (by omega) (by simp) ?_;rw[zi1])
  go_wp2_with fail;go_ret;exact zA0 H.out hm (Nat.le_refl _) ((q9.refl _ w).drew)
theorem qq5{w:World}{v:Value}{n m:Nat}{xs:List Value}(h:w.ownsRow 0 145 6 v n xs)(hm:m<=n)(hn:n<=100000000):
  Calls prog 100 #[v,.int .i64 m,.int .i64 n] w (zt7 w 145 6 v m xs):=by
 have H:=q8 h;by_cases heq:m=n
 ·subst heq;obtain⟨a,cap,hv,hc⟩:∃ a cap,v=.slice a m cap/\m<=cap/\cap<=maxLen:=by
   rcases h.2 with⟨e,e0⟩|⟨g,cap,cur,hv,_,_,h1,h2,_⟩
   ·exact⟨none,0,by rw[e,e0],by omega,Nat.zero_le _⟩
   ·exact⟨_,cap,hv,h1,h2⟩
  subst hv;obtain⟨hc1,hc2⟩:=hc;unfold maxLen at hc2;clear h;cases a with
  | none=>
   have hm0:m=0:=by
    rcases H.out.2 with⟨e,e0⟩|⟨g,cap,cur,hv,_⟩
    ·exact e0
    ·cases hv
   subst hm0;have hcap:cap=0:=by
    rcases H.out.2 with⟨e,e0⟩|⟨g,cap,cur,hv,_⟩
    ·cases e;rfl
    ·cases hv
   subst hcap;go_enter func100,ntmps100;go_wp2_with fail;go_ret;exact zh0 H.out
  | some a=>go_enter func100,ntmps100;go_wp2_with fail;go_ret;exact zh0 H.out
 ·rcases h.2 with⟨e,e0⟩|⟨g,cap,cur,hv,hg,hh,h1,h2,h3,h4⟩
  ·omega
  subst hv;unfold maxLen at h2;have hgl:=z8 hh;obtain⟨i0,hi,hz0,hz1,hz2⟩:=info_parts zA1;have hne:((m:Int)==(n:Int))=false:=by simp;omega
  obtain⟨A,hA⟩:∃ A,(if cap=n then some (⟨g,0,none⟩:Addr) else some ⟨g,n*6,none⟩)=some A:=by
   by_cases h:cap=n
   ·exact⟨_,by rw[if_pos h]⟩
   ·exact⟨_,by rw[if_neg h]⟩
  have hcl:∀ ty,(Builtin.clear_ #[79] ty #[.slice (some ⟨g,m*6,none⟩) (n-m) (cap-m)]).run prog w.drew=.ok (.tuple #[]) (w.drew.setCells g (m*6) (Builtin.zeroCells (.agg #[.string ByteArray.empty,.int .i64 0,.int .i64 0,.int .i64 0,.int .i64 0,.int .i64 0]:Value).cells (n-m)).toList) :=
   fun ty=>zn2 w.drew _ _ ty (.agg #[.string ByteArray.empty,.int .i64 0,.int .i64 0,.int .i64 0,.int .i64 0,.int .i64 0]) underlying79 (fun _=>by kernel_rfl) (by decide) (by decide) g (m*6) _ _ (by omega) (fun j hj=>(zb5 H.out (m*6+j) (by have:j<(n-m)*6:=hj;omega)).1) (fun j hj=>(zb5 H.out (m*6+j) (by have:j<(n-m)*6:=hj;omega)).2)
  have hmc:m<=cap:=by omega
  clear h hh h3 h4;go_enter func100,ntmps100;go_wp2_with fail
  go_region_law (refine step_append_room rfl (.tmp 22) (.tmp 25) 79 rfl 145 i0 6 underlying79 hi hz1 g 0 m cap (by simp[Act.eval,Act.put]) A 0 (cap-n) [] (by simp[Act.eval,Act.put]) (by simp) (by simp) (by simp) (by omega) (by simp) ?_;rw[zi1])
  go_wp2_with fail;go_ret;exact zA0 H.out hm (Nat.le_refl _) ((q9.refl _ w).drew)
theorem qq6{w:World}{v:Value}{n m:Nat}{xs:List Value}(h:w.ownsRow 0 153 4 v n xs)(hm:m<=n)(hn:n<=100000000):
  Calls prog 101 #[v,.int .i64 m,.int .i64 n] w (zt7 w 153 4 v m xs):=by
 have H:=q8 h;by_cases heq:m=n
 ·subst heq;obtain⟨a,cap,hv,hc⟩:∃ a cap,v=.slice a m cap/\m<=cap/\cap<=maxLen:=by
   rcases h.2 with⟨e,e0⟩|⟨g,cap,cur,hv,_,_,h1,h2,_⟩
   ·exact⟨none,0,by rw[e,e0],by omega,Nat.zero_le _⟩
   ·exact⟨_,cap,hv,h1,h2⟩
  subst hv;obtain⟨hc1,hc2⟩:=hc;unfold maxLen at hc2;clear h;cases a with
  | none=>
   have hm0:m=0:=by
    rcases H.out.2 with⟨e,e0⟩|⟨g,cap,cur,hv,_⟩
    ·exact e0
    ·cases hv
   subst hm0;have hcap:cap=0:=by
    rcases H.out.2 with⟨e,e0⟩|⟨g,cap,cur,hv,_⟩
    ·cases e;rfl
    ·cases hv
   subst hcap;go_enter func101,ntmps101;go_wp2_with fail;go_ret;exact zh0 H.out
  | some a=>go_enter func101,ntmps101;go_wp2_with fail;go_ret;exact zh0 H.out
 ·rcases h.2 with⟨e,e0⟩|⟨g,cap,cur,hv,hg,hh,h1,h2,h3,h4⟩
  ·omega
  subst hv;unfold maxLen at h2;have hgl:=z8 hh;obtain⟨i0,hi,hz0,hz1,hz2⟩:=info_parts zA2;have hne:((m:Int)==(n:Int))=false:=by simp;omega
  obtain⟨A,hA⟩:∃ A,(if cap=n then some (⟨g,0,none⟩:Addr) else some ⟨g,n*4,none⟩)=some A:=by
   by_cases h:cap=n
   ·exact⟨_,by rw[if_pos h]⟩
   ·exact⟨_,by rw[if_neg h]⟩
  have hcl:∀ ty,(Builtin.clear_ #[83] ty #[.slice (some ⟨g,m*4,none⟩) (n-m) (cap-m)]).run prog w.drew=.ok (.tuple #[]) (w.drew.setCells g (m*4) (Builtin.zeroCells (.agg #[.string ByteArray.empty,.int .i64 0,.int .i64 0,.int .i64 0]:Value).cells (n-m)).toList) :=
   fun ty=>zn2 w.drew _ _ ty (.agg #[.string ByteArray.empty,.int .i64 0,.int .i64 0,.int .i64 0]) underlying83 (fun _=>by kernel_rfl) (by decide) (by decide) g (m*4) _ _ (by omega) (fun j hj=>(zb5 H.out (m*4+j) (by have:j<(n-m)*4:=hj;omega)).1) (fun j hj=>(zb5 H.out (m*4+j) (by have:j<(n-m)*4:=hj;omega)).2)
  have hmc:m<=cap:=by omega
  clear h hh h3 h4;go_enter func101,ntmps101;go_wp2_with fail
  go_region_law (refine step_append_room rfl (.tmp 22) (.tmp 25) 83 rfl 153 i0 4 underlying83 hi hz1 g 0 m cap (by simp[Act.eval,Act.put]) A 0 (cap-n) [] (by simp[Act.eval,Act.put]) (by simp) (by simp) (by simp) (by omega) (by simp) ?_;rw[zi1])
  go_wp2_with fail;go_ret;exact zA0 H.out hm (Nat.le_refl _) ((q9.refl _ w).drew)
theorem jo1{w:World}{v:Value}{n m:Nat}{xs:List Value}(h:w.ownsRow 0 112 4 v n xs)(hm:m<=n)(hn:n<=100000000):
  Calls prog 45 #[v,.int .i64 m,.int .i64 n] w (zt7 w 112 4 v m xs):=by
 have H:=q8 h;by_cases heq:m=n
 ·subst heq;obtain⟨a,cap,hv,hc⟩:∃ a cap,v=.slice a m cap/\m<=cap/\cap<=maxLen:=by
   rcases h.2 with⟨e,e0⟩|⟨g,cap,cur,hv,_,_,h1,h2,_⟩
   ·exact⟨none,0,by rw[e,e0],by omega,Nat.zero_le _⟩
   ·exact⟨_,cap,hv,h1,h2⟩
  subst hv;obtain⟨hc1,hc2⟩:=hc;unfold maxLen at hc2;clear h;cases a with
  | none=>
   have hm0:m=0:=by
    rcases H.out.2 with⟨e,e0⟩|⟨g,cap,cur,hv,_⟩
    ·exact e0
    ·cases hv
   subst hm0;have hcap:cap=0:=by
    rcases H.out.2 with⟨e,e0⟩|⟨g,cap,cur,hv,_⟩
    ·cases e;rfl
    ·cases hv
   subst hcap;go_enter func45,ntmps45;go_wp2_with fail;go_ret;exact zh0 H.out
  | some a=>go_enter func45,ntmps45;go_wp2_with fail;go_ret;exact zh0 H.out
 ·rcases h.2 with⟨e,e0⟩|⟨g,cap,cur,hv,hg,hh,h1,h2,h3,h4⟩
  ·omega
  subst hv;unfold maxLen at h2;have hgl:=z8 hh;obtain⟨i0,hi,hz0,hz1,hz2⟩:=info_parts zH8;have hne:((m:Int)==(n:Int))=false:=by simp;omega
  obtain⟨A,hA⟩:∃ A,(if cap=n then some (⟨g,0,none⟩:Addr) else some ⟨g,n*4,none⟩)=some A:=by
   by_cases h:cap=n
   ·exact⟨_,by rw[if_pos h]⟩
   ·exact⟨_,by rw[if_neg h]⟩
  have hcl:∀ ty,(Builtin.clear_ #[89] ty #[.slice (some ⟨g,m*4,none⟩) (n-m) (cap-m)]).run prog w.drew=.ok (.tuple #[]) (w.drew.setCells g (m*4) (Builtin.zeroCells (.agg #[.int .i64 0,.string ByteArray.empty,.int .i64 0,.slice none 0 0]:Value).cells (n-m)).toList) :=
   fun ty=>zn2 w.drew _ _ ty (.agg #[.int .i64 0,.string ByteArray.empty,.int .i64 0,.slice none 0 0]) underlying89 (fun _=>by kernel_rfl) (by decide) (by decide) g (m*4) _ _ (by omega) (fun j hj=>(zb5 H.out (m*4+j) (by have:j<(n-m)*4:=hj;omega)).1) (fun j hj=>(zb5 H.out (m*4+j) (by have:j<(n-m)*4:=hj;omega)).2)
  have hmc:m<=cap:=by omega
  clear h hh h3 h4;go_enter func45,ntmps45;go_wp2_with fail
  go_region_law (refine step_append_room rfl (.tmp 22) (.tmp 25) 89 rfl 112 i0 4 underlying89 hi hz1 g 0 m cap (by simp[Act.eval,Act.put]) A 0 (cap-n) [] (by simp[Act.eval,Act.put]) (by simp) (by simp) (by simp) (by omega) (by simp) ?_;rw[zi1])
  go_wp2_with fail;go_ret;exact zA0 H.out hm (Nat.le_refl _) ((q9.refl _ w).drew)
end Go.Proofs.YtegbdaffhpiacaaGreatDoor
