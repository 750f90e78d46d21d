/- A part of the proof. -/
import Derived.Test.YtegbdaffhpiacaaGreatDoorMod24
import Derived.Test.YtegbdaffhpiacaaGreatDoorMod21
namespace Go.Proofs.YtegbdaffhpiacaaGreatDoor
open Go.RowKit Ar
noncomputable def paT(T:List Nd)(x:Nd):PA:=⟨(keyA T x).wd,(keyA T x).i.toNat,(keyA T x).j.toNat,(keyA T x).b⟩
noncomputable def pas(T A:List Nd):List PA:=A.map (paT T)
theorem qu9(T:List Nd)(w:ByteArray)(a b:Nd)(r:List Nd):paT T (.mk 2 w 0 (a::b::r))=⟨w,idx T a,idx T b,Go.Proofs.YtegbdaffhpiacaaGreatDoor.bnd (a::b::r)⟩:=by unfold paT keyA ix;simp
theorem zi4(T A:List Nd):(pas T A).length=A.length:=by simp[pas]
theorem qL5{T A:List Nd}:(keysA T A).flatMap Y2.cells=(pas T A).flatMap PA.cells:=by
 unfold keysA pas;rw[List.flatMap_map,List.flatMap_map];apply congrArg (fun f=>List.flatMap f A)
 funext x
 have h:∀ ps q,0<=ix T ps q:=by
  intro ps q;unfold ix;split
  ·omega
  ·omega
 cases x with
 | mk k w v ps=>have h0:=h (ps.take 2) 0;have h1:=h (ps.take 2) 1;simp only[Y2.cells,PA.cells,paT,keyA];rw[Int.toNat_of_nonneg h0,Int.toNat_of_nonneg h1]
theorem U9(T:List Nd)(w:ByteArray)(v:Int)(ps:List Nd):keyT T (.mk 3 w v ps)=⟨w,ps.length,ix T ps 0,ix T ps 1,ix T ps 2,0⟩:=by simp[keyT]
theorem zf4(T:List Nd)(w:ByteArray)(v:Int)(ps:List Nd):keyT T (.mk 4 w v ps)=⟨ByteArray.empty,0,0,0,0,v⟩:=by simp[keyT]
theorem jj2{T ps:List Nd}{k:Nat}{p:Nd}(h:ps[k]?=some p):ix T ps k=(idx T p:Nat):=by unfold ix;rw[h]
theorem zt2{T:List Nd}{w:ByteArray}{v:Int}{ps:List Nd}{k:Nat}{p:Nd}(hk:ps[k]?=some p)(h3:ps.length<=3):(zf7 (keyT T (.mk 3 w v ps)))[k]?=some ((idx T p:Nat):Int):=by
 have hl:=(List.getElem?_eq_some_iff.1 hk).1;rw[U9];have h:=jj2 (T:=T) hk
 match k,h,hl with
 | 0,h,_=>simp[zf7,h]
 | 1,h,_=>simp[zf7,h]
 | 2,h,_=>simp[zf7,h]
 | k+3,_,hl=>omega
theorem qc6{w:ByteArray}(h:X6 w.toList=true):¬w=⟨#[]⟩:=by
 rintro rfl;rw[ByteArray.toList_eq] at h;revert h
 decide
theorem qB3(f:Nat->Bool):∀ m,∃ n,n<2^m/\∀ k,k<m->n.testBit k=f k
 | 0=>⟨0,by simp,fun k hk=>by omega⟩
 | m+1=>by
  obtain⟨n,h1,h2⟩:=qB3 f m;have hlt:n<2^(m+1):=by rw[Nat.pow_succ];omega
  refine⟨n ||| (if f m=true then 2^m else 0),?_,fun k hk=>?_⟩
  ·refine Nat.or_lt_two_pow hlt ?_;split
   ·rw[Nat.pow_succ];have:=Nat.two_pow_pos m;omega
   ·exact Nat.two_pow_pos _
  ·rw[Nat.testBit_or];by_cases e:k=m
   ·subst e;have h3:n.testBit k=false:=Nat.testBit_lt_two_pow h1;rw[h3];cases hf:f k<;>simp
   ·rw[h2 k (by omega)];have h3:(if f m=true then 2^m else 0).testBit k=false:=by
     split
     ·rw[Nat.testBit_two_pow];simp;omega
     ·simp
    rw[h3];simp
section
variable{T A L:List Nd}
structure O3(T A:List Nd):Prop where
 cl:Cl T
 tn:T.Nodup
 ac:AC T A
 an:A.Nodup
theorem O3.tm(h:O3 T A){x:Nd}(hx:x∈T):Y5 x:=by obtain⟨i,hi⟩:=List.mem_iff_getElem?.1 hx;exact(h.cl i x hi).1
theorem zt3{i:Nat}{x:Nd}(h:T[i]?=some x):(keys T)[i]?=some (keyT T x):=by unfold keys;rw[List.getElem?_map,h];rfl
theorem zI7{i:Nat}{x:Z3}(h:(keys T)[i]?=some x):∃ t,T[i]?=some t/\x=keyT T t:=by
 unfold keys at h;rw[List.getElem?_map] at h;cases e:T[i]? with
 | none=>rw[e] at h;simp at h
 | some t=>rw[e] at h;simp at h;exact⟨t,rfl,h.symm⟩
theorem O3.kok(h:O3 T A):KOk (keys T) (pas T A):=by
 have hT:∀ x∈keys T,∃ t∈T,x=keyT T t:=by intro x hx;obtain⟨t,ht,rfl⟩:=List.mem_map.1 hx;exact⟨t,ht,rfl⟩
 have hA:∀ x∈pas T A,∃ w a b r,x=⟨w,idx T a,idx T b,Go.Proofs.YtegbdaffhpiacaaGreatDoor.bnd (a::b::r)⟩/\a∈T/\b∈T/\zs5 (.mk 2 w 0 (a::b::r)):=by intro x hx;obtain⟨t,ht,rfl⟩:=List.mem_map.1 hx;obtain⟨h1,h2⟩:=h.ac t ht;obtain⟨w,a,b,r,rfl,_⟩:=zp4 h1;exact⟨w,a,b,r,qu9 _ _ _ _ _,h2 a (by simp[zq7,parts]),h2 b (by simp[zq7,parts]),h1⟩
 refine⟨fun x hx=>?_,fun x hx k a hk ha=>?_,fun x hx=>?_,fun x hx=>?_,fun x hx=>?_⟩
 ·obtain⟨t,ht,rfl⟩:=hT x hx;cases h.tm ht with
  | num=>rw[zf4];simp
  | app hw hl hp=>rw[U9];simp;omega
 ·obtain⟨t,ht,rfl⟩:=hT x hx;have htm:=h.tm ht;cases htm with
  | num=>rw[zf4] at hk;simp at hk;omega
  | @app w ps hw hl hp=>
   have hk2:k<ps.length:=by rw[U9] at hk;simpa using hk
   obtain⟨p,hp'⟩:∃ p,ps[k]?=some p:=⟨_,List.getElem?_eq_getElem hk2⟩;rw[zt2 hp' hl] at ha;simp at ha;have:=zs0 (h.cl.part ht (show p∈parts (.mk 3 w 0 ps) from List.mem_of_getElem? hp'));rw[Y3];omega
 ·obtain⟨t,ht,rfl⟩:=hT x hx;cases h.tm ht with
  | num h1 h2=>rw[zf4];exact⟨h1,h2⟩
  | app hw hl hp=>rw[U9];simp
 ·obtain⟨w,a,b,r,rfl,ha,hb,hat⟩:=hA x hx;refine⟨?_,by rw[Y3];exact zs0 ha,by rw[Y3];exact zs0 hb⟩;cases hat with
  | two hw _ _=>
   refine⟨?_,fun _=>rfl⟩;rcases hw with e|e|e
   ·exact .inl e
   ·exact .inr (.inl e)
   ·exact .inr (.inr (.inl e))
  | le hw _ _ _ _=>exact⟨.inr (.inr (.inr hw)),fun e=>absurd hw e⟩
 ·obtain⟨w,a,b,r,rfl,ha,hb,hat⟩:=hA x hx;cases hat with
  | two hw _ _=>show -1000<=(0:Int)/\(0:Int)<=1000;omega
  | le hw _ _ h1 h2=>exact⟨h1,h2⟩
theorem qB4(h:O3 T A){x:Nd}(hx:x∈A){v:Nd->Int}{u:Nat->Int}(hu:∀ t∈T,u (idx T t)=v t):(paT T x).at_.tr u=zd7 v x:=by obtain⟨h1,h2⟩:=h.ac x hx;obtain⟨w,a,b,r,rfl,_,_,_,hr⟩:=zp4 h1;have ha:=hu a (h2 a (by simp[zq7,parts]));have hb:=hu b (h2 b (by simp[zq7,parts]));rw[qu9];show zi2 w.toList (u (idx T a)) (u (idx T b)) (Go.Proofs.YtegbdaffhpiacaaGreatDoor.bnd (a::b::r))=zi2 w.toList (v a) (v b) (Ar.bnd r);rw[ha,hb];rcases hr with rfl|⟨v,rfl,_,_⟩<;>rfl
theorem zQ5(h:O3 T A){n:Nat}{u:Nat->Int}{v:Nd->Int}(hu:∀ t∈T,u (idx T t)=v t)(hw:isW ((pas T A).map PA.at_) u n){x:Nd}(hx:x∈A):alpha A n x=zd7 v x:=by
 rw[<- qB4 h hx hu];unfold alpha;refine hw (idx A x) _ ?_;unfold pas;rw[List.getElem?_map,List.getElem?_map,zc1 hx]
 rfl
theorem zI8(h:O3 T A){u:Nat->Int}(hV:(zi3 (keys T) (pas T A)).V u):Ar.Good T (fun t=>u (idx T t)):=by
 have key:∀ (w:ByteArray) (ps qs:List Nd),.mk 3 w 0 ps∈T->.mk 3 w 0 qs∈T->ps.map (fun t=>u (idx T t))=qs.map (fun t=>u (idx T t))->idx T (.mk 3 w 0 ps)<idx T (.mk 3 w 0 qs)->u (idx T (.mk 3 w 0 ps))=u (idx T (.mk 3 w 0 qs)):=by
  intro w ps qs hps hqs e hlt;have hlen:ps.length=qs.length:=by have:=congrArg List.length e;simpa using this
  have h1:=zt3 (zc1 hps);have h2:=zt3 (zc1 hqs);have hl3:ps.length<=3:=by cases h.tm hps;assumption
  by_cases h0:ps.length=0
  ·have e1:ps=[]:=List.length_eq_zero_iff.1 h0;have e2:qs=[]:=List.length_eq_zero_iff.1 (by omega);rw[e1,e2]
  ·refine hV.fn (idx T (.mk 3 w 0 ps),idx T (.mk 3 w 0 qs)) (qc3.2 ⟨hlt,(ql9 h1 h2).2 ?_⟩) (fun q hq=>?_)
   ·rw[U9,U9];refine⟨by show(0:Int)<(qs.length:Nat);omega,rfl,by show((qs.length:Nat):Int)=(ps.length:Nat);omega⟩
   ·obtain⟨k,hk⟩:=List.getElem?_of_mem hq;obtain⟨g1,a,b,g2,g3,rfl⟩:=zF1 h1 h2 hk;have hk2:k<ps.length:=by rw[U9] at g1;simpa using g1
    obtain⟨p,hp⟩:∃ p,ps[k]?=some p:=⟨_,List.getElem?_eq_getElem hk2⟩;obtain⟨q2,hq2⟩:∃ p,qs[k]?=some p:=⟨_,List.getElem?_eq_getElem (by omega)⟩;rw[zt2 hp hl3] at g2;rw[zt2 hq2 (by omega)] at g3;simp at g2 g3;subst g2 g3;have e3:=congrArg (fun l=>l[k]?) e;simp only[List.getElem?_map,hp,hq2,Option.map_some,Option.some.injEq] at e3;show u (((idx T p:Nat):Int)).toNat=u (((idx T q2:Nat):Int)).toNat;rw[Int.toNat_natCast,Int.toNat_natCast];exact e3
 refine⟨fun n hn=>?_,fun w ps qs hps hqs e=>?_⟩
 ·have h1:=zt3 (zc1 hn);refine hV.num _ n (by show _<(keys T).length;rw[Y3];exact zs0 hn) ?_;show numOf (keys T) _=some n;unfold numOf;rw[h1,zf4];exact if_pos rfl
 ·rcases Nat.lt_trichotomy (idx T (.mk 3 w 0 ps)) (idx T (.mk 3 w 0 qs)) with hlt|heq|hgt
  ·exact key w ps qs hps hqs e hlt
  ·show u _=u _;rw[heq]
  ·exact(key w qs ps hqs hps e.symm hgt).symm
theorem jq9(h:O3 T A)(hL:∀ f∈L,FmW f/\∀ x∈J0 false f,x∈A){u:Nat->Int}(hV:(zi3 (keys T) (pas T A)).V u){n:Nat}(hn:∀ f∈L,ftr (alpha A n) f=true)(hw:isW ((pas T A).map PA.at_) u n):Sat L:=by
 have hg:=zI8 h hV;have hc:∀ x∈T,∀ p∈parts x,p∈T:=fun x hx p hp=>h.cl.part hx hp
 refine⟨itpOf T (fun t=>u (idx T t)),fun f hf=>?_⟩;obtain⟨h1,h2⟩:=hL f hf;rw[<- hn f hf];refine zE8 h1.ok (fun x hx=>?_);have hxA:=h2 x hx;rw[zQ5 h (fun t _=>rfl) hw hxA];refine zP2 (fun p hp=>?_);have hpT:=(h.ac x hxA).2 p hp;exact qA4 hg hc (h.tm hpT) hpT
theorem grs(h:O3 T A):(∀ n,.mk 4 ByteArray.empty n []∈T -> -((grA (pas T A) (grT (keys T) 0)).toNat:Int)<=n/\n<=(grA (pas T A) (grT (keys T) 0)).toNat)/\∀ x∈A,-((grA (pas T A) (grT (keys T) 0)).toNat:Int)<=Ar.bnd ((parts x).drop 2)/\Ar.bnd ((parts x).drop 2)<=(grA (pas T A) (grT (keys T) 0)).toNat:=by
 obtain⟨h1,h2,h3⟩:=zQ3 (m:=0) (B:=1000) (by omega) h.kok.v;obtain⟨h4,h5,h6⟩:=qc5 (m:=grT (keys T) 0) (B:=1000) (by omega) h.kok.b;rw[Int.toNat_of_nonneg (by omega)];refine⟨fun n hn=>?_,fun x hx=>?_⟩
 ·have:=h3 _ (List.mem_of_getElem? (zt3 (zc1 hn)));rw[zf4] at this;simp only at this;omega
 ·have:=h6 (paT T x) (List.mem_map.2 ⟨x,hx,rfl⟩);obtain⟨w,a,b,r,rfl,_,_,_,hr⟩:=zp4 (h.ac x hx).1;rw[qu9] at this;simp only[parts,List.drop_succ_cons,List.drop_zero];rcases hr with rfl|⟨v,rfl,_,_⟩
  ·have e:Go.Proofs.YtegbdaffhpiacaaGreatDoor.bnd [a,b]=0:=rfl;rw[e] at this;have e2:Ar.bnd []=0:=rfl;rw[e2];omega
  ·have e:Go.Proofs.YtegbdaffhpiacaaGreatDoor.bnd [a,b,.mk 5 ByteArray.empty v []]=v:=rfl;rw[e] at this;have this:v<=_/\_<=v:=this;have e2:Ar.bnd [.mk 5 ByteArray.empty v []]=v:=rfl;rw[e2];omega
theorem qW9(h:O3 T A)(hL:∀ f∈L,FmW f/\∀ x∈J0 false f,x∈A)(hs:Sat L):∃ u n,(zi3 (keys T) (pas T A)).V u/\n<2^A.length/\(∀ f∈L,ftr (alpha A n) f=true)/\isW ((pas T A).map PA.at_) u n:=by
 obtain⟨I,hI⟩:=hs;have hc:∀ x∈T,∀ p∈parts x,p∈T:=fun x hx p hp=>h.cl.part hx hp
 obtain⟨g1,g2⟩:=grs h;obtain⟨v,hg,ha,hn1,hn2⟩:=qK8 (jh6 I T) hc (A:=A) (fun x hx=>h.ac x hx) _ g1 g2;obtain⟨G,hG⟩:∃ G,grA (pas T A) (grT (keys T) 0)=G:=⟨_,rfl⟩;have hG0:0<=G:=by obtain⟨h1,_⟩:=zQ3 (m:=0) (B:=1000) (by omega) h.kok.v;obtain⟨h4,_⟩:=qc5 (m:=grT (keys T) 0) (B:=1000) (by have:=(zQ3 (m:=0) (B:=1000) (by omega) h.kok.v).2.1;omega) h.kok.b;omega
 have hfar:(((G.toNat+1)*T.length:Nat):Int)=ze6 (keys T) (pas T A):=by
  unfold ze6;rw[hG,Y3,Int.natCast_mul,Int.natCast_add,Int.toNat_of_nonneg hG0,Int.mul_comm]
  rfl
 rw[hG,hfar] at hn1 hn2;have hfar0:0<=ze6 (keys T) (pas T A):=by rw[<- hfar];omega
 obtain⟨u,hu⟩:∃ u:Nat->Int,u=fun i=>match T[i]? with
  | some t=>v t
  | none=>0:=⟨_,rfl⟩
 have hui:∀ i t,T[i]?=some t->u i=v t:=by intro i t e;rw[hu];simp only[e]
 have hut:∀ t∈T,u (idx T t)=v t:=fun t ht=>hui _ _ (zc1 ht)
 have hun:u T.length=0:=by rw[hu];simp
 have hV:(zi3 (keys T) (pas T A)).V u:=by
  refine⟨?_,fun i x hi e=>?_,fun p hp hq=>?_,fun i j hi hj=>?_⟩
  ·show u (keys T).length=0;rw[Y3];exact hun
  ·have e':numOf (keys T) i=some x:=e;unfold numOf at e';split at e'
   ·rename_i k hk;obtain⟨t,ht,rfl⟩:=zI7 hk;have htm:=List.mem_of_getElem? ht;rw[hui i t ht];cases h.tm htm with
    | num h1 h2=>rw[zf4] at e';have e2:=(if_pos rfl).symm.trans e';simp at e2;subst e2;exact hg.num _ htm
    | app hw hl hp=>rw[U9] at e';simp only at e';rw[if_neg (qc6 hw)] at e';simp at e'
   ·simp at e'
  ·obtain⟨h1,h2⟩:=qc3.1 hp;obtain⟨x,y,hx,hy,h3,h4,h5⟩:=qc4 h2;obtain⟨s,hs,rfl⟩:=zI7 hx;obtain⟨t,ht,rfl⟩:=zI7 hy;have hsm:=List.mem_of_getElem? hs;have htm:=List.mem_of_getElem? ht;rw[hui _ _ hs,hui _ _ ht];have hq':∀ q∈zt1 (keys T) p,u q.1=u q.2:=hq;cases h.tm htm with
   | num=>rw[zf4] at h3;simp at h3
   | @app wq qs hw hl hpq=>
    cases h.tm hsm with
    | num=>rw[zf4,U9] at h4;exact absurd h4 (qc6 hw)
    | @app wp ps hw' hl' hpp=>
     have e1:wq=wp:=by rw[U9,U9] at h4;exact h4
     have e2:qs.length=ps.length:=by rw[U9,U9] at h5;have h5:((qs.length:Nat):Int)=(ps.length:Nat):=h5;omega
     subst e1;refine hg.fn _ _ _ hsm htm ?_;apply List.ext_getElem?;intro k;rw[List.getElem?_map,List.getElem?_map];by_cases hk:k<ps.length
     ·obtain⟨a,ha'⟩:∃ a,ps[k]?=some a:=⟨_,List.getElem?_eq_getElem hk⟩;obtain⟨b,hb'⟩:∃ b,qs[k]?=some b:=⟨_,List.getElem?_eq_getElem (by omega)⟩;rw[ha',hb'];have haT:=hc _ hsm a (show a∈parts _ from List.mem_of_getElem? ha');have hbT:=hc _ htm b (show b∈parts _ from List.mem_of_getElem? hb');have hmem:(idx T a,idx T b)∈zt1 (keys T) p:=by
       rw[zQ4 hx hy];refine List.mem_map.2 ⟨((idx T a:Nat),(idx T b:Nat)),?_,by simp⟩;refine List.mem_of_getElem? (i:=k) ?_;rw[List.getElem?_take,if_pos (by rw[U9];simpa using hk),List.getElem?_zip_eq_some];exact⟨zt2 ha' hl',zt2 hb' hl⟩
      have:=hq' _ hmem;simp only[hut a haT,hut b hbT] at this;simp[this]
     ·rw[List.getElem?_eq_none (by omega),List.getElem?_eq_none (by omega)]
  ·have hi':i<=T.length:=by have h':i<=(keys T).length:=hi;rw[Y3] at h';exact h'
   have hj':j<=T.length:=by have h':j<=(keys T).length:=hj;rw[Y3] at h';exact h'
   show u i-u j<=ze6 (keys T) (pas T A);by_cases e1:i<T.length
   ·have f1:=hui i _ (List.getElem?_eq_getElem e1);have m1:=List.getElem_mem e1;by_cases e2:j<T.length
    ·have f2:=hui j _ (List.getElem?_eq_getElem e2);have m2:=List.getElem_mem e2;have:=hn1 _ m1 _ m2;omega
    ·have:j=T.length:=by omega
     rw[this,hun];have:=(hn2 _ m1).1;omega
   ·have:i=T.length:=by omega
    rw[this,hun];by_cases e2:j<T.length
    ·have f2:=hui j _ (List.getElem?_eq_getElem e2);have:=(hn2 _ (List.getElem_mem e2)).2;omega
    ·have:j=T.length:=by omega
     rw[this,hun];omega
 obtain⟨n,hnl,hnb⟩:=qB3 (fun k=>match A[k]? with
  | some x=>zd7 v x
  | none=>false) A.length
 have hW:isW ((pas T A).map PA.at_) u n:=by
  intro k a e;unfold pas at e;rw[List.getElem?_map,List.getElem?_map] at e;cases e2:A[k]? with
  | none=>rw[e2] at e;simp at e
  | some x=>rw[e2] at e;simp at e;subst e;rw[hnb k (List.getElem?_eq_some_iff.1 e2).1,qB4 h (List.mem_of_getElem? e2) hut];simp only[e2]
 refine⟨u,n,hV,hnl,fun f hf=>?_,hW⟩;obtain⟨h1,h2⟩:=hL f hf;rw[<- hI f hf];refine zE8 h1.ok (fun x hx=>?_);rw[zQ5 h hut hW (h2 x hx),ha x (h2 x hx)]
end
section
variable{T A:List Nd}{u:Nat->Int}
theorem qd3{w:ByteArray}{v:Int}{ps:List Nd}(h3:ps.length<=3):zh5 (keyT T (.mk 3 w v ps)) u=⟨w,ps.length,(ps.map (fun t=>u (idx T t)))[0]?.getD 0,(ps.map (fun t=>u (idx T t)))[1]?.getD 0,(ps.map (fun t=>u (idx T t)))[2]?.getD 0⟩:=by
 rw[U9]
 match ps,h3 with
 | [],_=>simp[zh5,zR1]
 | [a],_=>simp[zh5,zR1,ix]
 | [a,b],_=>simp[zh5,zR1,ix]
 | [a,b,c],_=>simp[zh5,zR1,ix]
theorem qY8{l m:List Int}(hl:l.length<=3)(he:l.length=m.length)(h0:l[0]?.getD 0=m[0]?.getD 0)(h1:l[1]?.getD 0=m[1]?.getD 0)(h2:l[2]?.getD 0=m[2]?.getD 0):l=m:=by
 match l,m,hl,he with
 | [],[],_,_=>rfl
 | [a],[b],_,_=>simp at h0;simp[h0]
 | [a,b],[c,d],_,_=>simp at h0 h1;simp[h0,h1]
 | [a,b,c],[d,e,f],_,_=>simp at h0 h1 h2;simp[h0,h1,h2]
theorem qN0{w:ByteArray}{v:Int}{ps:List Nd}:(keyT T (.mk 4 w v ps)).nm=⟨#[]⟩:=by rw[zf4];rfl
theorem O3.fun_(h:O3 T A){i:Nat}{x:Z3}(hx:(keys T)[i]?=some x)(hn:¬x.nm=⟨#[]⟩):∃ w ps,T[i]?=some (.mk 3 w 0 ps)/\x=keyT T (.mk 3 w 0 ps)/\ps.length<=3/\(∀ p∈ps,p∈T):=by
 obtain⟨t,ht,rfl⟩:=zI7 hx;have hm:=List.mem_of_getElem? ht;cases h.tm hm with
 | num h1 h2=>exact absurd qN0 hn
 | @app w ps hw hl hp=>exact⟨w,ps,ht,rfl,hl,fun p hp=>h.cl.part hm hp⟩
theorem idx_at(hn:T.Nodup){i:Nat}{x:Nd}(hx:T[i]?=some x):idx T x=i:=by
 have h1:=zc1 (List.mem_of_getElem? hx);obtain⟨hi,e1⟩:=List.getElem?_eq_some_iff.1 hx;obtain⟨hj,e2⟩:=List.getElem?_eq_some_iff.1 h1;have hpw:=List.pairwise_iff_getElem.1 hn;rcases Nat.lt_trichotomy i (idx T x) with hlt|heq|hgt
 ·exact absurd (e1.trans e2.symm) (hpw _ _ hi hj hlt)
 ·exact heq.symm
 ·exact absurd (e2.trans e1.symm) (hpw _ _ hj hi hgt)
theorem jl5(h:O3 T A)(hT:T.length<=12)(hV:(zi3 (keys T) (pas T A)).V u):jr5 (keys T) u:=by
 have hk:=h.kok;obtain⟨f0,f1,_⟩:=hk.far (by rw[Y3];exact hT);have hz:u (keys T).length=0:=hV.zero;have hsm:∀ i,i<(keys T).length->Sm (u i):=by intro i hi;have n1:u i-u (keys T).length<=ze6 (keys T) (pas T A):=hV.near i (keys T).length (Nat.le_of_lt hi) (Nat.le_refl _);have n2:u (keys T).length-u i<=ze6 (keys T) (pas T A):=hV.near (keys T).length i (Nat.le_refl _) (Nat.le_of_lt hi);constructor<;>omega
 have har:∀ x∈keys T,∀ (k:Nat) (a:Int),(k:Int)<x.ar->(zf7 x)[k]?=some a->0<=a/\a<(keys T).length:=hk.arg;refine⟨fun x hx=>?_,fun i j x y hx hy hxn hyn he=>?_,hk.ar,fun x hx h0=>har x hx 0 _ (by omega) rfl,fun x hx h0=>har x hx 1 _ (by omega) rfl,fun x hx h0=>har x hx 2 _ (by omega) rfl,hsm⟩
 ·have hok:x.Ok:=by
   obtain⟨t,ht,rfl⟩:=List.mem_map.1 hx;exact qz2 (h.tm ht) (fun p hp=>h.cl.part ht hp) (by omega)
  have s0:Sm 0:=⟨by omega,by omega⟩;refine⟨hok.nm,hok.ar,?_,?_,?_⟩
  ·show Sm (if 0<x.ar.toNat then u x.a0.toNat else 0);split
   ·have:=har x hx 0 x.a0 (by omega) rfl;exact hsm _ (by omega)
   ·exact s0
  ·show Sm (if 1<x.ar.toNat then u x.a1.toNat else 0);split
   ·have:=har x hx 1 x.a1 (by omega) rfl;exact hsm _ (by omega)
   ·exact s0
  ·show Sm (if 2<x.ar.toNat then u x.a2.toNat else 0);split
   ·have:=har x hx 2 x.a2 (by omega) rfl;exact hsm _ (by omega)
   ·exact s0
 ·obtain⟨w,ps,hps,rfl,hp3,_⟩:=h.fun_ hx hxn;obtain⟨w',qs,hqs,rfl,hq3,_⟩:=h.fun_ hy hyn;rw[qd3 hp3,qd3 hq3] at he;simp only[CK.mk.injEq] at he;obtain⟨rfl,e1,e2,e3,e4⟩:=he;have hm:=qY8 (l:=ps.map (fun t=>u (idx T t))) (m:=qs.map (fun t=>u (idx T t))) (by simpa using hp3) (by simp;omega) e2 e3 e4;have hg:=(zI8 h hV).fn w ps qs (List.mem_of_getElem? hps) (List.mem_of_getElem? hqs) hm;rw[idx_at h.tn hps,idx_at h.tn hqs] at hg;exact hg
end
end Go.Proofs.YtegbdaffhpiacaaGreatDoor
