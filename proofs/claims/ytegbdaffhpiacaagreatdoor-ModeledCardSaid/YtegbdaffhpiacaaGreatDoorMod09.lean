/- A part of the proof. -/
import Derived.Test.YtegbdaffhpiacaaGreatDoorMod07
import Derived.Test.YtegbdaffhpiacaaGreatDoorMod08
set_option maxRecDepth 100000
set_option maxHeartbeats 400000
namespace Go.Proofs.YtegbdaffhpiacaaGreatDoor
open Tryz
open Go.RowKit Ar
theorem zt4(l:List Tk):(V8 l).length=l.length*3:=by
 induction l with
 | nil=>rfl
 | cons a b ih=>simp only[V8,List.flatMap_cons,List.length_append] at ih ⊢;simp at ih ⊢;omega
theorem zY3(pre ts:List Tk)(t:Tk):(V8 (pre++t::ts))[pre.length*3]?=some (.int .i64 (kOf t.txt.toList))/\(V8 (pre++t::ts))[pre.length*3+1]?=some (.int .i64 t.pos)/\(V8 (pre++t::ts))[pre.length*3+2]?=some (.string t.txt):=by
 have e:V8 (pre++t::ts)=V8 pre++([.int .i64 (kOf t.txt.toList),.int .i64 t.pos,.string t.txt]++V8 ts):=by simp[V8]
 rw[e];refine⟨?_,?_,?_⟩
 ·rw[List.getElem?_append_right (by rw[zt4];omega),zt4,Nat.sub_self];rfl
 ·rw[List.getElem?_append_right (by rw[zt4];omega),zt4,show pre.length*3+1-pre.length*3=1 from by omega];rfl
 ·rw[List.getElem?_append_right (by rw[zt4];omega),zt4,show pre.length*3+2-pre.length*3=2 from by omega];rfl
theorem zr0{w:World}{tb:Nat}{all:List Tk}(hc:∀ j u,(V8 all)[j]?=some u->w.cell? ⟨tb,j,none⟩=some u)(hs:TS all):∀ (ts pre:List Tk),all=pre++ts->zm4 w tb (pre.length*3) ts:=by
 intro ts
 induction ts with
 | nil=>intro pre _;trivial
 | cons t ts ih=>intro pre e;have h:=zY3 pre ts t;rw[<- e] at h;refine⟨hc _ _ h.1,hc _ _ h.2.1,hc _ _ h.2.2,hs t (by rw[e];simp),?_⟩;have:=ih (pre++[t]) (by rw[e];simp);rw[List.length_append,Nat.add_mul] at this;exact this
def jk3(w:World)(N:List Nm)(l:List UInt8)(en:Ending)(w':World):Prop :=
 q9 (fun _=>False) w w'/\(match W7 N l with
  | .ok nd _=>∃ (k:Int) (wd:ByteArray) (v:Int) (sa:Option Addr) (sn sc:Nat),en=.returned (.tuple #[.agg #[.int .i64 k,.string wd,.int .i64 v,.slice sa sn sc],.int .i64 0,.int .i64 0])/\PN w' (w.heap.size <= ·) [.int .i64 k,.string wd,.int .i64 v,.slice sa sn sc] nd
  | .no e p=>en=.returned (.tuple #[.agg #[.int .i64 0,.string ⟨#[]⟩,.int .i64 0,.slice none 0 0],.int .i64 p,.int .i64 e]))
structure qN9(w:World)(sb:Nat)(nv:Value)(N:List Nm):Prop where
 few:N.length<=20
 ok:∀ x∈N,0<=x.ar/\x.ar<=3
 tbl:w.cell? ⟨sb,0,none⟩=some nv
 sbs:sb<w.heap.size
 own:w.ownsRow 0 142 2 nv N.length (X2 N)
theorem qd9(p:Value)(s:ByteArray)(w:World)(hs:600<s.size)(hm:s.size<=maxLen):
  Calls prog 71 #[.string s,p,.func (.func 72) #[] #[]] w fun e w'=>e=.returned (.tuple #[.agg #[.int .i64 0,.string ⟨#[]⟩,.int .i64 0,.slice none 0 0],.int .i64 0,.int .i64 1])/\q9 (fun _=>False) w w':=by
 unfold maxLen at hm;go_enter func71,ntmps71;go_wp2_with fail;refine bodyPost_ret (v:=.tuple #[.agg #[.int .i64 0,.string ⟨#[]⟩,.int .i64 0,.slice none 0 0],.int .i64 0,.int .i64 1]) (by simp[results,results71,go_sem]) rfl ⟨rfl,?_⟩;exact(q9.refl _ w).alloc _
theorem jl9{sb:Nat}{nv:Value}{N:List Nm}(s:ByteArray)(w:World)(hs:s.size<=600)(hN:qN9 w sb nv N)(hhd:U4 w):
    Calls prog 71 #[.string s,.pointer (some ⟨sb,0,none⟩),.func (.func 72) #[] #[]] w (jk3 w N s.toList):=by
  have HN:=q8 hN;have HHD:=q8 hhd;clear hN hhd;have HX0:Hid (q9 (fun _=>False) w (w.alloc (.cells #[.int .i64 0,.string ⟨#[]⟩,.int .i64 0,.slice none 0 0] 115))):=(q9.refl _ w).alloc _;go_enter func71,ntmps71;go_wp2_with fail;refine(qO8 s _ hs).mono ?_;rintro e w1 ⟨v,rfl,hx1,hown⟩;have hpos:1<=(toks s.toList).length:=by
    have:=(qk6 s.toList 0 []).ne;cases h:toks s.toList with
    | nil=>exact absurd h this
    | cons a b=>simp
  have hlen:=zO2 s.toList;rw[Z4] at hlen;obtain⟨tb,tc,hv,htb⟩:∃ tb tc,v=.slice (some ⟨tb,0,none⟩) (toks s.toList).length tc/\w.heap.size<tb:=by
    rcases hown.2 with⟨_,e⟩|⟨g,cap,cur,hv,hg,_⟩
    · omega
    · exact⟨g,cap,hv,by simp at hg;omega⟩
  subst hv;have htl:=(hown.lt tb rfl).2;have htc:(toks s.toList).length<=tc:=by
    rcases hown.2 with⟨_,e⟩|⟨g,cap,cur,hv,hg,_,hc,_⟩
    · omega
    · simp at hv;omega
  have hcell:∀ j u,(V8 (toks s.toList))[j]?=some u->w1.cell? ⟨tb,j,none⟩=some u:=by
    intro j u hj;have h2:j<(toks s.toList).length*3:=by have h3:=(List.getElem?_eq_some_iff.1 hj).1;rw[hown.1] at h3;exact h3
    rw[hown.cellAt j h2];exact hj
  have HT:Hid (zm4 w1 tb 0 (toks s.toList)):=by have h9:=zr0 hcell (zO4 s.toList 600 0 [] (by rw[Z4];simp;omega) (by omega)) (toks s.toList) [] rfl;simp at h9;exact h9
  have HX1:Hid (q9 (fun _=>False) w w1):=HX0.out.trans hx1;have hsz0:=hx1.size;have hsz:w.heap.size<w1.heap.size:=by simp at hsz0;omega
  have kb1:w1.heap[w.heap.size]?=some (.cells #[.int .i64 0,.string ⟨#[]⟩,.int .i64 0,.slice none 0 0] 115):=(hx1.block _ (z8 (heap_alloc_new w _)) (fun f=>f)).trans (heap_alloc_new w _);have KB1:=q8 kb1;clear hown hcell hx1 hsz0 kb1;go_wp2_with fail;obtain⟨W,hW⟩:∃ W,w1.alloc (Obj.cells #[.slice (some ⟨tb,0,none⟩) (toks s.toList).length tc,.pointer (some ⟨sb,0,none⟩),.int .i64 0,.int .i64 0,.int .i64 0] 215)=W:=⟨_,rfl⟩;have hxW:q9 (fun _=>False) w1 W:=by rw[<- hW];exact(q9.refl _ w1).alloc _
  have hxwW:=HX1.out.trans hxW;have hN:=HN.out;have hPR:PR W ⟨w1.heap.size,tb,sb,nv,N⟩ (toks s.toList) 0 0 0:=by
    have hss:=hN.sbs;have hWs:=hxW.size;refine⟨qk6 _ _ _,by omega,by omega,by omega,by show ¬tb=w1.heap.size;omega,by show ¬sb=w1.heap.size;omega,?_,HHD.out.ext hxwW (fun f=>f),by show 0<w1.heap.size;obtain⟨_,_,hb9⟩:=HHD.out;have:=z8 hb9;have:=HX1.out.size;omega,by show tb<W.heap.size;omega,by show sb<W.heap.size;omega,hN.few,hN.ok,(hxwW.cell (p:=⟨sb,0,none⟩) hss (fun f=>f)).trans hN.tbl,z7 hN.own hxwW (fun _ _ f=>f),0,tc,?_,htc,?_⟩
    · intro g hg;have:=(hN.own.lt g hg).2;show ¬g=w1.heap.size;omega
    · exact HT.out.ext hxW htl (fun f=>f)
    · rw[<- hW];exact heap_alloc_new w1 _
  rw[hW];have hWsz:W.heap.size=w1.heap.size+1:=by rw[<- hW];simp
  have HXW:=q8 hxW;have HPR:=q8 hPR;clear hW hxW hPR hN hxwW;refine(qD2 ⟨w1.heap.size,tb,sb,nv,N⟩ 0 0 (toks s.toList).length W (toks s.toList) 0 (Nat.le_refl _) HPR.out).mono ?_;cases hrf:K6 N (toks s.toList).length 0 (toks s.toList) with
  | no e p=>
    rintro en w2 ⟨hx2,rfl,ts',d',hr2⟩;have hres:W7 N s.toList=.no e p:=by simp only[W7,hrf]
    have HRES:=q8 hres;obtain⟨o,cap,_,_,hb2⟩:=hr2.here;have HB2:=q8 hb2;have hl2:w1.heap.size<w2.heap.size:=z8 hb2;have n3:¬w.heap.size=w1.heap.size:=by omega
    have HX2W:=q8 hx2;have HX2:Hid (q9 (fun _=>False) w w2):=(HX1.out.trans HXW.out).trans' hx2 (fun i hi e=>by have h1:i=w1.heap.size:=e;omega);clear hrf hr2 hb2 hres hx2;go_wp2_with fail;obtain⟨W3,hW3⟩:∃ W3,w2.alloc (Obj.cells #[.int .i64 0,.string ⟨#[]⟩,.int .i64 0,.slice none 0 0] 115)=W3:=⟨_,rfl⟩;have hx3:q9 (fun _=>False) w2 W3:=by rw[<- hW3];exact(q9.refl _ w2).alloc _
    rw[hW3];clear hW3;have c3:W3.cell? ⟨w1.heap.size,3,none⟩=some (.int .i64 p):=z6 ((hx3.block _ hl2 (fun f=>f)).trans HB2.out) 3;have c4:W3.cell? ⟨w1.heap.size,4,none⟩=some (.int .i64 e):=z6 ((hx3.block _ hl2 (fun f=>f)).trans HB2.out) 4;have kb:W3.heap[w.heap.size]?=some (.cells #[.int .i64 0,.string ⟨#[]⟩,.int .i64 0,.slice none 0 0] 115):=(hx3.block _ (by omega) (fun f=>f)).trans ((HX2W.out.block _ (by omega) (by show ¬w.heap.size=w1.heap.size;omega)).trans ((HXW.out.block _ (by omega) (fun f=>f)).trans KB1.out));have z0:=z6 kb 0;have z1:=z6 kb 1;have z2:=z6 kb 2;have z3:=z6 kb 3;have y0:=Q8 kb 0;have y1:=Q8 kb 1;have y2:=Q8 kb 2;have y3:=Q8 kb 3;clear kb;have HX3:Hid (q9 (fun _=>False) w W3):=HX2.out.trans hx3;clear hx3
    go_region
    go_wp2_with fail;refine bodyPost_ret (v:=.tuple #[.agg #[.int .i64 0,.string ⟨#[]⟩,.int .i64 0,.slice none 0 0],.int .i64 p,.int .i64 e]) (by simp[results,results71,go_sem,z0,z1,z2,z3]) rfl ?_;refine⟨?_,?_⟩
    · exact(HX3.out.trans' (Z5 _ _ _ _ _ _) (fun i hi e=>by have h1:i=w.heap.size:=e;omega)).drew
    · rw[HRES.out]
  | ok nd ts'=>
    rintro en w2 ⟨hx2,k,wd,v,sa,sn,sc,rfl,hn2,hr2⟩;obtain⟨t,us,rfl⟩:=hr2.head;have HX2W:=q8 hx2;have HX2:Hid (q9 (fun _=>False) w w2):=(HX1.out.trans HXW.out).trans' hx2 (fun i hi e=>by have h1:i=w1.heap.size:=e;omega);have HN2:Hid (PN w2 (fun q=>w1.heap.size<q) [.int .i64 k,.string wd,.int .i64 v,.slice sa sn sc] nd):=hn2.mono (fun q _ hq=>by have h1:W.heap.size<=q:=hq;show w1.heap.size<q;omega);have hl2:W.heap.size<=w2.heap.size:=hx2.size;have HR2:=q8 hr2;have n3:¬w.heap.size=w1.heap.size:=by omega
    have n4:¬w1.heap.size=w2.heap.size:=by omega
    have n5:¬w.heap.size=w2.heap.size:=by omega
    have n6:¬w2.heap.size=w1.heap.size:=by omega
    have n7:¬w2.heap.size=w.heap.size:=by omega
    have HX23:Hid (q9 (fun _=>False) w2 (w2.alloc (.cells #[.int .i64 k,.string wd,.int .i64 v,.slice sa sn sc] 115))):=(q9.refl _ w2).alloc _;by_cases hem:t.txt.toList=[]
    · have hres:W7 N s.toList=.ok nd (t::us):=by
        simp only[W7,hrf];rw[if_pos hem]
      have HRES:=q8 hres;have HEM:=q8 hem;clear hrf hr2 hres hx2 hn2 hem;go_wp2_with first
        | (go_at_call 106;refine(qe0 (HR2.out.new HX23.out) HEM.out).mono ?_;rintro en w4 ⟨rfl,hx4⟩
           have kn:=(hx4.block _ (z8 (heap_alloc_new w2 _)) (fun f=>f)).trans (heap_alloc_new w2 (.cells #[.int .i64 k,.string wd,.int .i64 v,.slice sa sn sc] 115));have a0:=z6 kn 0;have a1:=z6 kn 1;have a2:=z6 kn 2;have a3:=z6 kn 3;have kb:w4.heap[w.heap.size]?=some (.cells #[.int .i64 0,.string ⟨#[]⟩,.int .i64 0,.slice none 0 0] 115):=(hx4.block _ (by simp;omega) (fun f=>f)).trans ((HX23.out.block _ (by omega) (fun f=>f)).trans ((HX2W.out.block _ (by omega) (by show ¬w.heap.size=w1.heap.size;omega)).trans ((HXW.out.block _ (by omega) (fun f=>f)).trans KB1.out)));have z0:=z6 kb 0;have z1:=z6 kb 1;have z2:=z6 kb 2;have z3:=z6 kb 3;have y0:=Q8 kb 0;have y1:=Q8 kb 1;have y2:=Q8 kb 2;have y3:=Q8 kb 3;clear kb;have HX24:Hid (q9 (fun _=>False) w2 w4):=HX23.out.trans hx4;clear kn hx4)
      refine bodyPost_ret (v:=.tuple #[.agg #[.int .i64 k,.string wd,.int .i64 v,.slice sa sn sc],.int .i64 0,.int .i64 0]) (by simp[results,results71,go_sem,z0,z1,z2,z3]) rfl ?_;refine⟨?_,?_⟩
      · exact(HX2.out.trans HX24.out).trans' (Z5 _ _ _ _ _ _) (fun i hi e=>by have h1:i=w.heap.size:=e;omega)
      · rw[HRES.out]
        refine⟨k,wd,v,sa,sn,sc,rfl,?_⟩;exact((HN2.out.ext HX24.out (fun _ _ _ f=>f)).ext (Z5 _ _ _ _ _ _) (fun q _ hq e=>by have h1:w1.heap.size<q:=hq;have h2:q=w.heap.size:=e;omega)).mono (fun q _ hq=>by have h1:w1.heap.size<q:=hq;show w.heap.size<=q;omega)
    · have hres:W7 N s.toList=.no 2 t.pos:=by
        simp only[W7,hrf];rw[if_neg hem]
      have HRES:=q8 hres;have HEM:=q8 hem;clear hrf hr2 hres hx2 hn2 hem;go_wp2_with first
        | (go_at_call 106;refine(qe1 (HR2.out.new HX23.out) HEM.out).mono ?_;rintro en w4 ⟨rfl,hx4,hr4⟩
           obtain⟨o,cap,_,_,hb4⟩:=hr4.here;have c3:w4.cell? ⟨w1.heap.size,3,none⟩=some (.int .i64 t.pos):=z6 hb4 3;have c4:w4.cell? ⟨w1.heap.size,4,none⟩=some (.int .i64 2):=z6 hb4 4;have kb:w4.heap[w.heap.size]?=some (.cells #[.int .i64 0,.string ⟨#[]⟩,.int .i64 0,.slice none 0 0] 115):=(hx4.block _ (by simp;omega) (by show ¬w.heap.size=w1.heap.size;omega)).trans ((HX23.out.block _ (by omega) (fun f=>f)).trans ((HX2W.out.block _ (by omega) (by show ¬w.heap.size=w1.heap.size;omega)).trans ((HXW.out.block _ (by omega) (fun f=>f)).trans KB1.out)));have z0:=z6 kb 0;have z1:=z6 kb 1;have z2:=z6 kb 2;have z3:=z6 kb 3;have y0:=Q8 kb 0;have y1:=Q8 kb 1;have y2:=Q8 kb 2;have y3:=Q8 kb 3;clear kb;have HX24:Hid (q9 (· = w1.heap.size) w2 w4):=(HX23.out.mono (fun _ _ f=>f.elim)).trans hx4;clear hx4 hr4 hb4)
      go_region
      go_wp2_with fail;refine bodyPost_ret (v:=.tuple #[.agg #[.int .i64 0,.string ⟨#[]⟩,.int .i64 0,.slice none 0 0],.int .i64 t.pos,.int .i64 2]) (by simp[results,results71,go_sem,z0,z1,z2,z3]) rfl ?_;refine⟨?_,?_⟩
      · exact((HX2.out.trans' HX24.out (fun i hi e=>by have h1:i=w1.heap.size:=e;omega)).trans' (Z5 _ _ _ _ _ _) (fun i hi e=>by have h1:i=w.heap.size:=e;omega)).drew
      · rw[HRES.out]
theorem zJ3(p:Value)(s:ByteArray)(w:World)(hs:600<s.size)(hm:s.size<=maxLen):
  Calls prog 47 #[.string s,p] w fun e w'=>e=.returned (.tuple #[.agg #[.int .i64 0,.string ⟨#[]⟩,.int .i64 0,.slice none 0 0],.int .i64 0,.int .i64 1])/\q9 (fun _=>False) w w':=by
 have HC:=fun W=>q8 (qd9 p s W hs hm)
 clear hs hm;go_enter func47,ntmps47;go_wp2_with fail;refine(HC _).out.mono ?_;rintro e w1 ⟨rfl,hx1⟩;have HX1:=q8 hx1;have kb:w1.heap[w.heap.size]?=some (.cells #[.int .i64 0,.string ⟨#[]⟩,.int .i64 0,.slice none 0 0] 115):=(hx1.block _ (z8 (heap_alloc_new w _)) (fun f=>f)).trans (heap_alloc_new w _);have z0:=z6 kb 0;have z1:=z6 kb 1;have z2:=z6 kb 2;have z3:=z6 kb 3;have y0:=Q8 kb 0;have y1:=Q8 kb 1;have y2:=Q8 kb 2;have y3:=Q8 kb 3;clear hx1 kb HC;go_wp2_with fail;refine bodyPost_ret (v:=.tuple #[.agg #[.int .i64 0,.string ⟨#[]⟩,.int .i64 0,.slice none 0 0],.int .i64 0,.int .i64 1]) (by simp[results,results47,go_sem,z0,z1,z2,z3]) rfl ⟨rfl,?_⟩;exact(((q9.refl (fun _=>False) w).alloc _).trans HX1.out).trans' (Z5 _ _ _ _ _ _) (fun i hi e=>by have h1:i=w.heap.size:=e;omega)
theorem zD2{sb:Nat}{nv:Value}{N:List Nm}(s:ByteArray)(w:World)(hs:s.size<=600)(hN:qN9 w sb nv N)(hhd:U4 w):
  Calls prog 47 #[.string s,.pointer (some ⟨sb,0,none⟩)] w (jk3 w N s.toList):=by
 have hxa:q9 (fun _=>False) w (w.alloc (.cells #[.int .i64 0,.string ⟨#[]⟩,.int .i64 0,.slice none 0 0] 115)):=(q9.refl _ w).alloc _;have HC:=q8 (jl9 s (w.alloc (.cells #[.int .i64 0,.string ⟨#[]⟩,.int .i64 0,.slice none 0 0] 115)) hs ⟨hN.few,hN.ok,(hxa.cell (p:=⟨sb,0,none⟩) hN.sbs (fun f=>f)).trans hN.tbl,Nat.lt_of_lt_of_le hN.sbs hxa.size,z7 hN.own hxa (fun _ _ f=>f)⟩ (hhd.ext hxa (fun f=>f)));have HXA:=q8 hxa;clear hxa hN hhd hs;go_enter func47,ntmps47;go_wp2_with fail;refine HC.out.mono ?_;rintro en w1 ⟨hx1,hp⟩;have HX1:=q8 hx1;have kb:w1.heap[w.heap.size]?=some (.cells #[.int .i64 0,.string ⟨#[]⟩,.int .i64 0,.slice none 0 0] 115):=(hx1.block _ (z8 (heap_alloc_new w _)) (fun f=>f)).trans (heap_alloc_new w _);have z0:=z6 kb 0;have z1:=z6 kb 1;have z2:=z6 kb 2;have z3:=z6 kb 3;have y0:=Q8 kb 0;have y1:=Q8 kb 1;have y2:=Q8 kb 2;have y3:=Q8 kb 3;clear hx1 kb HC;cases hr:W7 N s.toList with
 | no e p=>rw[hr] at hp;have hp':en=_:=hp;subst hp';have HR:=q8 hr;clear hp hr;go_wp2_with fail;refine bodyPost_ret (v:=.tuple #[.agg #[.int .i64 0,.string ⟨#[]⟩,.int .i64 0,.slice none 0 0],.int .i64 p,.int .i64 e]) (by simp[results,results47,go_sem,z0,z1,z2,z3]) rfl ?_;refine⟨(HXA.out.trans HX1.out).trans' (Z5 _ _ _ _ _ _) (fun i hi e=>by have h1:i=w.heap.size:=e;omega),?_⟩;rw[HR.out]
 | ok nd ts'=>
  rw[hr] at hp;obtain⟨k,wd,v,sa,sn,sc,rfl,hpn⟩:=hp;have HR:=q8 hr;have HPN:=q8 hpn;clear hpn hr;go_wp2_with fail;refine bodyPost_ret (v:=.tuple #[.agg #[.int .i64 k,.string wd,.int .i64 v,.slice sa sn sc],.int .i64 0,.int .i64 0]) (by simp[results,results47,go_sem,z0,z1,z2,z3]) rfl ?_;refine⟨(HXA.out.trans HX1.out).trans' (Z5 _ _ _ _ _ _) (fun i hi e=>by have h1:i=w.heap.size:=e;omega),?_⟩;rw[HR.out];refine⟨k,wd,v,sa,sn,sc,rfl,?_⟩;have hge:∀ q,(w.alloc (Obj.cells #[.int .i64 0,.string ⟨#[]⟩,.int .i64 0,.slice none 0 0] 115)).heap.size<=q->w.heap.size+1<=q:=fun q hq=>by simpa using hq
  exact(HPN.out.ext (Z5 _ _ _ _ _ _) (fun q _ hq e=>by have h1:=hge q hq;have h2:q=w.heap.size:=e;omega)).mono (fun q _ hq=>by have h1:=hge q hq;show w.heap.size<=q;omega)
def zd5(N:List Nm)(l:List UInt8):Rs Nd :=
 match X0 N (toks l).length 0 (toks l) with
 | .no e p=>.no e p
 | .ok _ []=>.no 0 0
 | .ok nd (t::ts)=>if t.txt.toList=[] then .ok nd (t::ts) else .no 2 t.pos
def qO0(w:World)(N:List Nm)(l:List UInt8)(en:Ending)(w':World):Prop :=
 q9 (fun _=>False) w w'/\(match zd5 N l with
  | .ok nd _=>∃ (k:Int) (wd:ByteArray) (v:Int) (sa:Option Addr) (sn sc:Nat),en=.returned (.tuple #[.agg #[.int .i64 k,.string wd,.int .i64 v,.slice sa sn sc],.int .i64 0,.int .i64 0])/\PN w' (w.heap.size <= ·) [.int .i64 k,.string wd,.int .i64 v,.slice sa sn sc] nd
  | .no e p=>en=.returned (.tuple #[.agg #[.int .i64 0,.string ⟨#[]⟩,.int .i64 0,.slice none 0 0],.int .i64 p,.int .i64 e]))
theorem ja2{sb:Nat}{nv:Value}{N:List Nm}(s:ByteArray)(w:World)(hs:s.size<=600)(hN:qN9 w sb nv N)(hhd:U4 w):
    Calls prog 71 #[.string s,.pointer (some ⟨sb,0,none⟩),.func (.func 153) #[] #[]] w (qO0 w N s.toList):=by
  have HN:=q8 hN;have HHD:=q8 hhd;clear hN hhd;have HX0:Hid (q9 (fun _=>False) w (w.alloc (.cells #[.int .i64 0,.string ⟨#[]⟩,.int .i64 0,.slice none 0 0] 115))):=(q9.refl _ w).alloc _;go_enter func71,ntmps71;go_wp2_with fail;refine(qO8 s _ hs).mono ?_;rintro e w1 ⟨v,rfl,hx1,hown⟩;have hpos:1<=(toks s.toList).length:=by
    have:=(qk6 s.toList 0 []).ne;cases h:toks s.toList with
    | nil=>exact absurd h this
    | cons a b=>simp
  have hlen:=zO2 s.toList;rw[Z4] at hlen;obtain⟨tb,tc,hv,htb⟩:∃ tb tc,v=.slice (some ⟨tb,0,none⟩) (toks s.toList).length tc/\w.heap.size<tb:=by
    rcases hown.2 with⟨_,e⟩|⟨g,cap,cur,hv,hg,_⟩
    · omega
    · exact⟨g,cap,hv,by simp at hg;omega⟩
  subst hv;have htl:=(hown.lt tb rfl).2;have htc:(toks s.toList).length<=tc:=by
    rcases hown.2 with⟨_,e⟩|⟨g,cap,cur,hv,hg,_,hc,_⟩
    · omega
    · simp at hv;omega
  have hcell:∀ j u,(V8 (toks s.toList))[j]?=some u->w1.cell? ⟨tb,j,none⟩=some u:=by
    intro j u hj;have h2:j<(toks s.toList).length*3:=by have h3:=(List.getElem?_eq_some_iff.1 hj).1;rw[hown.1] at h3;exact h3
    rw[hown.cellAt j h2];exact hj
  have HT:Hid (zm4 w1 tb 0 (toks s.toList)):=by have h9:=zr0 hcell (zO4 s.toList 600 0 [] (by rw[Z4];simp;omega) (by omega)) (toks s.toList) [] rfl;simp at h9;exact h9
  have HX1:Hid (q9 (fun _=>False) w w1):=HX0.out.trans hx1;have hsz0:=hx1.size;have hsz:w.heap.size<w1.heap.size:=by simp at hsz0;omega
  have kb1:w1.heap[w.heap.size]?=some (.cells #[.int .i64 0,.string ⟨#[]⟩,.int .i64 0,.slice none 0 0] 115):=(hx1.block _ (z8 (heap_alloc_new w _)) (fun f=>f)).trans (heap_alloc_new w _);have KB1:=q8 kb1;clear hown hcell hx1 hsz0 kb1;go_wp2_with fail;obtain⟨W,hW⟩:∃ W,w1.alloc (Obj.cells #[.slice (some ⟨tb,0,none⟩) (toks s.toList).length tc,.pointer (some ⟨sb,0,none⟩),.int .i64 0,.int .i64 0,.int .i64 0] 215)=W:=⟨_,rfl⟩;have hxW:q9 (fun _=>False) w1 W:=by rw[<- hW];exact(q9.refl _ w1).alloc _
  have hxwW:=HX1.out.trans hxW;have hN:=HN.out;have hPR:PR W ⟨w1.heap.size,tb,sb,nv,N⟩ (toks s.toList) 0 0 0:=by
    have hss:=hN.sbs;have hWs:=hxW.size;refine⟨qk6 _ _ _,by omega,by omega,by omega,by show ¬tb=w1.heap.size;omega,by show ¬sb=w1.heap.size;omega,?_,HHD.out.ext hxwW (fun f=>f),by show 0<w1.heap.size;obtain⟨_,_,hb9⟩:=HHD.out;have:=z8 hb9;have:=HX1.out.size;omega,by show tb<W.heap.size;omega,by show sb<W.heap.size;omega,hN.few,hN.ok,(hxwW.cell (p:=⟨sb,0,none⟩) hss (fun f=>f)).trans hN.tbl,z7 hN.own hxwW (fun _ _ f=>f),0,tc,?_,htc,?_⟩
    · intro g hg;have:=(hN.own.lt g hg).2;show ¬g=w1.heap.size;omega
    · exact HT.out.ext hxW htl (fun f=>f)
    · rw[<- hW];exact heap_alloc_new w1 _
  rw[hW];have hWsz:W.heap.size=w1.heap.size+1:=by rw[<- hW];simp
  have HXW:=q8 hxW;have HPR:=q8 hPR;clear hW hxW hPR hN hxwW;refine(qN6 ⟨w1.heap.size,tb,sb,nv,N⟩ 0 0 (toks s.toList).length W (toks s.toList) 0 (Nat.le_refl _) HPR.out).mono ?_;cases hrf:X0 N (toks s.toList).length 0 (toks s.toList) with
  | no e p=>
    rintro en w2 ⟨hx2,rfl,ts',d',hr2⟩;have hres:zd5 N s.toList=.no e p:=by simp only[zd5,hrf]
    have HRES:=q8 hres;obtain⟨o,cap,_,_,hb2⟩:=hr2.here;have HB2:=q8 hb2;have hl2:w1.heap.size<w2.heap.size:=z8 hb2;have n3:¬w.heap.size=w1.heap.size:=by omega
    have HX2W:=q8 hx2;have HX2:Hid (q9 (fun _=>False) w w2):=(HX1.out.trans HXW.out).trans' hx2 (fun i hi e=>by have h1:i=w1.heap.size:=e;omega);clear hrf hr2 hb2 hres hx2;go_wp2_with fail;obtain⟨W3,hW3⟩:∃ W3,w2.alloc (Obj.cells #[.int .i64 0,.string ⟨#[]⟩,.int .i64 0,.slice none 0 0] 115)=W3:=⟨_,rfl⟩;have hx3:q9 (fun _=>False) w2 W3:=by rw[<- hW3];exact(q9.refl _ w2).alloc _
    rw[hW3];clear hW3;have c3:W3.cell? ⟨w1.heap.size,3,none⟩=some (.int .i64 p):=z6 ((hx3.block _ hl2 (fun f=>f)).trans HB2.out) 3;have c4:W3.cell? ⟨w1.heap.size,4,none⟩=some (.int .i64 e):=z6 ((hx3.block _ hl2 (fun f=>f)).trans HB2.out) 4;have kb:W3.heap[w.heap.size]?=some (.cells #[.int .i64 0,.string ⟨#[]⟩,.int .i64 0,.slice none 0 0] 115):=(hx3.block _ (by omega) (fun f=>f)).trans ((HX2W.out.block _ (by omega) (by show ¬w.heap.size=w1.heap.size;omega)).trans ((HXW.out.block _ (by omega) (fun f=>f)).trans KB1.out));have z0:=z6 kb 0;have z1:=z6 kb 1;have z2:=z6 kb 2;have z3:=z6 kb 3;have y0:=Q8 kb 0;have y1:=Q8 kb 1;have y2:=Q8 kb 2;have y3:=Q8 kb 3;clear kb;have HX3:Hid (q9 (fun _=>False) w W3):=HX2.out.trans hx3;clear hx3
    go_region
    go_wp2_with fail;refine bodyPost_ret (v:=.tuple #[.agg #[.int .i64 0,.string ⟨#[]⟩,.int .i64 0,.slice none 0 0],.int .i64 p,.int .i64 e]) (by simp[results,results71,go_sem,z0,z1,z2,z3]) rfl ?_;refine⟨?_,?_⟩
    · exact(HX3.out.trans' (Z5 _ _ _ _ _ _) (fun i hi e=>by have h1:i=w.heap.size:=e;omega)).drew
    · rw[HRES.out]
  | ok nd ts'=>
    rintro en w2 ⟨hx2,k,wd,v,sa,sn,sc,rfl,hn2,hr2⟩;obtain⟨t,us,rfl⟩:=hr2.head;have HX2W:=q8 hx2;have HX2:Hid (q9 (fun _=>False) w w2):=(HX1.out.trans HXW.out).trans' hx2 (fun i hi e=>by have h1:i=w1.heap.size:=e;omega);have HN2:Hid (PN w2 (fun q=>w1.heap.size<q) [.int .i64 k,.string wd,.int .i64 v,.slice sa sn sc] nd):=hn2.mono (fun q _ hq=>by have h1:W.heap.size<=q:=hq;show w1.heap.size<q;omega);have hl2:W.heap.size<=w2.heap.size:=hx2.size;have HR2:=q8 hr2;have n3:¬w.heap.size=w1.heap.size:=by omega
    have n4:¬w1.heap.size=w2.heap.size:=by omega
    have n5:¬w.heap.size=w2.heap.size:=by omega
    have n6:¬w2.heap.size=w1.heap.size:=by omega
    have n7:¬w2.heap.size=w.heap.size:=by omega
    have HX23:Hid (q9 (fun _=>False) w2 (w2.alloc (.cells #[.int .i64 k,.string wd,.int .i64 v,.slice sa sn sc] 115))):=(q9.refl _ w2).alloc _;by_cases hem:t.txt.toList=[]
    · have hres:zd5 N s.toList=.ok nd (t::us):=by
        simp only[zd5,hrf];rw[if_pos hem]
      have HRES:=q8 hres;have HEM:=q8 hem;clear hrf hr2 hres hx2 hn2 hem;go_wp2_with first
        | (go_at_call 106;refine(qe0 (HR2.out.new HX23.out) HEM.out).mono ?_;rintro en w4 ⟨rfl,hx4⟩
           have kn:=(hx4.block _ (z8 (heap_alloc_new w2 _)) (fun f=>f)).trans (heap_alloc_new w2 (.cells #[.int .i64 k,.string wd,.int .i64 v,.slice sa sn sc] 115));have a0:=z6 kn 0;have a1:=z6 kn 1;have a2:=z6 kn 2;have a3:=z6 kn 3;have kb:w4.heap[w.heap.size]?=some (.cells #[.int .i64 0,.string ⟨#[]⟩,.int .i64 0,.slice none 0 0] 115):=(hx4.block _ (by simp;omega) (fun f=>f)).trans ((HX23.out.block _ (by omega) (fun f=>f)).trans ((HX2W.out.block _ (by omega) (by show ¬w.heap.size=w1.heap.size;omega)).trans ((HXW.out.block _ (by omega) (fun f=>f)).trans KB1.out)));have z0:=z6 kb 0;have z1:=z6 kb 1;have z2:=z6 kb 2;have z3:=z6 kb 3;have y0:=Q8 kb 0;have y1:=Q8 kb 1;have y2:=Q8 kb 2;have y3:=Q8 kb 3;clear kb;have HX24:Hid (q9 (fun _=>False) w2 w4):=HX23.out.trans hx4;clear kn hx4)
      refine bodyPost_ret (v:=.tuple #[.agg #[.int .i64 k,.string wd,.int .i64 v,.slice sa sn sc],.int .i64 0,.int .i64 0]) (by simp[results,results71,go_sem,z0,z1,z2,z3]) rfl ?_;refine⟨?_,?_⟩
      · exact(HX2.out.trans HX24.out).trans' (Z5 _ _ _ _ _ _) (fun i hi e=>by have h1:i=w.heap.size:=e;omega)
      · rw[HRES.out]
        refine⟨k,wd,v,sa,sn,sc,rfl,?_⟩;exact((HN2.out.ext HX24.out (fun _ _ _ f=>f)).ext (Z5 _ _ _ _ _ _) (fun q _ hq e=>by have h1:w1.heap.size<q:=hq;have h2:q=w.heap.size:=e;omega)).mono (fun q _ hq=>by have h1:w1.heap.size<q:=hq;show w.heap.size<=q;omega)
    · have hres:zd5 N s.toList=.no 2 t.pos:=by
        simp only[zd5,hrf];rw[if_neg hem]
      have HRES:=q8 hres;have HEM:=q8 hem;clear hrf hr2 hres hx2 hn2 hem;go_wp2_with first
        | (go_at_call 106;refine(qe1 (HR2.out.new HX23.out) HEM.out).mono ?_;rintro en w4 ⟨rfl,hx4,hr4⟩
           obtain⟨o,cap,_,_,hb4⟩:=hr4.here;have c3:w4.cell? ⟨w1.heap.size,3,none⟩=some (.int .i64 t.pos):=z6 hb4 3;have c4:w4.cell? ⟨w1.heap.size,4,none⟩=some (.int .i64 2):=z6 hb4 4;have kb:w4.heap[w.heap.size]?=some (.cells #[.int .i64 0,.string ⟨#[]⟩,.int .i64 0,.slice none 0 0] 115):=(hx4.block _ (by simp;omega) (by show ¬w.heap.size=w1.heap.size;omega)).trans ((HX23.out.block _ (by omega) (fun f=>f)).trans ((HX2W.out.block _ (by omega) (by show ¬w.heap.size=w1.heap.size;omega)).trans ((HXW.out.block _ (by omega) (fun f=>f)).trans KB1.out)));have z0:=z6 kb 0;have z1:=z6 kb 1;have z2:=z6 kb 2;have z3:=z6 kb 3;have y0:=Q8 kb 0;have y1:=Q8 kb 1;have y2:=Q8 kb 2;have y3:=Q8 kb 3;clear kb;have HX24:Hid (q9 (· = w1.heap.size) w2 w4):=(HX23.out.mono (fun _ _ f=>f.elim)).trans hx4;clear hx4 hr4 hb4)
      go_region
      go_wp2_with fail;refine bodyPost_ret (v:=.tuple #[.agg #[.int .i64 0,.string ⟨#[]⟩,.int .i64 0,.slice none 0 0],.int .i64 t.pos,.int .i64 2]) (by simp[results,results71,go_sem,z0,z1,z2,z3]) rfl ?_;refine⟨?_,?_⟩
      · exact((HX2.out.trans' HX24.out (fun i hi e=>by have h1:i=w1.heap.size:=e;omega)).trans' (Z5 _ _ _ _ _ _) (fun i hi e=>by have h1:i=w.heap.size:=e;omega)).drew
      · rw[HRES.out]
theorem jm0{sb:Nat}{nv:Value}{N:List Nm}(s:ByteArray)(w:World)(hs:s.size<=600)(hN:qN9 w sb nv N)(hhd:U4 w):
  Calls prog 114 #[.string s,.pointer (some ⟨sb,0,none⟩)] w (qO0 w N s.toList):=by
 have hxa:q9 (fun _=>False) w (w.alloc (.cells #[.int .i64 0,.string ⟨#[]⟩,.int .i64 0,.slice none 0 0] 115)):=(q9.refl _ w).alloc _;have HC:=q8 (ja2 s (w.alloc (.cells #[.int .i64 0,.string ⟨#[]⟩,.int .i64 0,.slice none 0 0] 115)) hs ⟨hN.few,hN.ok,(hxa.cell (p:=⟨sb,0,none⟩) hN.sbs (fun f=>f)).trans hN.tbl,Nat.lt_of_lt_of_le hN.sbs hxa.size,z7 hN.own hxa (fun _ _ f=>f)⟩ (hhd.ext hxa (fun f=>f)));have HXA:=q8 hxa;clear hxa hN hhd hs;go_enter func114,ntmps114;go_wp2_with fail;refine HC.out.mono ?_;rintro en w1 ⟨hx1,hp⟩;have HX1:=q8 hx1;have kb:w1.heap[w.heap.size]?=some (.cells #[.int .i64 0,.string ⟨#[]⟩,.int .i64 0,.slice none 0 0] 115):=(hx1.block _ (z8 (heap_alloc_new w _)) (fun f=>f)).trans (heap_alloc_new w _);have z0:=z6 kb 0;have z1:=z6 kb 1;have z2:=z6 kb 2;have z3:=z6 kb 3;have y0:=Q8 kb 0;have y1:=Q8 kb 1;have y2:=Q8 kb 2;have y3:=Q8 kb 3;clear hx1 kb HC;cases hr:zd5 N s.toList with
 | no e p=>rw[hr] at hp;have hp':en=_:=hp;subst hp';have HR:=q8 hr;clear hp hr;go_wp2_with fail;refine bodyPost_ret (v:=.tuple #[.agg #[.int .i64 0,.string ⟨#[]⟩,.int .i64 0,.slice none 0 0],.int .i64 p,.int .i64 e]) (by simp[results,results114,go_sem,z0,z1,z2,z3]) rfl ?_;refine⟨(HXA.out.trans HX1.out).trans' (Z5 _ _ _ _ _ _) (fun i hi e=>by have h1:i=w.heap.size:=e;omega),?_⟩;rw[HR.out]
 | ok nd ts'=>
  rw[hr] at hp;obtain⟨k,wd,v,sa,sn,sc,rfl,hpn⟩:=hp;have HR:=q8 hr;have HPN:=q8 hpn;clear hpn hr;go_wp2_with fail;refine bodyPost_ret (v:=.tuple #[.agg #[.int .i64 k,.string wd,.int .i64 v,.slice sa sn sc],.int .i64 0,.int .i64 0]) (by simp[results,results114,go_sem,z0,z1,z2,z3]) rfl ?_;refine⟨(HXA.out.trans HX1.out).trans' (Z5 _ _ _ _ _ _) (fun i hi e=>by have h1:i=w.heap.size:=e;omega),?_⟩;rw[HR.out];refine⟨k,wd,v,sa,sn,sc,rfl,?_⟩;have hge:∀ q,(w.alloc (Obj.cells #[.int .i64 0,.string ⟨#[]⟩,.int .i64 0,.slice none 0 0] 115)).heap.size<=q->w.heap.size+1<=q:=fun q hq=>by simpa using hq
  exact(HPN.out.ext (Z5 _ _ _ _ _ _) (fun q _ hq e=>by have h1:=hge q hq;have h2:q=w.heap.size:=e;omega)).mono (fun q _ hq=>by have h1:=hge q hq;show w.heap.size<=q;omega)
end Go.Proofs.YtegbdaffhpiacaaGreatDoor
