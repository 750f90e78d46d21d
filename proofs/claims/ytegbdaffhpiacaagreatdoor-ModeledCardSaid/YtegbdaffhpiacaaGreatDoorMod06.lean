/- A part of the proof. -/
import Derived.Test.YtegbdaffhpiacaaGreatDoorMod05
import Derived.Deep.LoopGhost
set_option maxRecDepth 100000
set_option maxHeartbeats 400000
namespace Go.Proofs.YtegbdaffhpiacaaGreatDoor
open Tryz
open Go.RowKit Ar
theorem jm1{w:World}{c:V7}{ts:List Tk}{d pl er:Int}(n:Nat)(F:List Tk->Rs Nd)(h:PR w c ts d pl er)(hn:ts.length<=n)(hfit:Fits F)
  (hf:∀ (w:World) (ts:List Tk),ts.length<=n->PR w c ts d pl er->Calls prog 72 #[.pointer (some ⟨c.rb,0,none⟩)] w (X7 w c d pl er (F ts))):
  Calls prog 187 #[.pointer (some ⟨c.rb,0,none⟩)] w (H7 w c d pl er (X8 n F ts)):=by
 obtain⟨i0,hi,hz0,hz1,hz2⟩:=info_parts qO2;have HI:Hid (prog.info? 115=some i0/\i0.zero=some (.agg #[.int .i64 0,.string ByteArray.empty,.int .i64 0,.slice none 0 0])/\i0.size=4/\i0.bytes=56):=⟨hi,hz0,hz1,hz2⟩;clear hi hz0 hz1 hz2;have H:=q8 h;have HF:=q8 hf;have HFIT:=q8 hfit;have F0:=zh6;have hrb:=h.rbs;have htb:=h.tbs;have hsb:=h.sbs;have HNV:=q8 h.nvs;have hlen:=h.len;have HTS:=q8 h.ts;clear h hf hfit;go_enter func187,ntmps187;go_wp2_with fail
 go_loopg [4] ts.length (fun gk out wr=>∃ (j:Nat) (sa:Option Addr) (sc:Nat) (ps:List Nd) (us:List Tk) (kids:List (List Value)),us.length<=gk/\gk+j<=ts.length/\out=.slice sa j sc/\q9 (· = c.rb) w wr/\zw7 wr (w.heap.size <= ·) (.slice sa j sc) ps kids/\ps.length=j/\PR wr c us d pl er/\X8 n F ts=zw4 ps (X8 (n-j) F us))
 case atStart=>exact⟨0,none,0,[],ts,[],Nat.le_refl _,by omega,rfl,q9.refl _ _,⟨World.ownsRow_nil _ _ _ _,fun _ h=>absurd h (by simp),rfl,fun g hg=>absurd hg (by simp[Value.ownBlock]),fun _ _ _ h=>absurd h (by simp)⟩,rfl,H.out,by rw[jg5];rfl⟩
 case round=>
  obtain⟨j,sa,sc,ps,us,kids,hus,hgj,rfl,hE,hrow,hpl,hpr,hrd⟩:=hrel;obtain⟨v,vs,rfl⟩:=hpr.head;have HE:=q8 hE;have HROW:=q8 hrow;have HPL:=q8 hpl;have HPR:=q8 hpr;have hnj:n-j=(n-j-1)+1:=by simp at hus;omega
  have HRD:=q8 hrd;have HNJ:=q8 hnj;have HUS:=q8 hus;clear hE hrow hpr hrd hpl hnj hus;obtain⟨hi,hz0,hz1,hz2⟩:=HI.out;by_cases hq:v.txt.toList=[41]
  ·have hk:(kOf v.txt.toList==2)=true:=by rw[zD3 hq];rfl
   have HRES:Hid (X8 n F ts=.ok ps (v::vs)):=by show _=_;rw[HRD.out,HNJ.out];exact qU4 hq
   clear hq;go_wp2_with (go_at_call 107;refine(X5 HPR.out).mono ?_;rintro en w1 ⟨rfl,hx1⟩;have HX1:=q8 hx1;clear hx1)
   go_ret2
   rw[HRES.out];refine⟨HE.out.trans (HX1.out.mono (fun _ _ f=>f.elim)),sa,j,sc,kids,rfl,?_,HPR.out.new HX1.out⟩;exact⟨z7 HROW.out.how HX1.out (fun _ _ f=>f),HROW.out.hl,HROW.out.hn,HROW.out.hD,fun i cs p h1 h2=>(HROW.out.hk i cs p h1 h2).ext HX1.out (fun _ _ _ f=>f)⟩
  ·have hk:=zY4 hq;have HQ:=q8 hq;clear hq;go_wp2_with (go_at_call 107;refine(X5 HPR.out).mono ?_;rintro en w1 ⟨rfl,hx1⟩;have HX1:=q8 hx1;clear hx1);have HCALL:=q8 (HF.out w1 (v::vs) (by have h1:=HUS.out;omega) (HPR.out.new HX1.out));have HROW1:Hid (zw7 w1 (w.heap.size <= ·) (.slice sa j sc) ps kids):=⟨z7 HROW.out.how HX1.out (fun _ _ f=>f),HROW.out.hl,HROW.out.hn,HROW.out.hD,fun i cs p h1 h2=>(HROW.out.hk i cs p h1 h2).ext HX1.out (fun _ _ _ f=>f)⟩;have HE1:Hid (q9 (· = c.rb) w w1):=HE.out.trans (HX1.out.mono (fun _ _ f=>f.elim));cases hFu:F (v::vs) with
   | no e p=>
    have HRES:Hid (X8 n F ts=.no e p):=by show _=_;rw[HRD.out,HNJ.out];exact jg6 HQ.out hFu
    have HCALL':Hid (Calls prog 72 #[.pointer (some ⟨c.rb,0,none⟩)] w1 (X7 w1 c d pl er (.no e p))):=by have:=HCALL.out;rw[hFu] at this;exact this
    clear HCALL hFu;refine HCALL'.out.mono ?_;rintro en w2 ⟨hx2,rfl,ts',d',hr2⟩;have HX2:=q8 hx2;have HR2:=q8 hr2;clear hx2 hr2;go_wp2_with fail
    go_ret2
    rw[HRES.out];exact⟨(HE1.out.trans HX2.out).alloc _,rfl,ts',d',HR2.out.new ((q9.refl _ w2).alloc _)⟩
   | ok nd us'=>
    have HSN:Hid (X8 n F ts=zw4 (ps++[nd]) (X8 (n-j-1) F us')):=by show _=_;rw[HRD.out,HNJ.out,qK0 HQ.out hFu];rfl
    have HSHORT:Hid (us'.length+1<=(v::vs).length):=zO1 HFIT.out HPR.out.ts hFu;have HCALL':Hid (Calls prog 72 #[.pointer (some ⟨c.rb,0,none⟩)] w1 (X7 w1 c d pl er (.ok nd us'))):=by have:=HCALL.out;rw[hFu] at this;exact this
    clear HCALL hFu;refine HCALL'.out.mono ?_;rintro en w2 ⟨hx2,k,wd,v2,na,nn,nc,rfl,hn2,hr2⟩;have HX2:=q8 hx2;have HR2:=q8 hr2;have HN2:=q8 hn2;have HO2:=q8 (z7 HROW1.out.how hx2 (fun q hq e=>by have h1:w.heap.size<=q:=HROW1.out.hD q hq;have h2:q=c.rb:=e;omega));clear hx2 hr2 hn2;go_wp2_with (at_builtin;refine wpList_append_own_at _ rfl _ _ 113 rfl 0 115 i0 (.agg #[.int .i64 0,.string ByteArray.empty,.int .i64 0,.slice none 0 0]) 4 56 underlying113 hi hz0 hz1 hz2 rfl (by decide) _ _ _ rfl ((HO2.out.alloc _).alloc _) ⟨w2.heap.size+1,0,none⟩ 1 1 [.int .i64 k,.string wd,.int .i64 v2,.slice na nn nc] rfl rfl ?c1 ?c2 ?c3 ?c4 ?c5 ?_)
    case c1=>
     intro q u hq2
     match q,hq2 with
     | 0,hq2=>simp at hq2;subst hq2;simp[Addr.add]
     | 1,hq2=>simp at hq2;subst hq2;simp[Addr.add]
     | 2,hq2=>simp at hq2;subst hq2;simp[Addr.add]
     | 3,hq2=>simp at hq2;subst hq2;simp[Addr.add]
    case c2=>intro u hu;simp at hu;rcases hu with rfl|rfl|rfl|rfl<;>rfl
    case c3=>have:=HPL.out;unfold maxLen;omega
    case c4=>have:=HPL.out;omega
    case c5=>omega
    intro v' wa hown' hgrow _ hat;obtain⟨hrow',hxa,⟨g2,cap2,hv'⟩,hlo⟩:=zS7 HE1.out HROW1.out HX2.out HN2.out rfl _ _ hown' hgrow hat hrb;have HROW2:=q8 hrow';have HE2:Hid (q9 (· = c.rb) w wa):=(HE1.out.trans HX2.out).trans' hxa (fun i hi e=>by have:=hlo i e;omega);have HR3:=q8 (HR2.out.ext hxa (fun e=>by have:=hlo _ e;omega) (fun e=>by have:=hlo _ e;omega) (fun e=>by have:=hlo _ e;omega) (fun g hg e=>by have h1:=hlo _ e;have:=HNV.out g hg;omega) (fun e=>by have:=hlo _ e;have:=HR2.out.hdn;omega));clear hown' hgrow hat hrow' hxa hlo;subst hv';go_wp2_with fail
    go_roundg (gk-1)
    case measure=>have h1:=HUS.out;simp at h1;omega
    case rel=>
     have h1:=HUS.out;have h2:=HSHORT.out;refine⟨j+1,some ⟨g2,0,none⟩,cap2,ps++[nd],us',kids++[[.int .i64 k,.string wd,.int .i64 v2,.slice na nn nc]],by simp at h1 h2;omega,by simp at h1;omega,by rw[HPL.out],HE2.out,by have h1:=HROW2.out;rw[HPL.out] at h1;exact h1,by simp[HPL.out],HR3.out,?_⟩;rw[HSN.out]
     rfl
end Go.Proofs.YtegbdaffhpiacaaGreatDoor
