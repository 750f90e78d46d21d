/- A part of the proof. -/
import Derived.Test.YtegbdaffhpiacaaGreatDoorMod24
import Derived.Deep.LoopGhost
set_option maxRecDepth 100000
set_option maxHeartbeats 1000000
namespace Go.Proofs.YtegbdaffhpiacaaGreatDoor
open Tryz hiding parts
open Go.RowKit Ar
theorem qy2{n:Nat}{far:Int}{V:(Nat->Int)->Prop}{H:Nat->(Nat->Int)->Prop}{K:Nat}{T:Tb}(h:V9 n far V H K T)(hfar:far<=1000000)(hn:n<=13):-169000000<=qb3 n T:=by
 have h0:0<n->0<=far:=fun hp=>by have:=h.hi 0 0 hp hp;have:=h.diag 0 hp;omega
 have h1:∀ i,i<n->(-13000000:Int)<=zC2 (fun j=>T.by_ i j) n:=by intro i hi;have h2:=qb4 (f:=fun j=>T.by_ i j) (b := -1000000) n (fun j hj=>by have:=h.lo hi hj;show -1000000<=T.by_ i j;omega);omega
 have h3:=qb4 (f:=fun i=>zC2 (fun j=>T.by_ i j) n) (b := -13000000) n h1;unfold qb3;omega
section
variable{w:World}{hb g:Nat}{c:ThV}{TK:List Z3}{AK:List PA}{tw:List (Nat × Nat)}{As:List (PA × Bool)}{TT:List W9}{X:W9}{F:Fx}
theorem ThR.news(h:ThR w hb g c TK AK tw As (TT++[X]))(b:Bool):∃ C,w.heap[g]?=some (.cells C 203)/\w.cell? ⟨g,TT.length*681+677,none⟩=some (.bool X.news)/\w.frozen? ⟨g,TT.length*681+677,none⟩=false/\ThR (w.setCell ⟨g,TT.length*681+677,none⟩ (.bool b)) hb g c TK AK tw As (TT++[⟨X.t,b,X.wrong⟩])/\q9 (fun k=>k=g) w (w.setCell ⟨g,TT.length*681+677,none⟩ (.bool b)):=by obtain⟨C,kg,hT,hturn⟩:=h.tab;have hx:q9 (fun k=>k=g) w (w.setCell ⟨g,TT.length*681+677,none⟩ (.bool b)):=(q9.refl (fun k=>k=g) w).setCell (p:=⟨g,TT.length*681+677,none⟩) (fun _=>rfl) _;exact⟨C,kg,(z6 kg _).trans hT.news,Q8 kg _,hturn _ _ ⟨hx,_,Y4 kg _ _,hT.setNews b,X9.news _ _ _⟩,hx⟩
def zv4(n:Nat)(Y:W9):Nat:=(2*(qb3 n Y.t+169000000)+(if Y.news=true then 1 else 0)).toNat
theorem qp9(h:ThR w hb g c TK AK tw As (TT++[X]))(hF:qg2 F TK tw)(hT:TK.length<=12)(hl:TT.length<=500)(htw:tw.length<=1000)(hAs:As.length<=190)(hok:∀ x∈As,x.1.at_.Ok/\x.1.i<TK.length/\x.1.j<TK.length)(hI:V9 (F.n+1) F.far F.V (HA (Y8 As)) As.length X.t)(hfar:F.far<=1000000):
  Calls prog 261 #[.pointer (some ⟨hb,0,none⟩)] w fun e w'=>∃ Y ok,e=.returned (.bool ok)/\ThR w' hb g c TK AK tw As (TT++[Y])/\q9 (fun k=>k=g) w w'/\TLe (F.n+1) Y.t X.t/\(ok=true->V9 (F.n+1) F.far F.V (HA (Y8 As)) As.length Y.t/\(∀ x∈Y8 As,ze1 Y.t x)/\∀ p∈tw,zg3 F Y.t p)/\(ok=false->J8 As.length Y.wrong/\∀ v,F.V v->¬Hs (HA (Y8 As)) Y.wrong v):=by
 have hnow:=zg5 h (by simp) (by simp;omega);rw[List.length_append,List.length_singleton,Nat.add_sub_cancel] at hnow;have hd:=h.ext ((q9.refl (fun _=>False) w).drew) (fun _ _ f=>f);obtain⟨C0,kg0,n0,f0,hR0,hx0⟩:=hd.news true;have HR0:=q8 hR0;have HX0:Hid (q9 (fun k=>k=g) w _):=q8 (((q9.refl (fun k=>k=g) w).drew).trans hx0);have HI:=q8 hI;have HF:=q8 hF;have HOK:=q8 hok;have HNOW:=q8 hnow;have hFn:=hF.fn;have HPART:Hid (∀ (W:World) (Y:W9),ThR W hb g c TK AK tw As (TT++[Y])->V9 (F.n+1) F.far F.V (HA (Y8 As)) As.length Y.t->Calls prog 268 #[.pointer (some ⟨hb,0,none⟩)] W (ThC W hb g c TK AK tw As TT Y F (fun Y=>Y.news=false->∀ x∈Y8 As,ze1 Y.t x))) :=
  fun W Y h1 h2=>qp6 h1 hF.fn hT hl hAs hok h2 hfar
 have HMAP:Hid (∀ (W:World) (Y:W9),ThR W hb g c TK AK tw As (TT++[Y])->V9 (F.n+1) F.far F.V (HA (Y8 As)) As.length Y.t->Calls prog 269 #[.pointer (some ⟨hb,0,none⟩)] W (ThC W hb g c TK AK tw As TT Y F (fun Y=>Y.news=false->∀ p∈tw,zg3 F Y.t p))) :=
  fun W Y h1 h2=>qp8 h1 hF hT hl htw h2 hfar
 have HNEWS:Hid (∀ (W:World) (Y:W9),ThR W hb g c TK AK tw As (TT++[Y])->W.cell? ⟨g,TT.length*681+677,none⟩=some (.bool Y.news)/\W.frozen? ⟨g,TT.length*681+677,none⟩=false/\ThR (W.setCell ⟨g,TT.length*681+677,none⟩ (.bool false)) hb g c TK AK tw As (TT++[⟨Y.t,false,Y.wrong⟩])/\q9 (fun k=>k=g) W (W.setCell ⟨g,TT.length*681+677,none⟩ (.bool false))) :=
  fun W Y h1=>by obtain⟨_,_,a,b,c,d⟩:=h1.news false;exact⟨a,b,c,d⟩
 obtain⟨m,hm⟩:∃ m,TT.length*681=m:=⟨_,rfl⟩;rw[hm] at HNOW HNEWS n0 f0 HR0 HX0;clear h hd kg0 hR0 hx0 hI hF hok hnow hm;go_enter func261,ntmps261;go_wp2_with fail;refine HNOW.out.mono ?_;rintro e w1 ⟨rfl,rfl⟩;go_wp2_with fail
 go_loopg [] (zv4 (F.n+1) ⟨X.t,true,X.wrong⟩) (fun k wr=>∃ Y,k=zv4 (F.n+1) Y/\ThR wr hb g c TK AK tw As (TT++[Y])/\q9 (fun k=>k=g) w wr/\V9 (F.n+1) F.far F.V (HA (Y8 As)) As.length Y.t/\TLe (F.n+1) Y.t X.t/\(Y.news=false->(∀ x∈Y8 As,ze1 Y.t x)/\∀ p∈tw,zg3 F Y.t p))
 case atStart=>exact⟨⟨X.t,true,X.wrong⟩,rfl,HR0.out,HX0.out,HI.out,TLe.refl _ _,fun e=>by simp at e⟩
 case round=>
  obtain⟨Y,rfl,hR,hx,hI,hle,hq⟩:=hrel;obtain⟨c0,z0,hR0,hx0⟩:=HNEWS.out wr Y hR;have HR:=q8 hR;have HX:=q8 hx;have HIY:=q8 hI;have HLE:=q8 hle;have HQ:=q8 hq;have HR1:=q8 hR0;have HX1:=q8 (hx.trans hx0);cases hn:Y.news with
  | false=>rw[hn] at c0;have HN:=q8 hn;clear hR hx hI hle hq hR0 hx0 hn;go_wp2_with fail;go_ret;exact⟨Y,true,rfl,HR.out,HX.out,HLE.out,fun _=>⟨HIY.out,(HQ.out HN.out).1,(HQ.out HN.out).2⟩,fun e=>by simp at e⟩
  | true=>
   rw[hn] at c0;have HN:=q8 hn;clear hR hx hI hle hq hR0 hx0 hn;go_wp2_with fail;refine(HPART.out _ _ HR1.out HIY.out).mono ?_;rintro e w2 ⟨Z,ok,rfl,hRZ,hxZ,hPZ,hZ⟩;have HRZ:=q8 hRZ;have HXZ:=q8 (HX1.out.trans hxZ);have HPZ:=q8 hPZ;have HZ:=q8 hZ;clear hRZ hxZ hPZ hZ c0 z0;cases ok with
   | false=>go_wp2_with fail;go_ret;exact⟨Z,false,rfl,HRZ.out,HXZ.out,HPZ.out.le.trans HLE.out,fun e=>by simp at e,fun _=>HPZ.out.bad rfl⟩
   | true=>
    go_wp2_with fail;refine(HMAP.out _ _ HRZ.out (HPZ.out.inv rfl)).mono ?_;rintro e w3 ⟨Z2,ok,rfl,hRZ,hxZ,hPZ,hZ⟩;have HRZ2:=q8 hRZ;have HXZ2:=q8 (HXZ.out.trans hxZ);have HPZ2:=q8 hPZ;have HZ2:=q8 hZ;clear hRZ hxZ hPZ hZ;cases ok with
    | false=>go_wp2_with fail;go_ret;exact⟨Z2,false,rfl,HRZ2.out,HXZ2.out,(HPZ2.out.le.trans HPZ.out.le).trans HLE.out,fun e=>by simp at e,fun _=>HPZ2.out.bad rfl⟩
    | true=>
     go_wp2_with fail
     go_roundg (zv4 (F.n+1) Z2)
     case measure=>
      have hp:=HPZ.out.trans HPZ2.out;have g1:=qy2 HIY.out hfar (by omega);have g2:=qy2 (hp.inv rfl) hfar (by omega);unfold zv4;rw[if_pos HN.out];cases hz:Z2.news with
      | false=>rw[(hp.news hz).2];simp;omega
      | true=>
       rcases hp.dec hz with d|d
       ·simp at d
       ·simp only at d;simp;omega
     case rel=>refine⟨Z2,rfl,HRZ2.out,HXZ2.out,HPZ2.out.inv rfl,(HPZ2.out.le.trans HPZ.out.le).trans HLE.out,fun e=>?_⟩;obtain⟨n1,n2⟩:=HPZ2.out.news e;refine⟨?_,HZ2.out (by simp) e⟩;rw[n2];exact HZ.out (by simp) n1
end
end Go.Proofs.YtegbdaffhpiacaaGreatDoor
