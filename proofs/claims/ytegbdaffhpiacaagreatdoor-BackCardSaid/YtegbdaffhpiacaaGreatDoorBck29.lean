/- A theory in memory: follow. -/
import Derived.Test.YtegbdaffhpiacaaGreatDoorBck28
import Derived.Deep.LoopGhost
namespace Go.Proofs.YtegbdaffhpiacaaGreatDoor
open Go.RowKit Ar
theorem qu1 {n:Nat} {far:Int} {V:(Nat->Int)->Prop} {H:Nat->(Nat->Int)->Prop} {K:Nat} {T:Tb} (h:V4 n far V H K T) (hfar:far<=1000000) (hn:n<=13) : -169000000<=zX5 n T:=by
 have h0:0 < n->0<=far:=fun hp=>by have:=h.hi 0 0 hp hp;have:=h.diag 0 hp;omega
 have h1:∀ i,i < n->(-13000000:Int)<=zA3 (fun j=>T.by_ i j) n:=by
  intro i hi
  have h2:=zX6 (f:=fun j=>T.by_ i j) (b := -1000000) n (fun j hj=>by have:=h.lo hi hj;show -1000000<=T.by_ i j;omega)
  omega
 have h3:=zX6 (f:=fun i=>zA3 (fun j=>T.by_ i j) n) (b := -13000000) n h1
 unfold zX5
 omega
section
variable {w:World} {hb g:Nat} {c:ThV} {TK:List Z0} {AK:List PA} {tw:List (Nat × Nat)} {As:List (PA × Bool)} {TT:List Y5} {X:Y5} {F:Fx}
theorem ThR.news (h:ThR w hb g c TK AK tw As (TT++[X])) (b:Bool):∃ C,w.heap[g]?=some (.cells C 203)/\w.cell? ⟨g,TT.length * 681+677,none⟩=some (.bool X.news)/\w.frozen? ⟨g,TT.length * 681+677,none⟩=false/\ThR (w.setCell ⟨g,TT.length * 681+677,none⟩ (.bool b)) hb g c TK AK tw As (TT++[⟨X.t,b,X.wrong⟩])/\q9 (fun k=>k=g) w (w.setCell ⟨g,TT.length * 681+677,none⟩ (.bool b)):=by
 obtain ⟨C,kg,hT,hturn⟩:=h.tab
 have hx:q9 (fun k=>k=g) w (w.setCell ⟨g,TT.length * 681+677,none⟩ (.bool b)):=(q9.refl (fun k=>k=g) w).setCell (p:=⟨g,TT.length * 681+677,none⟩) (fun _=>rfl) _
 exact ⟨C,kg,(z6 kg _).trans hT.news,Q0 kg _,hturn _ _ ⟨hx,_,Y0 kg _ _,hT.setNews b,X7.news _ _ _⟩,hx⟩
def zt7 (n:Nat) (Y:Y5):Nat:=(2 * (zX5 n Y.t+169000000)+(if Y.news=true then 1 else 0)).toNat
set_option maxRecDepth 100000 in
set_option maxHeartbeats 1000000 in
theorem ql8 (h:ThR w hb g c TK AK tw As (TT++[X])) (hF:qb8 F TK tw) (hT:TK.length<=12) (hl:TT.length<=500) (htw:tw.length<=1000) (hAs:As.length<=190) (hok:∀ x∈As,x.1.at_.Ok/\x.1.i < TK.length/\x.1.j < TK.length) (hI:V4 (F.n+1) F.far F.V (HA (Y3 As)) As.length X.t) (hfar:F.far<=1000000) :
  Calls Tryz.prog 261 #[.pointer (some ⟨hb,0,none⟩)] w fun e w'=>∃ Y ok,e=.returned (.bool ok)/\ThR w' hb g c TK AK tw As (TT++[Y])/\q9 (fun k=>k=g) w w'/\TLe (F.n+1) Y.t X.t/\(ok=true->V4 (F.n+1) F.far F.V (HA (Y3 As)) As.length Y.t/\(∀ x∈Y3 As,zc9 Y.t x)/\∀ p∈tw,zf3 F Y.t p)/\(ok=false->J7 As.length Y.wrong/\∀ v,F.V v->¬Hs (HA (Y3 As)) Y.wrong v):=by
 have hnow:=zf5 h (by simp) (by simp;omega)
 rw [List.length_append,List.length_singleton,Nat.add_sub_cancel] at hnow
 have hd:=h.ext ((q9.refl (fun _=>False) w).drew) (fun _ _ f=>f)
 obtain ⟨C0,kg0,n0,f0,hR0,hx0⟩:=hd.news true
 have HR0:=q8 hR0
 have HX0:Hid (q9 (fun k=>k=g) w _):=q8 (((q9.refl (fun k=>k=g) w).drew).trans hx0)
 have HI:=q8 hI
 have HF:=q8 hF
 have HOK:=q8 hok
 have HNOW:=q8 hnow
 have hFn:=hF.fn
 have HPART:Hid (∀ (W:World) (Y:Y5),ThR W hb g c TK AK tw As (TT++[Y])->V4 (F.n+1) F.far F.V (HA (Y3 As)) As.length Y.t->Calls Tryz.prog 268 #[.pointer (some ⟨hb,0,none⟩)] W (ThC W hb g c TK AK tw As TT Y F (fun Y=>Y.news=false->∀ x∈Y3 As,zc9 Y.t x))) :=
  fun W Y h1 h2=>ql5 h1 hF.fn hT hl hAs hok h2 hfar
 have HMAP:Hid (∀ (W:World) (Y:Y5),ThR W hb g c TK AK tw As (TT++[Y])->V4 (F.n+1) F.far F.V (HA (Y3 As)) As.length Y.t->Calls Tryz.prog 269 #[.pointer (some ⟨hb,0,none⟩)] W (ThC W hb g c TK AK tw As TT Y F (fun Y=>Y.news=false->∀ p∈tw,zf3 F Y.t p))) :=
  fun W Y h1 h2=>ql7 h1 hF hT hl htw h2 hfar
 have HNEWS:Hid (∀ (W:World) (Y:Y5),ThR W hb g c TK AK tw As (TT++[Y])->W.cell? ⟨g,TT.length * 681+677,none⟩=some (.bool Y.news)/\W.frozen? ⟨g,TT.length * 681+677,none⟩=false/\ThR (W.setCell ⟨g,TT.length * 681+677,none⟩ (.bool false)) hb g c TK AK tw As (TT++[⟨Y.t,false,Y.wrong⟩])/\q9 (fun k=>k=g) W (W.setCell ⟨g,TT.length * 681+677,none⟩ (.bool false))) :=
  fun W Y h1=>by obtain ⟨_,_,a,b,c,d⟩:=h1.news false;exact ⟨a,b,c,d⟩
 obtain ⟨m,hm⟩:∃ m,TT.length * 681=m:=⟨_,rfl⟩
 rw [hm] at HNOW HNEWS n0 f0 HR0 HX0
 clear h hd kg0 hR0 hx0 hI hF hok hnow hm
 go_enter Tryz.func261,Tryz.ntmps261
 go_wp2_with fail
 refine HNOW.out.mono ?_
 rintro e w1 ⟨rfl,rfl⟩
 go_wp2_with fail
 go_loopg [] (zt7 (F.n+1) ⟨X.t,true,X.wrong⟩) (fun k wr=>∃ Y,k=zt7 (F.n+1) Y/\ThR wr hb g c TK AK tw As (TT++[Y])/\q9 (fun k=>k=g) w wr/\V4 (F.n+1) F.far F.V (HA (Y3 As)) As.length Y.t/\TLe (F.n+1) Y.t X.t/\(Y.news=false->(∀ x∈Y3 As,zc9 Y.t x)/\∀ p∈tw,zf3 F Y.t p))
 case atStart=>exact ⟨⟨X.t,true,X.wrong⟩,rfl,HR0.out,HX0.out,HI.out,TLe.refl _ _,fun e=>by simp at e⟩
 case round =>
  obtain ⟨Y,rfl,hR,hx,hI,hle,hq⟩:=hrel
  obtain ⟨c0,z0,hR0,hx0⟩:=HNEWS.out wr Y hR
  have HR:=q8 hR
  have HX:=q8 hx
  have HIY:=q8 hI
  have HLE:=q8 hle
  have HQ:=q8 hq
  have HR1:=q8 hR0
  have HX1:=q8 (hx.trans hx0)
  cases hn:Y.news with
  | false =>
   rw [hn] at c0
   have HN:=q8 hn
   clear hR hx hI hle hq hR0 hx0 hn
   go_wp2_with fail
   go_ret
   exact ⟨Y,true,rfl,HR.out,HX.out,HLE.out,fun _=>⟨HIY.out,(HQ.out HN.out).1,(HQ.out HN.out).2⟩,fun e=>by simp at e⟩
  | true =>
   rw [hn] at c0
   have HN:=q8 hn
   clear hR hx hI hle hq hR0 hx0 hn
   go_wp2_with fail
   refine (HPART.out _ _ HR1.out HIY.out).mono ?_
   rintro e w2 ⟨Z,ok,rfl,hRZ,hxZ,hPZ,hZ⟩
   have HRZ:=q8 hRZ
   have HXZ:=q8 (HX1.out.trans hxZ)
   have HPZ:=q8 hPZ
   have HZ:=q8 hZ
   clear hRZ hxZ hPZ hZ c0 z0
   cases ok with
   | false =>
    go_wp2_with fail
    go_ret
    exact ⟨Z,false,rfl,HRZ.out,HXZ.out,HPZ.out.le.trans HLE.out,fun e=>by simp at e,fun _=>HPZ.out.bad rfl⟩
   | true =>
    go_wp2_with fail
    refine (HMAP.out _ _ HRZ.out (HPZ.out.inv rfl)).mono ?_
    rintro e w3 ⟨Z2,ok,rfl,hRZ,hxZ,hPZ,hZ⟩
    have HRZ2:=q8 hRZ
    have HXZ2:=q8 (HXZ.out.trans hxZ)
    have HPZ2:=q8 hPZ
    have HZ2:=q8 hZ
    clear hRZ hxZ hPZ hZ
    cases ok with
    | false =>
     go_wp2_with fail
     go_ret
     exact ⟨Z2,false,rfl,HRZ2.out,HXZ2.out,(HPZ2.out.le.trans HPZ.out.le).trans HLE.out,fun e=>by simp at e,fun _=>HPZ2.out.bad rfl⟩
    | true =>
     go_wp2_with fail
     go_roundg (zt7 (F.n+1) Z2)
     case measure =>
      have hp:=HPZ.out.trans HPZ2.out
      have g1:=qu1 HIY.out hfar (by omega)
      have g2:=qu1 (hp.inv rfl) hfar (by omega)
      unfold zt7
      rw [if_pos HN.out]
      cases hz:Z2.news with
      | false =>
       rw [(hp.news hz).2]
       simp
       omega
      | true =>
       rcases hp.dec hz with d | d
       ·simp at d
       ·simp only at d
        simp
        omega
     case rel =>
      refine ⟨Z2,rfl,HRZ2.out,HXZ2.out,HPZ2.out.inv rfl,(HPZ2.out.le.trans HPZ.out.le).trans HLE.out,fun e=>?_⟩
      obtain ⟨n1,n2⟩:=HPZ2.out.news e
      refine ⟨?_,HZ2.out (by simp) e⟩
      rw [n2]
      exact HZ.out (by simp) n1
end
end Go.Proofs.YtegbdaffhpiacaaGreatDoor
