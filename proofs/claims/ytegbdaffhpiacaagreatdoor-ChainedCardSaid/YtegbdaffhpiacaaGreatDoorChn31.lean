/- A theory in memory: follow. -/
import Derived.Test.YtegbdaffhpiacaaGreatDoorChn30
import Derived.Deep.LoopGhost
namespace Go.Proofs.YtegbdaffhpiacaaGreatDoor
open Go.RowKit Ar
theorem tsum_ge {n:Nat} {far:Int} {V:(Nat->Int)->Prop} {H:Nat->(Nat->Int)->Prop} {K:Nat} {T:Tb} (h:TInv n far V H K T) (hfar:far<=1000000) (hn:n<=13) : -169000000<=tsum n T:=by
 have h0:0 < n->0<=far:=fun hp=>by have:=h.hi 0 0 hp hp;have:=h.diag 0 hp;omega
 have h1:∀ i,i < n->(-13000000:Int)<=rsum (fun j=>T.by_ i j) n:=by
  intro i hi
  have h2:=rsum_ge (f:=fun j=>T.by_ i j) (b := -1000000) n (fun j hj=>by have:=h.lo hi hj;show -1000000<=T.by_ i j;omega)
  omega
 have h3:=rsum_ge (f:=fun i=>rsum (fun j=>T.by_ i j) n) (b := -13000000) n h1
 unfold tsum
 omega
section
variable {w:World} {hb g:Nat} {c:ThV} {TK:List TKey} {AK:List PA} {tw:List (Nat × Nat)} {As:List (PA × Bool)} {TT:List Tab} {X:Tab} {F:Fx}
theorem ThR.news (h:ThR w hb g c TK AK tw As (TT++[X])) (b:Bool):∃ C,w.heap[g]?=some (.cells C 203)/\w.cell? ⟨g,TT.length * 681+677,none⟩=some (.bool X.news)/\w.frozen? ⟨g,TT.length * 681+677,none⟩=false/\ThR (w.setCell ⟨g,TT.length * 681+677,none⟩ (.bool b)) hb g c TK AK tw As (TT++[⟨X.t,b,X.wrong⟩])/\Ext (fun k=>k=g) w (w.setCell ⟨g,TT.length * 681+677,none⟩ (.bool b)):=by
 obtain ⟨C,kg,hT,hturn⟩:=h.tab
 have hx:Ext (fun k=>k=g) w (w.setCell ⟨g,TT.length * 681+677,none⟩ (.bool b)):=(Ext.refl (fun k=>k=g) w).setCell (p:=⟨g,TT.length * 681+677,none⟩) (fun _=>rfl) _
 exact ⟨C,kg,(cob kg _).trans hT.news,fob kg _,hturn _ _ ⟨hx,_,bsc kg _ _,hT.setNews b,SameOut.news _ _ _⟩,hx⟩
def fuel (n:Nat) (Y:Tab):Nat:=(2 * (tsum n Y.t+169000000)+(if Y.news=true then 1 else 0)).toNat
set_option maxRecDepth 100000 in
set_option maxHeartbeats 1000000 in
theorem follow_any (h:ThR w hb g c TK AK tw As (TT++[X])) (hF:FxOk F TK tw) (hT:TK.length<=12) (hl:TT.length<=500) (htw:tw.length<=1000) (hAs:As.length<=190) (hok:∀ x∈As,x.1.at_.Ok/\x.1.i < TK.length/\x.1.j < TK.length) (hI:TInv (F.n+1) F.far F.V (HA (asAt As)) As.length X.t) (hfar:F.far<=1000000) :
  Calls Tryz.prog 261 #[.pointer (some ⟨hb,0,none⟩)] w fun e w'=>∃ Y ok,e=.returned (.bool ok)/\ThR w' hb g c TK AK tw As (TT++[Y])/\Ext (fun k=>k=g) w w'/\TLe (F.n+1) Y.t X.t/\(ok=true->TInv (F.n+1) F.far F.V (HA (asAt As)) As.length Y.t/\(∀ x∈asAt As,Parted Y.t x)/\∀ p∈tw,Mapped F Y.t p)/\(ok=false->Below3 As.length Y.wrong/\∀ v,F.V v->¬Hs (HA (asAt As)) Y.wrong v):=by
 have hnow:=now_any h (by simp) (by simp;omega)
 rw [List.length_append,List.length_singleton,Nat.add_sub_cancel] at hnow
 have hd:=h.ext ((Ext.refl (fun _=>False) w).drew) (fun _ _ f=>f)
 obtain ⟨C0,kg0,n0,f0,hR0,hx0⟩:=hd.news true
 have HR0:=hide hR0
 have HX0:Hid (Ext (fun k=>k=g) w _):=hide (((Ext.refl (fun k=>k=g) w).drew).trans hx0)
 have HI:=hide hI
 have HF:=hide hF
 have HOK:=hide hok
 have HNOW:=hide hnow
 have hFn:=hF.fn
 have HPART:Hid (∀ (W:World) (Y:Tab),ThR W hb g c TK AK tw As (TT++[Y])->TInv (F.n+1) F.far F.V (HA (asAt As)) As.length Y.t->Calls Tryz.prog 268 #[.pointer (some ⟨hb,0,none⟩)] W (ThC W hb g c TK AK tw As TT Y F (fun Y=>Y.news=false->∀ x∈asAt As,Parted Y.t x))) :=
  fun W Y h1 h2=>parted_any h1 hF.fn hT hl hAs hok h2 hfar
 have HMAP:Hid (∀ (W:World) (Y:Tab),ThR W hb g c TK AK tw As (TT++[Y])->TInv (F.n+1) F.far F.V (HA (asAt As)) As.length Y.t->Calls Tryz.prog 269 #[.pointer (some ⟨hb,0,none⟩)] W (ThC W hb g c TK AK tw As TT Y F (fun Y=>Y.news=false->∀ p∈tw,Mapped F Y.t p))) :=
  fun W Y h1 h2=>mapped_any h1 hF hT hl htw h2 hfar
 have HNEWS:Hid (∀ (W:World) (Y:Tab),ThR W hb g c TK AK tw As (TT++[Y])->W.cell? ⟨g,TT.length * 681+677,none⟩=some (.bool Y.news)/\W.frozen? ⟨g,TT.length * 681+677,none⟩=false/\ThR (W.setCell ⟨g,TT.length * 681+677,none⟩ (.bool false)) hb g c TK AK tw As (TT++[⟨Y.t,false,Y.wrong⟩])/\Ext (fun k=>k=g) W (W.setCell ⟨g,TT.length * 681+677,none⟩ (.bool false))) :=
  fun W Y h1=>by obtain ⟨_,_,a,b,c,d⟩:=h1.news false;exact ⟨a,b,c,d⟩
 obtain ⟨m,hm⟩:∃ m,TT.length * 681=m:=⟨_,rfl⟩
 rw [hm] at HNOW HNEWS n0 f0 HR0 HX0
 clear h hd kg0 hR0 hx0 hI hF hok hnow hm
 go_enter Tryz.func261,Tryz.ntmps261
 go_wp2_with fail
 refine HNOW.out.mono ?_
 rintro e w1 ⟨rfl,rfl⟩
 go_wp2_with fail
 go_loopg [] (fuel (F.n+1) ⟨X.t,true,X.wrong⟩) (fun k wr=>∃ Y,k=fuel (F.n+1) Y/\ThR wr hb g c TK AK tw As (TT++[Y])/\Ext (fun k=>k=g) w wr/\TInv (F.n+1) F.far F.V (HA (asAt As)) As.length Y.t/\TLe (F.n+1) Y.t X.t/\(Y.news=false->(∀ x∈asAt As,Parted Y.t x)/\∀ p∈tw,Mapped F Y.t p))
 case atStart=>exact ⟨⟨X.t,true,X.wrong⟩,rfl,HR0.out,HX0.out,HI.out,TLe.refl _ _,fun e=>by simp at e⟩
 case round =>
  obtain ⟨Y,rfl,hR,hx,hI,hle,hq⟩:=hrel
  obtain ⟨c0,z0,hR0,hx0⟩:=HNEWS.out wr Y hR
  have HR:=hide hR
  have HX:=hide hx
  have HIY:=hide hI
  have HLE:=hide hle
  have HQ:=hide hq
  have HR1:=hide hR0
  have HX1:=hide (hx.trans hx0)
  cases hn:Y.news with
  | false =>
   rw [hn] at c0
   have HN:=hide hn
   clear hR hx hI hle hq hR0 hx0 hn
   go_wp2_with fail
   go_ret
   exact ⟨Y,true,rfl,HR.out,HX.out,HLE.out,fun _=>⟨HIY.out,(HQ.out HN.out).1,(HQ.out HN.out).2⟩,fun e=>by simp at e⟩
  | true =>
   rw [hn] at c0
   have HN:=hide hn
   clear hR hx hI hle hq hR0 hx0 hn
   go_wp2_with fail
   refine (HPART.out _ _ HR1.out HIY.out).mono ?_
   rintro e w2 ⟨Z,ok,rfl,hRZ,hxZ,hPZ,hZ⟩
   have HRZ:=hide hRZ
   have HXZ:=hide (HX1.out.trans hxZ)
   have HPZ:=hide hPZ
   have HZ:=hide hZ
   clear hRZ hxZ hPZ hZ c0 z0
   cases ok with
   | false =>
    go_wp2_with fail
    go_ret
    exact ⟨Z,false,rfl,HRZ.out,HXZ.out,HPZ.out.le.trans HLE.out,fun e=>by simp at e,fun _=>HPZ.out.bad rfl⟩
   | true =>
    go_wp2_with fail
    refine (HMAP.out _ _ HRZ.out (HPZ.out.inv rfl)).mono ?_
    rintro e w3 ⟨Z2,ok,rfl,hRZ,hxZ,hPZ,hZ⟩
    have HRZ2:=hide hRZ
    have HXZ2:=hide (HXZ.out.trans hxZ)
    have HPZ2:=hide hPZ
    have HZ2:=hide hZ
    clear hRZ hxZ hPZ hZ
    cases ok with
    | false =>
     go_wp2_with fail
     go_ret
     exact ⟨Z2,false,rfl,HRZ2.out,HXZ2.out,(HPZ2.out.le.trans HPZ.out.le).trans HLE.out,fun e=>by simp at e,fun _=>HPZ2.out.bad rfl⟩
    | true =>
     go_wp2_with fail
     go_roundg (fuel (F.n+1) Z2)
     case measure =>
      have hp:=HPZ.out.trans HPZ2.out
      have g1:=tsum_ge HIY.out hfar (by omega)
      have g2:=tsum_ge (hp.inv rfl) hfar (by omega)
      unfold fuel
      rw [if_pos HN.out]
      cases hz:Z2.news with
      | false =>
       rw [(hp.news hz).2]
       simp
       omega
      | true =>
       rcases hp.dec hz with d | d
       ·simp at d
       ·simp only at d
        simp
        omega
     case rel =>
      refine ⟨Z2,rfl,HRZ2.out,HXZ2.out,HPZ2.out.inv rfl,(HPZ2.out.le.trans HPZ.out.le).trans HLE.out,fun e=>?_⟩
      obtain ⟨n1,n2⟩:=HPZ2.out.news e
      refine ⟨?_,HZ2.out (by simp) e⟩
      rw [n2]
      exact HZ.out (by simp) n1
end
end Go.Proofs.YtegbdaffhpiacaaGreatDoor
