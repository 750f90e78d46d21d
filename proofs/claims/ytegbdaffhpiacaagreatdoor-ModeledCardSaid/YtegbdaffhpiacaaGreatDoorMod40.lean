/- A part of the proof. -/
import Derived.ScopeJumps
import Derived.WalkMore
namespace Go.Proofs.YtegbdaffhpiacaaGreatDoor
open Go
def zo9(J:Nat->Act->World->Prop)(Q:Exit->Act->World->Prop):Exit->Act->World->Prop
 | .goto l,a,w=>J l a w
 | e,a,w=>Q e a w
section
variable{P:Program}{a:Act}{w:World}{Q:Exit->Act->World->Prop}
theorem zH2{c:Code}(J:Nat->Nat->Act->World->Prop)
  (first:c.wp P (zo9 (fun l a w=>∃ n,J l n a w) Q) a w)
  (pass:∀ l n a w,J l n a w->∃ rest,findLabel c l=some rest/\rest.wp P (zo9 (fun l' a' w'=>∃ n',n'<n/\J l' n' a' w') Q) a w):(Code.scope c).wp P Q a w:=by
 intro b k cs;have key:∀ n l a w rest,J l n a w->findLabel c l=some rest->∃ e a' w',Q e a' w'/\Arrives P (lone (b.at a (.code rest::.inScope c::k)) cs w) b k cs e a' w':=by
  intro n
  induction n using Nat.strongRecOn with
  | _ n ih=>
   intro l a w rest hJ hf;obtain⟨rest',hf',hp⟩:=pass l n a w hJ;obtain rfl:rest=rest':=by rw[hf] at hf';exact Option.some.inj hf'
   obtain⟨e,a₁,w₁,hq,harr⟩:=hp b (.inScope c::k) cs;cases e with
   | normal=>exact⟨.normal,a₁,w₁,hq,Steps.trans harr (.one step_inScope)⟩
   | exit id=>exact⟨.exit id,a₁,w₁,hq,fun k' hk=>harr k' (by simp[exitTo,hk])⟩
   | goto l'=>
    obtain⟨n',hlt,hJ'⟩:=hq;obtain⟨rest2,hf2,_⟩:=pass l' n' a₁ w₁ hJ';have hg:gotoIn l' (.inScope c::k)=some (.code rest2::.inScope c::k):=by simp[gotoIn,hf2]
    obtain⟨e₂,a₂,w₂,hq₂,harr₂⟩:=ih n' hlt l' a₁ w₁ rest2 hJ' hf2;exact⟨e₂,a₂,w₂,hq₂,.of_steps (harr _ hg) harr₂⟩
   | ret=>exact⟨_,a₁,w₁,hq,harr⟩
   | panic ch=>exact⟨_,a₁,w₁,hq,harr⟩
   | outgrown=>exact⟨_,a₁,w₁,hq,harr⟩
 obtain⟨e,a₁,w₁,hq,harr⟩:=first b (.inScope c::k) cs
 cases e with
 | normal=>exact⟨.normal,a₁,w₁,hq,.head step_scope (Steps.trans harr (.one step_inScope))⟩
 | exit id=>exact⟨.exit id,a₁,w₁,hq,fun k' hk=>.head step_scope (harr k' (by simp[exitTo,hk]))⟩
 | goto l'=>
  obtain⟨n',hJ'⟩:∃ n,J l' n a₁ w₁:=hq;obtain⟨rest2,hf2,_⟩:=pass l' n' a₁ w₁ hJ';have hg:gotoIn l' (.inScope c::k)=some (.code rest2::.inScope c::k):=by simp[gotoIn,hf2]
  obtain⟨e₂,a₂,w₂,hq₂,harr₂⟩:=key n' l' a₁ w₁ rest2 hJ' hf2;exact⟨e₂,a₂,w₂,hq₂,.of_steps (.head step_scope (harr _ hg)) harr₂⟩
 | ret=>exact⟨_,a₁,w₁,hq,.of_steps (.one step_scope) harr⟩
 | panic ch=>exact⟨_,a₁,w₁,hq,.of_steps (.one step_scope) harr⟩
 | outgrown=>exact⟨_,a₁,w₁,hq,.of_steps (.one step_scope) harr⟩
end
end Go.Proofs.YtegbdaffhpiacaaGreatDoor
