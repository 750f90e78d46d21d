/- Plain lemmas: the numbers in a tree that was read are small; a number's digits; Plain: of what shape a tree is that was read; Plain: a term, an atom is told by its form; Plain: trees that are kept once each, in the order in which they came, their parts ahead of them; Plain: what formulas mean, what can be true; values of terms in the place of functions; Plain: the shape of a formula that was read, strictly: which words, how many parts; names have as many arguments as were declared; Plain: what answers about atoms and twins say of a table; when the greatest values fit; a question that is new; Plain: the search: answers in a row, worlds that are left, what each turn of it keeps. -/
import Derived.Test.YtegbdaffhpiacaaGreatDoorBck03
import Derived.Test.YtegbdaffhpiacaaGreatDoorBck01
import Derived.Lib.ItoaNum
namespace Go.Proofs.YtegbdaffhpiacaaGreatDoor
namespace Ar
inductive NOk:Nd->Prop
 | mk {k v:Int} {w:ByteArray} {ps:List Nd} (h:k=4\/k=5 -> -1000<=v/\v<=1000) (hp:∀ p∈ps,NOk p):NOk (.mk k w v ps)
def Oks (f:List Tk->Rs Nd):Prop:=∀ ts nd ts',f ts=.ok nd ts'->NOk nd
theorem zz5 (fs:List (List Tk->Rs Nd)) (h:∀ f∈fs,Oks f):∀ ts ps ts',J0 fs ts=.ok ps ts'->∀ p∈ps,NOk p:=by
 induction fs with
 | nil=>intro ts ps ts' e;simp [J0] at e;obtain ⟨rfl,rfl⟩:=e;intro p hp;exact absurd hp (by simp)
 | cons f fs ih =>
  intro ts ps ts' e
  unfold J0 at e
  split at e
  ·exact absurd e (by simp)
  ·rename_i a us hf
   split at e
   ·exact absurd e (by simp)
   ·rename_i as vs hr
    simp only [Rs.ok.injEq] at e
    obtain ⟨rfl,rfl⟩:=e
    intro p hp
    rcases List.mem_cons.1 hp with rfl | hp
    ·exact h f (List.mem_cons_self ..) _ _ _ hf
    ·exact ih (fun g hg=>h g (List.mem_cons_of_mem _ hg)) _ _ _ hr p hp
theorem qP8 (m:Nat) (f:List Tk->Rs Nd) (h:Oks f):∀ ts ps ts',X6 m f ts=.ok ps ts'->∀ p∈ps,NOk p:=by
 induction m with
 | zero=>intro ts ps ts' e;exact absurd e (by simp [X6])
 | succ m ih =>
  intro ts ps ts' e
  cases ts with
  | nil=>exact absurd e (by simp [X6])
  | cons t ts =>
   unfold X6 at e
   split at e
   ·simp only [Rs.ok.injEq] at e
    obtain ⟨rfl,rfl⟩:=e
    intro p hp;exact absurd hp (by simp)
   ·split at e
    ·exact absurd e (by simp)
    ·rename_i a us hf
     split at e
     ·exact absurd e (by simp)
     ·rename_i as vs hr
      simp only [Rs.ok.injEq] at e
      obtain ⟨rfl,rfl⟩:=e
      intro p hp
      rcases List.mem_cons.1 hp with rfl | hp
      ·exact h _ _ _ hf
      ·exact ih _ _ _ hr p hp
theorem qw0 (k:Int):Oks (W7 k):=by
 intro ts nd ts' e
 cases ts with
 | nil=>exact absurd e (by simp [W7])
 | cons t ts =>
  simp only [W7] at e
  split at e
  ·exact absurd e (by simp)
  ·split at e
   ·exact absurd e (by simp)
   ·rename_i v _ hv
    simp only [Rs.ok.injEq] at e
    obtain ⟨rfl,rfl⟩:=e
    exact .mk (fun _=>by omega) (fun p hp=>absurd hp (by simp))
theorem zL3 {e k:Int} {w:ByteArray} {r:Rs (List Nd)} {nd:Nd} {ts':List Tk} (hk:¬(k=4\/k=5)) (hr:∀ ps us,r=.ok ps us->∀ p∈ps,NOk p) (h:J6 e k w r=.ok nd ts'):NOk nd:=by
 cases r with
 | no e p=>exact absurd h (by simp [J6])
 | ok ps us =>
  simp only [J6] at h
  cases us with
  | nil=>exact absurd h (by simp [zc4])
  | cons v vs =>
   simp only [zc4] at h
   split at h
   ·simp only [Rs.ok.injEq] at h
    obtain ⟨rfl,rfl⟩:=h
    exact .mk (fun h=>absurd h hk) (hr ps _ rfl)
   ·split at h <;> exact absurd h (by simp)
theorem jb0 {f:List Tk->Rs Nd} (h:Oks f):Oks (za2 f):=by
 intro ts nd ts' e
 cases ts with
 | nil=>exact absurd e (by simp [za2])
 | cons t ts =>
  simp only [za2] at e
  split at e
  ·exact absurd e (by simp)
  ·exact h _ _ _ e
theorem qP9 (N:List Nm) (n:Nat):∀ d,Oks (X0 N n d):=by
 induction n with
 | zero=>intro d ts nd ts' e;exact absurd e (by simp [X0])
 | succ n ih =>
  intro d ts nd ts' e
  cases ts with
  | nil=>exact absurd e (by simp [X0])
  | cons t ts =>
   unfold X0 at e
   split at e
   ·split at e
    ·exact absurd e (by simp)
    ·split at e
     ·exact absurd e (by simp)
     ·rename_i u us
      split at e
      ·split at e
       ·exact absurd e (by simp)
       ·rename_i a _
        split at e
        ·exact absurd e (by simp)
        ·exact zL3 (by decide) (fun ps vs hr=>zz5 _ (fun f hf=>by rw [(List.mem_replicate.1 hf).2];exact jb0 (ih (d+1))) us ps vs hr) e
      ·exact absurd e (by simp)
   ·split at e
    ·split at e
     ·exact absurd e (by simp)
     ·split at e
      ·simp only [Rs.ok.injEq] at e
       obtain ⟨rfl,rfl⟩:=e
       exact .mk (fun h=>absurd h (by decide)) (fun p hp=>absurd hp (by simp))
      ·exact absurd e (by simp)
    ·exact qw0 4 _ _ _ e
theorem jb1 {l:List UInt8} {ks:Int × Int} (h:zl9 l=some ks):¬(ks.1=4\/ks.1=5):=by
 unfold zl9 at h
 repeat' (split at h)
 all_goals first | (simp only [Option.some.injEq] at h;subst h;decide) | exact absurd h (by simp)
theorem qQ0 (N:List Nm) (n:Nat):∀ d,Oks (K6 N n d):=by
 induction n with
 | zero=>intro d ts nd ts' e;exact absurd e (by simp [K6])
 | succ n ih =>
  intro d ts nd ts' e
  cases ts with
  | nil=>exact absurd e (by simp [K6])
  | cons t ts =>
   unfold K6 at e
   split at e
   ·split at e
    ·exact absurd e (by simp)
    ·split at e
     ·exact absurd e (by simp)
     ·rename_i u us
      split at e
      ·exact absurd e (by simp)
      ·rename_i ks hks
       refine zL3 (jb1 hks) (fun ps vs hr=>?_) e
       unfold O4 at hr
       have hT:=qP9 N n (d+1)
       have hF:=ih (d+1)
       split at hr
       ·exact zz5 _ (by intro f hf;simp at hf;subst hf;exact hF) us ps vs hr
       ·split at hr
        ·exact zz5 _ (by intro f hf;simp at hf;subst hf;exact hF) us ps vs hr
        ·split at hr
         ·exact zz5 _ (by intro f hf;simp at hf;subst hf;exact hT) us ps vs hr
         ·split at hr
          ·exact zz5 _ (by intro f hf;simp at hf;rcases hf with rfl | rfl <;> first | exact hT | exact qw0 5) us ps vs hr
          ·exact qP8 _ _ hF us ps vs hr
   ·split at e
    ·simp only [Rs.ok.injEq] at e
     obtain ⟨rfl,rfl⟩:=e
     exact .mk (fun h=>absurd h (by decide)) (fun p hp=>absurd hp (by simp))
    ·exact absurd e (by simp)
end Ar
namespace Ar
inductive Y8:Nd->Prop
 | num {v:Int} (h1 : -1000<=v) (h2:v<=1000):Y8 (.mk 4 ByteArray.empty v [])
 | app {w:ByteArray} {ps:List Nd} (hw:X4 w.toList=true) (hl:ps.length<=3) (hp:∀ p∈ps,Y8 p):Y8 (.mk 3 w 0 ps)
def AtW (l:List UInt8):Prop:=l=[61]\/l=[60]\/l=[60,61]\/l=wLe
instance (l:List UInt8):Decidable (AtW l):=inferInstanceAs (Decidable (l=[61]\/l=[60]\/l=[60,61]\/l=wLe))
inductive zi5:Nd->Prop
 | truth {w:ByteArray} (hw:¬AtW w.toList):zi5 (.mk 0 w 0 [])
 | con {w:ByteArray} {ps:List Nd} (hw:¬AtW w.toList) (hp:∀ p∈ps,zi5 p):zi5 (.mk 1 w 0 ps)
 | two {w:ByteArray} {a b:Nd} (hw:w.toList=[61]\/w.toList=[60]\/w.toList=[60,61]) (ha:Y8 a) (hb:Y8 b):zi5 (.mk 2 w 0 [a,b])
 | le {w:ByteArray} {a b:Nd} {v:Int} (hw:w.toList=wLe) (ha:Y8 a) (hb:Y8 b) (h1 : -1000<=v) (h2:v<=1000):zi5 (.mk 2 w 0 [a,b,.mk 5 ByteArray.empty v []])
theorem zF9 {P:Nd->Prop} (fs:List (List Tk->Rs Nd)) (h:∀ f∈fs,∀ ts nd ts',f ts=.ok nd ts'->P nd):∀ ts ps ts',J0 fs ts=.ok ps ts'->(∀ p∈ps,P p)/\ps.length=fs.length:=by
 induction fs with
 | nil=>intro ts ps ts' e;simp [J0] at e;obtain ⟨rfl,rfl⟩:=e;exact ⟨fun p hp=>absurd hp (by simp),rfl⟩
 | cons f fs ih =>
  intro ts ps ts' e
  unfold J0 at e
  split at e
  ·exact absurd e (by simp)
  ·rename_i a us hf
   split at e
   ·exact absurd e (by simp)
   ·rename_i as vs hr
    simp only [Rs.ok.injEq] at e
    obtain ⟨rfl,rfl⟩:=e
    obtain ⟨h1,h2⟩:=ih (fun g hg=>h g (List.mem_cons_of_mem _ hg)) us as _ hr
    refine ⟨fun p hp=>?_,by simp [h2]⟩
    rcases List.mem_cons.1 hp with rfl | hp
    ·exact h f (by simp) _ _ _ hf
    ·exact h1 p hp
theorem ja5 {P Q:Nd->Prop} {f g:List Tk->Rs Nd} (hf:∀ ts nd ts',f ts=.ok nd ts'->P nd) (hg:∀ ts nd ts',g ts=.ok nd ts'->Q nd) {ts ts':List Tk} {ps:List Nd} (e:J0 [f,g] ts=.ok ps ts'):∃ a b,ps=[a,b]/\P a/\Q b:=by
 simp only [J0] at e
 split at e
 ·exact absurd e (by simp)
 ·rename_i a us h1
  split at e
  ·exact absurd e (by simp)
  ·rename_i as vs h2
   split at h2
   ·exact absurd h2 (by simp)
   ·rename_i b xs h3
    simp only [Rs.ok.injEq] at e h2
    obtain ⟨rfl,rfl⟩:=h2
    obtain ⟨rfl,rfl⟩:=e
    exact ⟨a,b,rfl,hf _ _ _ h1,hg _ _ _ h3⟩
theorem jo4 {P Q R:Nd->Prop} {f g h:List Tk->Rs Nd} (hf:∀ ts nd ts',f ts=.ok nd ts'->P nd) (hg:∀ ts nd ts',g ts=.ok nd ts'->Q nd) (hh:∀ ts nd ts',h ts=.ok nd ts'->R nd) {ts ts':List Tk} {ps:List Nd} (e:J0 [f,g,h] ts=.ok ps ts'):∃ a b c,ps=[a,b,c]/\P a/\Q b/\R c:=by
 unfold J0 at e
 split at e
 ·exact absurd e (by simp)
 ·rename_i a us h1
  split at e
  ·exact absurd e (by simp)
  ·rename_i as vs h2
   simp only [Rs.ok.injEq] at e
   obtain ⟨rfl,rfl⟩:=e
   obtain ⟨b,c,rfl,hb,hc⟩:=ja5 hg hh h2
   exact ⟨a,b,c,rfl,hf _ _ _ h1,hb,hc⟩
theorem qf7 {P:Nd->Prop} {f:List Tk->Rs Nd} (h:∀ ts nd ts',f ts=.ok nd ts'->P nd) (m:Nat):∀ ts ps ts',X6 m f ts=.ok ps ts'->∀ p∈ps,P p:=by
 induction m with
 | zero=>intro ts ps ts' e;simp [X6] at e
 | succ m ih =>
  intro ts ps ts' e
  cases ts with
  | nil=>simp [X6] at e
  | cons t ts =>
   unfold X6 at e
   split at e
   ·simp only [Rs.ok.injEq] at e
    obtain ⟨rfl,rfl⟩:=e
    exact fun p hp=>absurd hp (by simp)
   ·split at e
    ·exact absurd e (by simp)
    ·rename_i a us hf
     split at e
     ·exact absurd e (by simp)
     ·rename_i as vs hr
      simp only [Rs.ok.injEq] at e
      obtain ⟨rfl,rfl⟩:=e
      intro p hp
      rcases List.mem_cons.1 hp with rfl | hp
      ·exact h _ _ _ hf
      ·exact ih us as _ hr p hp
theorem zC4 {e k:Int} {w:ByteArray} {r:Rs (List Nd)} {nd:Nd} {ts':List Tk} (h:J6 e k w r=.ok nd ts'):∃ ps us,r=.ok ps us/\nd=.mk k w 0 ps:=by
 cases r with
 | no e p=>exact absurd h (by simp [J6])
 | ok ps us =>
  simp only [J6] at h
  cases us with
  | nil=>exact absurd h (by simp [zc4])
  | cons v vs =>
   simp only [zc4] at h
   split at h
   ·simp only [Rs.ok.injEq] at h
    obtain ⟨rfl,rfl⟩:=h
    exact ⟨ps,_,rfl,rfl⟩
   ·split at h <;> exact absurd h (by simp)
theorem qp2 {k:Int} {ts ts':List Tk} {nd:Nd} (e:W7 k ts=.ok nd ts'):∃ v,nd=.mk k ByteArray.empty v [] /\ -1000<=v/\v<=1000:=by
 cases ts with
 | nil=>exact absurd e (by simp [W7])
 | cons t ts =>
  simp only [W7] at e
  split at e
  ·exact absurd e (by simp)
  ·split at e
   ·exact absurd e (by simp)
   ·rename_i v _ hv
    simp only [Rs.ok.injEq] at e
    obtain ⟨rfl,rfl⟩:=e
    exact ⟨v,rfl,by omega,by omega⟩
theorem jk5 {f:List Tk->Rs Nd} {ts ts':List Tk} {nd:Nd} (e:za2 f ts=.ok nd ts'):∃ us,f us=.ok nd ts':=by
 cases ts with
 | nil=>exact absurd e (by simp [za2])
 | cons t ts =>
  simp only [za2] at e
  split at e
  ·exact absurd e (by simp)
  ·exact ⟨_,e⟩
def zS1 (N:List Nm):Prop:=∀ x∈N,0<=x.ar/\x.ar<=3
theorem qP0 {N:List Nm} (h:zS1 N) {l:List UInt8} {a:Int} (e:za0 N l=some a):a<=3:=by
 unfold za0 at e
 obtain ⟨x,hx,rfl⟩:=Option.map_eq_some_iff.1 e
 exact (h x (List.mem_of_find?_eq_some hx)).2
theorem zK7 {N:List Nm} (hN:zS1 N) (n:Nat):∀ d ts nd ts',X0 N n d ts=.ok nd ts'->Y8 nd:=by
 induction n with
 | zero=>intro d ts nd ts' e;exact absurd e (by simp [X0])
 | succ n ih =>
  intro d ts nd ts' e
  cases ts with
  | nil=>exact absurd e (by simp [X0])
  | cons t ts =>
   unfold X0 at e
   split at e
   ·split at e
    ·exact absurd e (by simp)
    ·split at e
     ·exact absurd e (by simp)
     ·rename_i u us
      split at e
      ·rename_i hnm
       split at e
       ·exact absurd e (by simp)
       ·rename_i a ha
        split at e
        ·exact absurd e (by simp)
        ·obtain ⟨ps,vs,hr,rfl⟩:=zC4 e
         obtain ⟨h1,h2⟩:=zF9 (P:=Y8) _ (fun f hf ts nd ts' he=>by
          rw [(List.mem_replicate.1 hf).2] at he
          obtain ⟨us',he'⟩:=jk5 he
          exact ih (d+1) _ _ _ he') us ps vs hr
         have:=qP0 hN ha
         rw [List.length_replicate] at h2
         exact .app hnm (by omega) h1
      ·exact absurd e (by simp)
   ·split at e
    ·rename_i hnm
     split at e
     ·exact absurd e (by simp)
     ·split at e
      ·simp only [Rs.ok.injEq] at e
       obtain ⟨rfl,rfl⟩:=e
       exact .app hnm (by simp) (fun p hp=>absurd hp (by simp))
      ·exact absurd e (by simp)
    ·obtain ⟨v,rfl,h1,h2⟩:=qp2 e
     exact .num h1 h2
theorem qP1 {l:List UInt8} {ks:Int × Int} (h:zl9 l=some ks):((ks=(1,0)\/ks=(1,1)\/ks=(1,2))/\¬AtW l)\/(ks=(2,3)/\(l=[61]\/l=[60]\/l=[60,61]))\/(ks=(2,4)/\l=wLe):=by
 unfold zl9 at h
 repeat' (split at h)
 all_goals first | (simp at h;done) | (simp only [Option.some.injEq] at h;subst h)
 all_goals first | (rename_i e;subst e;(refine .inl ⟨?_,?_⟩ <;> first | decide | (simp;done))) | (rename_i e;subst e;refine .inr (.inl ⟨rfl,?_⟩);(simp;done)) | (rename_i e;subst e;exact .inr (.inr ⟨rfl,rfl⟩))
theorem qp3 {N:List Nm} (hN:zS1 N) (n:Nat):∀ d ts nd ts',K6 N n d ts=.ok nd ts'->zi5 nd:=by
 induction n with
 | zero=>intro d ts nd ts' e;exact absurd e (by simp [K6])
 | succ n ih =>
  intro d ts nd ts' e
  cases ts with
  | nil=>exact absurd e (by simp [K6])
  | cons t ts =>
   unfold K6 at e
   split at e
   ·split at e
    ·exact absurd e (by simp)
    ·split at e
     ·exact absurd e (by simp)
     ·rename_i u us
      split at e
      ·exact absurd e (by simp)
      ·rename_i ks hks
       obtain ⟨ps,vs,hr,rfl⟩:=zC4 e
       have hT:=zK7 hN n (d+1)
       have hF:=ih (d+1)
       rcases qP1 hks with ⟨(rfl | rfl | rfl),hw⟩ | ⟨rfl,hw⟩ | ⟨rfl,hw⟩
       ·exact .con hw (zF9 [_] (fun f hf=>by simp at hf;subst hf;exact hF) us ps vs hr).1
       ·exact .con hw (zF9 [_,_] (fun f hf=>by simp at hf;subst hf;exact hF) us ps vs hr).1
       ·exact .con hw (qf7 hF _ us ps vs hr)
       ·obtain ⟨a,b,rfl,ha,hb⟩:=ja5 hT hT (ts:=us) hr
        exact .two hw ha hb
       ·obtain ⟨a,b,c,rfl,ha,hb,hc⟩:=jo4 (R:=fun nd=>∃ v,nd=.mk 5 ByteArray.empty v [] /\ -1000<=v/\v<=1000) hT hT (fun ts nd ts' e=>qp2 e) (ts:=us) hr
        obtain ⟨v,rfl,h1,h2⟩:=hc
        exact .le hw ha hb h1 h2
   ·split at e
    ·rename_i hw
     simp only [Rs.ok.injEq] at e
     obtain ⟨rfl,rfl⟩:=e
     refine .truth ?_
     rcases hw with hw | hw <;> (rw [hw];decide)
    ·exact absurd e (by simp)
end Ar
namespace Ar
def zm1 (c:UInt8):Bool:=c != 32 && c != 40 && c != 41
def Dl (r:List UInt8):Prop:=∀ c∈r.head?,zm1 c=false
theorem zm2:∀ {a b r s:List UInt8},a.all zm1=true->b.all zm1=true->Dl r->Dl s->a++r=b++s->a=b/\r=s:=by
 intro a
 induction a with
 | nil =>
  intro b r s _ hb hr _ h
  cases b with
  | nil=>exact ⟨rfl,h⟩
  | cons c b =>
   simp at h hb
   subst h
   exact absurd (hr c (by simp)) (by rw [hb.1];decide)
 | cons c a ih =>
  intro b r s ha hb hr hs h
  cases b with
  | nil =>
   simp at h ha
   subst h
   exact absurd (hs c (by simp)) (by rw [ha.1];decide)
  | cons d b =>
   simp only [List.all_cons,Bool.and_eq_true] at ha hb
   simp only [List.cons_append,List.cons.injEq] at h
   obtain ⟨rfl,h⟩:=h
   obtain ⟨rfl,rfl⟩:=ih ha.2 hb.2 hr hs h
   exact ⟨rfl,rfl⟩
def zS2 (v:Int):Bool:=numOf (zd4 v) == some v && (zd4 v).all zm1 && ((zd4 v).head?.any (fun c => !zn4 c))
theorem qE5:((List.range 2001).all fun i=>zS2 ((i:Int) - 1000))=true:=by decide +kernel
theorem zq3 {v:Int} (h1 : -1000<=v) (h2:v<=1000):zS2 v=true:=by
 have h:=List.all_eq_true.1 qE5 (v+1000).toNat (List.mem_range.2 (by omega))
 have e:(((v+1000).toNat:Nat):Int) - 1000=v:=by omega
 rwa [e] at h
theorem qf8 {v u:Int} (h1 : -1000<=v) (h2:v<=1000) (h3 : -1000<=u) (h4:u<=1000) (h:zd4 v=zd4 u):v=u:=by
 have a:=zq3 h1 h2
 have b:=zq3 h3 h4
 simp only [zS2,Bool.and_eq_true,beq_iff_eq] at a b
 have:=a.1.1
 rw [h,b.1.1] at this
 exact (Option.some.inj this).symm
theorem zz0 {v:Int} (h1 : -1000<=v) (h2:v<=1000):(zd4 v).all zm1=true:=by
 have a:=zq3 h1 h2
 simp only [zS2,Bool.and_eq_true] at a
 exact a.1.2
theorem zC5 {v:Int} (h1 : -1000<=v) (h2:v<=1000):∃ c l,zd4 v=c :: l/\zn4 c=false/\c ≠ 40:=by
 have a:=zq3 h1 h2
 simp only [zS2,Bool.and_eq_true] at a
 cases hi:zd4 v with
 | nil=>rw [hi] at a;exact absurd a.2 (by simp)
 | cons c l =>
  rw [hi] at a
  refine ⟨c,l,rfl,by simpa using a.2,?_⟩
  intro e
  subst e
  exact absurd a.1.2 (by simp [zm1])
theorem qp4 {c:UInt8} (h:zn4 c=true):zm1 c=true:=by
 simp only [zn4,decide_eq_true_eq] at h
 simp only [zm1,Bool.and_eq_true,bne_iff_ne]
 refine ⟨⟨?_,?_⟩,?_⟩ <;> (intro e;subst e;exact absurd h (by decide))
theorem zz1 {l:List UInt8} (h:X4 l=true):l.all zm1=true/\∃ c r,l=c :: r/\zn4 c=true/\c ≠ 40:=by
 simp only [X4,Bool.and_eq_true,decide_eq_true_eq] at h
 have ha:=h.1.1
 refine ⟨List.all_eq_true.2 (fun c hc=>qp4 (List.all_eq_true.1 ha c hc)),?_⟩
 cases l with
 | nil=>exact absurd h.2.1 (by decide)
 | cons c r =>
  have hc:=List.all_eq_true.1 ha c (by simp)
  refine ⟨c,r,rfl,hc,?_⟩
  intro e
  subst e
  exact absurd hc (by decide)
theorem qP2 (r:List UInt8):Dl (32 :: r):=by intro c hc;simp at hc;subst hc;decide
theorem qf9 (r:List UInt8):Dl (41 :: r):=by intro c hc;simp at hc;subst hc;decide
theorem zi6 (p:Nd) (ps:List Nd) (r:List UInt8):Dl (Q9 (p :: ps)++r):=by
 rw [Q9]
 exact qP2 _
theorem zi7 (v:Int):Z1 (.mk 4 ByteArray.empty v [])=zd4 v:=by
 rw [Z1,if_neg (by decide),U2,if_pos (by decide)]
theorem zf2 (w:ByteArray):Z1 (.mk 3 w 0 [])=w.toList:=by
 rw [Z1,if_neg (by decide),U2,if_neg (by decide)]
theorem zi8 (w:ByteArray) (p:Nd) (ps:List Nd):Z1 (.mk 3 w 0 (p :: ps))=40 :: (w.toList++(Q9 (p :: ps)++[41])):=by
 rw [Z1,if_pos (Or.inr (Or.inr (by simp))),U2,if_neg (by decide)]
 simp
theorem qp5 (v:Int):Z1 (.mk 5 ByteArray.empty v [])=zd4 v:=by
 rw [Z1,if_neg (by decide),U2,if_pos (by decide)]
theorem zs8 (w:ByteArray) (ps:List Nd):Z1 (.mk 2 w 0 ps)=40 :: (w.toList++(Q9 ps++[41])):=by
 rw [Z1,if_pos (Or.inr (Or.inl rfl)),U2,if_neg (by decide)]
 simp
theorem qE6 {ps:List Nd} (h:∀ p∈ps,∀ q r s,Y8 q->Dl r->Dl s->Z1 p++r=Z1 q++s->p=q/\r=s):∀ {qs:List Nd} {r s:List UInt8},(∀ q∈qs,Y8 q)->Q9 ps++41 :: r=Q9 qs++41 :: s->ps=qs/\r=s:=by
 induction ps with
 | nil =>
  intro qs r s _ e
  cases qs with
  | nil=>simp [Q9] at e;exact ⟨rfl,e⟩
  | cons q qs=>simp [Q9] at e
 | cons p ps ih =>
  intro qs r s hq e
  cases qs with
  | nil=>simp [Q9] at e
  | cons q qs =>
   simp only [Q9,List.cons_append,List.append_assoc,List.cons.injEq,true_and] at e
   have d1:Dl (Q9 ps++41 :: r):=by
    cases ps with
    | nil=>exact qf9 _
    | cons a as=>exact zi6 a as _
   have d2:Dl (Q9 qs++41 :: s):=by
    cases qs with
    | nil=>exact qf9 _
    | cons a as=>exact zi6 a as _
   obtain ⟨rfl,e2⟩:=h p (by simp) q _ _ (hq q (by simp)) d1 d2 e
   obtain ⟨rfl,rfl⟩:=ih (fun x hx=>h x (List.mem_cons_of_mem _ hx)) (fun x hx=>hq x (List.mem_cons_of_mem _ hx)) e2
   exact ⟨rfl,rfl⟩
theorem zK8 {a:Nd} (ha:Y8 a):∀ b r s,Y8 b->Dl r->Dl s->Z1 a++r=Z1 b++s->a=b/\r=s:=by
 induction ha with
 | num h1 h2 =>
  intro b r s hb hr hs e
  cases hb with
  | num h3 h4 =>
   rw [zi7,zi7] at e
   obtain ⟨e1,rfl⟩:=zm2 (zz0 h1 h2) (zz0 h3 h4) hr hs e
   rw [qf8 h1 h2 h3 h4 e1]
   exact ⟨rfl,rfl⟩
  | @app w ps hw _ _ =>
   obtain ⟨c,l,hc,hlc,hc40⟩:=zC5 h1 h2
   obtain ⟨d,l2,hd,hld,_⟩:=(zz1 hw).2
   cases ps with
   | nil =>
    rw [zi7,zf2,hc,hd] at e
    simp only [List.cons_append,List.cons.injEq] at e
    rw [e.1,hld] at hlc
    exact absurd hlc (by decide)
   | cons p ps =>
    rw [zi7,zi8,hc] at e
    simp only [List.cons_append,List.cons.injEq] at e
    exact absurd e.1 hc40
 | @app w ps hw _ hp ih =>
  intro b r s hb hr hs e
  obtain ⟨hwt,d,l2,hd,hld,hd40⟩:=zz1 hw
  cases hb with
  | num h3 h4 =>
   obtain ⟨c,l,hc,hlc,hc40⟩:=zC5 h3 h4
   cases ps with
   | nil =>
    rw [zi7,zf2,hc,hd] at e
    simp only [List.cons_append,List.cons.injEq] at e
    rw [<- e.1,hld] at hlc
    exact absurd hlc (by decide)
   | cons p ps =>
    rw [zi7,zi8,hc] at e
    simp only [List.cons_append,List.cons.injEq] at e
    exact absurd e.1.symm hc40
  | @app w' qs hw' _ hq =>
   obtain ⟨hwt',d',l2',hd',hld',hd40'⟩:=zz1 hw'
   cases ps with
   | nil =>
    cases qs with
    | nil =>
     rw [zf2,zf2] at e
     obtain ⟨e1,rfl⟩:=zm2 hwt hwt' hr hs e
     rw [zb0 e1]
     exact ⟨rfl,rfl⟩
    | cons q qs =>
     rw [zf2,zi8,hd] at e
     simp only [List.cons_append,List.cons.injEq] at e
     exact absurd e.1 hd40
   | cons p ps =>
    cases qs with
    | nil =>
     rw [zf2,zi8,hd'] at e
     simp only [List.cons_append,List.cons.injEq] at e
     exact absurd e.1.symm hd40'
    | cons q qs =>
     rw [zi8,zi8] at e
     simp only [List.cons_append,List.append_assoc,List.cons.injEq,true_and] at e
     obtain ⟨e1,e2⟩:=zm2 hwt hwt' (zi6 p ps _) (zi6 q qs _) e
     obtain ⟨e3,rfl⟩:=qE6 (ps:=p :: ps) ih hq e2
     rw [zb0 e1,e3]
     exact ⟨rfl,rfl⟩
theorem qE7 {a b:Nd} (ha:Y8 a) (hb:Y8 b) (h:Z1 a=Z1 b):a=b :=
 (zK8 ha b [] [] hb (by intro c hc;simp at hc) (by intro c hc;simp at hc) (by rw [h])).1
inductive zq4:Nd->Prop
 | two {w:ByteArray} {a b:Nd} (hw:w.toList=[61]\/w.toList=[60]\/w.toList=[60,61]) (ha:Y8 a) (hb:Y8 b):zq4 (.mk 2 w 0 [a,b])
 | le {w:ByteArray} {a b:Nd} {v:Int} (hw:w.toList=wLe) (ha:Y8 a) (hb:Y8 b) (h1 : -1000<=v) (h2:v<=1000):zq4 (.mk 2 w 0 [a,b,.mk 5 ByteArray.empty v []])
theorem zn5 {w w':ByteArray} {a b a' b':Nd} {xs ys:List Nd} (hw:w.toList.all zm1=true) (hw':w'.toList.all zm1=true) (ha:Y8 a) (hb:Y8 b) (ha':Y8 a') (hb':Y8 b') (e:Z1 (.mk 2 w 0 (a :: b :: xs))=Z1 (.mk 2 w' 0 (a' :: b' :: ys))) :
  w=w'/\a=a'/\b=b'/\Q9 xs++[41]=Q9 ys++[41]:=by
 rw [zs8,zs8] at e
 simp only [List.cons.injEq,true_and] at e
 obtain ⟨e1,e2⟩:=zm2 hw hw' (zi6 _ _ _) (zi6 _ _ _) e
 simp only [Q9,List.cons_append,List.append_assoc,List.cons.injEq,true_and] at e2
 obtain ⟨rfl,e3⟩:=zK8 ha _ _ _ ha' (qP2 _) (qP2 _) e2
 simp only [List.cons.injEq,true_and] at e3
 have d:∀ zs:List Nd,Dl (Q9 zs++[41]):=by
  intro zs
  cases zs with
  | nil=>exact qf9 _
  | cons z zs=>exact zi6 z zs _
 obtain ⟨rfl,e4⟩:=zK8 hb _ _ _ hb' (d xs) (d ys) e3
 exact ⟨zb0 e1,rfl,rfl,e4⟩
theorem zG0 {l:List UInt8} (h:l=[61]\/l=[60]\/l=[60,61]):l.all zm1=true:=by
 rcases h with rfl | rfl | rfl <;> decide
theorem zX1 {l:List UInt8} (h:l=wLe):l.all zm1=true:=by subst h;decide
theorem qE8 {x y:Nd} (hx:zq4 x) (hy:zq4 y) (e:Z1 x=Z1 y):x=y:=by
 cases hx with
 | two hw ha hb =>
  cases hy with
  | two hw' ha' hb' =>
   obtain ⟨rfl,rfl,rfl,_⟩:=zn5 (zG0 hw) (zG0 hw') ha hb ha' hb' e
   rfl
  | le hw' ha' hb' _ _ =>
   obtain ⟨_,_,_,h⟩:=zn5 (zG0 hw) (zX1 hw') ha hb ha' hb' e
   simp [Q9] at h
 | le hw ha hb h1 h2 =>
  cases hy with
  | two hw' ha' hb' =>
   obtain ⟨_,_,_,h⟩:=zn5 (zX1 hw) (zG0 hw') ha hb ha' hb' e
   simp [Q9] at h
  | le hw' ha' hb' h3 h4 =>
   obtain ⟨rfl,rfl,rfl,h⟩:=zn5 (zX1 hw) (zX1 hw') ha hb ha' hb' e
   simp only [Q9,qp5,List.cons_append,List.append_assoc,List.nil_append,List.cons.injEq,true_and] at h
   obtain ⟨e1,_⟩:=zm2 (zz0 h1 h2) (zz0 h3 h4) (qf9 _) (qf9 _) h
   rw [qf8 h1 h2 h3 h4 e1]
theorem zs9 {t:Nd} (h:Y8 t):∀ x∈J5 true t,Y8 x:=by
 induction h with
 | num h1 h2 =>
  intro x hx
  simp [J5,Q8,U9] at hx
  subst hx
  exact .num h1 h2
 | app hw hl hp ih =>
  intro x hx
  simp only [J5,List.mem_append] at hx
  rcases hx with hx | hx
  ·simp [U9] at hx
   subst hx
   exact .app hw hl hp
  ·obtain ⟨p,hp',hx⟩:=Y9.1 hx
   exact ih p hp' x hx
theorem y8 {t:Nd} (h:Y8 t):J5 false t=[]:=by
 induction h with
 | num h1 h2=>simp [J5,Q8,U9]
 | @app w ps hw hl hp ih =>
  simp only [J5]
  rw [if_neg (by simp [U9])]
  have:Q8 false ps=[]:=by
   clear hl hp
   induction ps with
   | nil=>rfl
   | cons p ps ih2=>rw [Q8,ih p (by simp),ih2 (fun q hq=>ih q (List.mem_cons_of_mem _ hq))];rfl
  rw [this]
  rfl
theorem zC6 {f:Nd} (h:zi5 f):(∀ x∈J5 true f,Y8 x)/\(∀ x∈J5 false f,zq4 x):=by
 induction h with
 | truth _=>exact ⟨fun x hx=>by simp [J5,Q8,U9] at hx,fun x hx=>by simp [J5,Q8,U9] at hx⟩
 | con _ hp ih =>
  refine ⟨fun x hx=>?_,fun x hx=>?_⟩
  all_goals
   simp only [J5] at hx
   rw [if_neg (by simp [U9])] at hx
   obtain ⟨p,hp',hx⟩:=Y9.1 (by simpa using hx)
  ·exact (ih p hp').1 x hx
  ·exact (ih p hp').2 x hx
 | two hw ha hb =>
  refine ⟨fun x hx=>?_,fun x hx=>?_⟩
  ·simp [J5,Q8,U9] at hx
   rcases hx with hx | hx
   ·exact zs9 ha x hx
   ·exact zs9 hb x hx
  ·simp [J5,Q8,U9,y8 ha,y8 hb] at hx
   subst hx
   exact .two hw ha hb
 | le hw ha hb h1 h2 =>
  refine ⟨fun x hx=>?_,fun x hx=>?_⟩
  ·simp [J5,Q8,U9] at hx
   rcases hx with hx | hx
   ·exact zs9 ha x hx
   ·exact zs9 hb x hx
  ·simp [J5,Q8,U9,y8 ha,y8 hb] at hx
   subst hx
   exact .le hw ha hb h1 h2
theorem zz2 {x:Nd} (h:Y8 x) (t:Bool):(J5 t x).length<=(Z1 x).length:=by
 induction h with
 | @num v h1 h2 =>
  obtain ⟨c,l,e,_⟩:=zC5 h1 h2
  rw [zi7,e]
  cases t <;> simp [J5,Q8,U9]
 | @app w ps hw hl hp ih =>
  have hs:(Q8 t ps).length<=(Q9 ps).length:=by
   clear hl hp
   induction ps with
   | nil=>simp [Q8]
   | cons p ps ih2 =>
    have h1:=ih p (by simp)
    have h2:=ih2 (fun q hq=>ih q (List.mem_cons_of_mem _ hq))
    simp only [Q8,Q9,List.length_append,List.length_cons]
    omega
  obtain ⟨_,c,l,e,_⟩:=zz1 hw
  have h1:(J5 t (.mk 3 w 0 ps)).length<=1+(Q8 t ps).length:=by
   simp only [J5,List.length_append]
   split <;> simp
  cases ps with
  | nil=>rw [zf2,e];simp [Q8] at h1;simp;omega
  | cons p ps =>
   rw [zi8]
   simp only [List.length_cons,List.length_append] at *
   omega
theorem qg0 {x:Nd} (h:zi5 x) (t:Bool):(J5 t x).length<=(Z1 x).length:=by
 induction h with
 | truth _=>cases t <;> simp [J5,Q8,U9]
 | @con w ps _ hp ih =>
  have hs:(Q8 t ps).length<=(Q9 ps).length:=by
   clear hp
   induction ps with
   | nil=>simp [Q8]
   | cons p ps ih2 =>
    have h1:=ih p (by simp)
    have h2:=ih2 (fun q hq=>ih q (List.mem_cons_of_mem _ hq))
    simp only [Q8,Q9,List.length_append,List.length_cons]
    omega
  have h1:(J5 t (.mk 1 w 0 ps)).length=(Q8 t ps).length:=by
   simp only [J5,List.length_append]
   cases t <;> simp [U9]
  have h2:(Q9 ps).length<=(Z1 (.mk 1 w 0 ps)).length:=by
   rw [Z1,if_pos (Or.inl rfl)]
   simp only [List.length_cons,List.length_append]
   omega
  omega
 | @two w a b hw ha hb =>
  have h1:=zz2 ha t
  have h2:=zz2 hb t
  have h3:(J5 t (.mk 2 w 0 [a,b])).length<=1+(J5 t a).length+(J5 t b).length:=by
   simp only [J5,Q8,List.length_append,List.length_nil]
   split <;> simp <;> omega
  rw [zs8]
  simp only [Q9,List.length_cons,List.length_append,List.length_nil]
  omega
 | @le w a b v hw ha hb _ _ =>
  have h1:=zz2 ha t
  have h2:=zz2 hb t
  have h3:(J5 t (.mk 2 w 0 [a,b,.mk 5 ByteArray.empty v []])).length<=1+(J5 t a).length+(J5 t b).length:=by
   simp only [J5,Q8,List.length_append,List.length_nil]
   rw [if_neg (c:=U9 t 5=true) (by cases t <;> decide)]
   split <;> simp <;> omega
  rw [zs8]
  simp only [Q9,List.length_cons,List.length_append,List.length_nil]
  omega
end Ar
namespace Ar
open Classical in
noncomputable def putN (T:List Nd) (x:Nd):List Nd:=if x∈T then T else T++[x]
theorem zn6 {T:List Nd} {x:Nd} (h:x∈T):putN T x=T:=by unfold putN;rw [if_pos h]
theorem zi9 {T:List Nd} {x:Nd} (h:¬x∈T):putN T x=T++[x]:=by unfold putN;rw [if_neg h]
theorem zg3 {T:List Nd} {x y:Nd}:y∈putN T x↔y∈T\/y=x:=by
 by_cases h:x∈T
 ·rw [zn6 h]
  constructor
  ·exact .inl
  ·rintro (h' | rfl)
   ·exact h'
   ·exact h
 ·rw [zi9 h];simp
theorem zz3 {T:List Nd} {x:Nd}:T <+: putN T x:=by
 by_cases h:x∈T
 ·rw [zn6 h]
  exact List.prefix_refl _
 ·rw [zi9 h]
  exact List.prefix_append _ _
theorem zj0 {T:List Nd} {x:Nd} (hT:T.Nodup):(putN T x).Nodup:=by
 by_cases h:x∈T
 ·rw [zn6 h];exact hT
 ·rw [zi9 h,List.nodup_append]
  refine ⟨hT,by simp,?_⟩
  intro a ha b hb e
  simp at hb
  subst hb e
  exact h ha
theorem zK9 {T:List Nd} {x:Nd}:(putN T x).length<=T.length+1:=by
 by_cases h:x∈T
 ·rw [zn6 h];omega
 ·rw [zi9 h];simp
mutual
noncomputable def addT:List Nd->Nd->List Nd
 | T,.mk k w v ps=>putN (addTs T ps) (.mk k w v ps)
noncomputable def addTs:List Nd->List Nd->List Nd
 | T,[]=>T
 | T,p :: ps=>addTs (addT T p) ps
end
theorem zw2 (T:List Nd) (ps:List Nd) (p:Nd):addTs T (ps++[p])=addT (addTs T ps) p:=by
 induction ps generalizing T with
 | nil=>simp [addTs]
 | cons q qs ih=>simp [addTs,ih]
def parts:Nd->List Nd
 | .mk _ _ _ ps=>ps
def Cl (T:List Nd):Prop:=∀ (i:Nat) (x:Nd),T[i]?=some x->Y8 x/\∀ p∈parts x,p∈T.take i
theorem Cl.take {T:List Nd} (h:Cl T) (n:Nat):Cl (T.take n):=by
 intro i x hx
 have hi:=(List.getElem?_eq_some_iff.1 hx).1
 simp at hi
 rw [List.getElem?_take_of_lt (by omega)] at hx
 obtain ⟨h1,h2⟩:=h i x hx
 refine ⟨h1,fun p hp=>?_⟩
 rw [List.take_take,Nat.min_eq_left (by omega)]
 exact h2 p hp
theorem Cl.part {T:List Nd} (h:Cl T) {x p:Nd} (hx:x∈T) (hp:p∈parts x):p∈T:=by
 obtain ⟨i,hi⟩:=List.mem_iff_getElem?.1 hx
 exact List.mem_of_mem_take ((h i x hi).2 p hp)
theorem Cl.put {T:List Nd} (h:Cl T) {x:Nd} (hx:Y8 x) (hp:∀ p∈parts x,p∈T):Cl (putN T x):=by
 by_cases hin:x∈T
 ·rw [zn6 hin];exact h
 ·rw [zi9 hin]
  intro i y hy
  by_cases hi:i < T.length
  ·rw [List.getElem?_append_left hi] at hy
   obtain ⟨h1,h2⟩:=h i y hy
   refine ⟨h1,fun p hp'=>?_⟩
   rw [List.take_append_of_le_length (by omega)]
   exact h2 p hp'
  ·have hi2:=(List.getElem?_eq_some_iff.1 hy).1
   simp at hi2
   have:i=T.length:=by omega
   subst this
   rw [List.getElem?_append_right (Nat.le_refl _)] at hy
   simp at hy
   subst hy
   refine ⟨hx,fun p hp'=>?_⟩
   rw [List.take_append_of_le_length (Nat.le_refl _),List.take_of_length_le (Nat.le_refl _)]
   exact hp p hp'
structure zL0 (T T':List Nd) (xs:List Nd):Prop where
 pre:T <+: T'
 nd:T.Nodup->T'.Nodup
 cl:Cl T->Cl T'
 mem:∀ y,y∈T'↔y∈T\/y∈xs
 len:T'.length<=T.length+xs.length
theorem zL0.trans {T T' T'':List Nd} {xs ys:List Nd} (h:zL0 T T' xs) (k:zL0 T' T'' ys):zL0 T T'' (xs++ys) :=
 ⟨h.pre.trans k.pre,fun hn=>k.nd (h.nd hn),fun hc=>k.cl (h.cl hc),fun y=>by rw [k.mem,h.mem];simp [or_assoc],by rw [List.length_append];have:=h.len;have:=k.len;omega⟩
theorem zL0.refl (T:List Nd):zL0 T T []:=⟨List.prefix_refl _,id,id,fun y=>by simp,by simp⟩
theorem qE9 {x:Nd} (h:Y8 x):∀ T,∃ xs,zL0 T (addT T x) xs/\(∀ y,y∈xs↔y∈J5 true x)/\xs.length=(J5 true x).length:=by
 induction h with
 | @num v h1 h2 =>
  intro T
  refine ⟨[.mk 4 ByteArray.empty v []],⟨zz3,zj0,fun hc=>?_,fun y=>?_,?_⟩,fun y=>by simp [J5,Q8,U9],by simp [J5,Q8,U9]⟩
  ·simp only [addT,addTs]
   exact hc.put (.num h1 h2) (fun p hp=>absurd hp (by simp [parts]))
  ·simp only [addT,addTs,zg3,List.mem_singleton]
  ·simp only [addT,addTs];exact zK9
 | @app w ps hw hl hp ih =>
  intro T
  have hs:∀ (qs:List Nd),(∀ q∈qs,q∈ps)->∀ T,∃ xs,zL0 T (addTs T qs) xs/\(∀ y,y∈xs↔y∈Q8 true qs)/\xs.length=(Q8 true qs).length:=by
   intro qs
   induction qs with
   | nil=>intro _ T;exact ⟨[],zL0.refl T,fun y=>by simp [Q8],rfl⟩
   | cons q qs ih2 =>
    intro hq T
    obtain ⟨xs,h1,h2,h3⟩:=ih q (hq q (by simp)) T
    obtain ⟨ys,k1,k2,k3⟩:=ih2 (fun r hr=>hq r (List.mem_cons_of_mem _ hr)) (addT T q)
    exact ⟨xs++ys,h1.trans k1,fun y=>by simp only [Q8,List.mem_append,h2,k2],by simp only [Q8,List.length_append,h3,k3]⟩
  obtain ⟨xs,h1,h2,h3⟩:=hs ps (fun q hq=>hq) T
  have hself:∀ p∈ps,p∈J5 true p:=by
   intro p hp'
   have hk:=hp p hp'
   cases hk <;> simp [J5,U9]
  refine ⟨xs++[.mk 3 w 0 ps],⟨?_,?_,?_,?_,?_⟩,?_,?_⟩
  ·simp only [addT];exact h1.pre.trans zz3
  ·intro hn;simp only [addT];exact zj0 (h1.nd hn)
  ·intro hc
   simp only [addT]
   refine (h1.cl hc).put (.app hw hl hp) (fun p hp'=>?_)
   rw [h1.mem,h2,Y9]
   exact .inr ⟨p,hp',hself p hp'⟩
  ·intro y
   simp only [addT,zg3,h1.mem,List.mem_append,List.mem_singleton,or_assoc]
  ·simp only [addT,List.length_append]
   have:=zK9 (T:=addTs T ps) (x:=.mk 3 w 0 ps)
   have:=h1.len
   simp
   omega
  ·intro y
   simp only [List.mem_append,List.mem_singleton,h2,J5]
   rw [if_pos (by simp [U9])]
   simp [or_comm]
  ·simp only [J5,List.length_append,h3]
   rw [if_pos (by simp [U9])]
   simp
   omega
theorem qF0 (T:List Nd) (x:Nd):x∈addT T x:=by
 cases x
 simp only [addT,zg3]
 exact .inr trivial
/-! ### Where a tree stands -/
open Classical in
noncomputable def idx (T:List Nd) (x:Nd):Nat:=T.findIdx (fun y=>decide (y=x))
open Classical in
theorem zc2 {T:List Nd} {x:Nd} (h:x∈T):T[idx T x]?=some x:=by
 have hl:idx T x < T.length:=List.findIdx_lt_length_of_exists ⟨x,h,by simp⟩
 have h1:=List.findIdx_getElem (w:=hl)
 rw [List.getElem?_eq_getElem hl]
 have h2:T[idx T x]=x:=of_decide_eq_true h1
 exact congrArg some h2
theorem idx_at {T:List Nd} (hT:T.Nodup) {x:Nd} {i:Nat} (h:T[i]?=some x):idx T x=i:=by
 have h1:=zc2 (List.mem_of_getElem? h)
 obtain ⟨hi,e1⟩:=List.getElem?_eq_some_iff.1 h
 obtain ⟨hj,e2⟩:=List.getElem?_eq_some_iff.1 h1
 have hp:=List.pairwise_iff_getElem.1 hT
 rcases Nat.lt_trichotomy (idx T x) i with hlt | heq | hgt
 ·exact absurd (e2.trans e1.symm) (hp _ _ hj hi hlt)
 ·exact heq
 ·exact absurd (e1.trans e2.symm) (hp _ _ hi hj hgt)
theorem zG1 {T T':List Nd} (h:T <+: T') {x:Nd} (hx:x∈T):idx T' x=idx T x:=by
 obtain ⟨r,rfl⟩:=h
 unfold idx
 rw [List.findIdx_append,if_pos (List.findIdx_lt_length_of_exists ⟨x,hx,by simp⟩)]
theorem zz4 {T:List Nd} {x y:Nd} (hx:x∈T) (hy:y∈T) (h:idx T x=idx T y):x=y:=by
 have h1:=zc2 hx
 rw [h,zc2 hy] at h1
 exact (Option.some.inj h1).symm
end Ar
namespace Ar
abbrev Itp:=List UInt8->List Int->Int
mutual
def zq8 (I:Itp):Nd->Int
 | .mk k w v ps=>if k=4 then v else I w.toList (zA0 I ps)
def zA0 (I:Itp):List Nd->List Int
 | []=>[]
 | p :: ps=>zq8 I p :: zA0 I ps
end
theorem zS5 (I:Itp) (ps:List Nd):zA0 I ps=ps.map (zq8 I):=by
 induction ps with
 | nil=>rfl
 | cons p ps ih=>simp [zA0,ih]
def zn9 (w:List UInt8) (a b c:Int):Bool :=
 if w=[61] then decide (a=b) else if w=[60] then decide (a < b) else if w=[60,61] then decide (a<=b) else decide (a<=b+c)
def bnd:List Nd->Int
 | [.mk _ _ c _]=>c
 | _=>0
def zq9 (val:Nd->Int):Nd->Bool
 | .mk _ w _ (a :: b :: r)=>zn9 w.toList (val a) (val b) (bnd r)
 | _=>false
def con (w:List UInt8) (bs:List Bool):Bool :=
 if w=zj4 then !(bs.getD 0 false) else if w=[61,62] then !(bs.getD 0 false) || bs.getD 1 false else if w=zn3 then bs.getD 0 false == bs.getD 1 false
 else if w=wOr then bs.any id else bs.all id
mutual
def ftr (α:Nd->Bool):Nd->Bool
 | .mk k w v ps=>if k=2 then α (.mk k w v ps) else if k=0 then decide (w.toList=zl8) else con w.toList (qQ8 α ps)
def qQ8 (α:Nd->Bool):List Nd->List Bool
 | []=>[]
 | p :: ps=>ftr α p :: qQ8 α ps
end
theorem qg4 (α:Nd->Bool) (ps:List Nd):qQ8 α ps=ps.map (ftr α):=by
 induction ps with
 | nil=>rfl
 | cons p ps ih=>simp [qQ8,ih]
def Sat (L:List Nd):Prop:=∃ I,∀ f∈L,ftr (zq9 (zq8 I)) f=true
theorem Sat.fewer {L M:List Nd} (h:Sat M) (hs:∀ f∈L,f∈M):Sat L:=by
 obtain ⟨I,hI⟩:=h
 exact ⟨I,fun f hf=>hI f (hs f hf)⟩
structure Good (T:List Nd) (v:Nd->Int):Prop where
 num:∀ n,.mk 4 ByteArray.empty n []∈T->v (.mk 4 ByteArray.empty n [])=n
 fn:∀ w ps qs,.mk 3 w 0 ps∈T->.mk 3 w 0 qs∈T->ps.map v=qs.map v->v (.mk 3 w 0 ps)=v (.mk 3 w 0 qs)
theorem x9 {a b:ByteArray} (h:a.toList=b.toList):a=b:=by
 rw [ByteArray.toList_eq,ByteArray.toList_eq] at h
 cases a;cases b
 simp at h
 rw [h]
theorem jb7 (I:Itp) (T:List Nd):Good T (zq8 I) :=
 ⟨fun n _=>by simp [zq8],fun w ps qs _ _ h=>by simp only [zq8,zS5];rw [h]⟩
open Classical in
noncomputable def itpOf (T:List Nd) (v:Nd->Int):Itp:=fun w as =>
 if h:∃ x:ByteArray × List Nd,.mk 3 x.1 0 x.2∈T/\x.1.toList=w/\x.2.map v=as then v (.mk 3 h.choose.1 0 h.choose.2) else 0
theorem jb8 {T:List Nd} {v:Nd->Int} (hg:Good T v) (hc:∀ x∈T,∀ p∈parts x,p∈T) {x:Nd} (hx:Y8 x):x∈T->zq8 (itpOf T v) x=v x:=by
 induction hx with
 | @num n _ _=>intro h;rw [hg.num n h];simp [zq8]
 | @app w ps hw hl hp ih =>
  intro h
  have e:zA0 (itpOf T v) ps=ps.map v:=by
   rw [zS5]
   exact List.map_congr_left fun p hp'=>ih p hp' (hc _ h p hp')
  simp only [zq8]
  rw [if_neg (by decide),e]
  have hex:∃ x:ByteArray × List Nd,Nd.mk 3 x.1 0 x.2∈T/\x.1.toList=w.toList/\x.2.map v=ps.map v:=⟨(w,ps),h,rfl,rfl⟩
  unfold itpOf
  rw [dif_pos hex]
  have hs:=hex.choose_spec
  have hw':hex.choose.1=w:=x9 hs.2.1
  have h1:=hs.1
  rw [hw'] at h1 ⊢
  exact hg.fn w _ _ h1 h hs.2.2
theorem qp9 {u v:Nd->Int} {x:Nd} (h:∀ p∈(parts x).take 2,u p=v p):zq9 u x=zq9 v x:=by
 cases x with
 | mk k w n ps =>
  match ps,h with
  | [],_=>rfl
  | [_],_=>rfl
  | a :: b :: r,h =>
   have ha:=h a (by simp [parts])
   have hb:=h b (by simp [parts])
   simp only [zq9]
   rw [ha,hb]
theorem zS6 {α β:Nd->Bool} {f:Nd} (hf:zi5 f):(∀ x∈J5 false f,α x = β x)->ftr α f=ftr β f:=by
 induction hf with
 | truth _=>intro _;simp [ftr]
 | @con w ps _ hp ih =>
  intro h
  simp only [ftr,qg4]
  rw [if_neg (by decide),if_neg (by decide),if_neg (by decide),if_neg (by decide)]
  congr 1
  refine List.map_congr_left fun p hp'=>ih p hp' fun x hx=>h x ?_
  simp only [J5]
  exact List.mem_append_right _ (Y9.2 ⟨p,hp',hx⟩)
 | two hw ha hb=>intro h;simp only [ftr,if_pos];exact h _ (by simp [J5,U9])
 | le hw ha hb h1 h2=>intro h;simp only [ftr,if_pos];exact h _ (by simp [J5,U9])
end Ar
namespace Ar
def qQ9:List UInt8:=[61,62]
inductive FmW:Nd->Prop
 | truth {w:ByteArray} (hw:w.toList=zl8\/w.toList=zg6):FmW (.mk 0 w 0 [])
 | neg {w:ByteArray} {p:Nd} (hw:w.toList=zj4) (hp:FmW p):FmW (.mk 1 w 0 [p])
 | imp {w:ByteArray} {p q:Nd} (hw:w.toList=qQ9\/w.toList=zn3) (hp:FmW p) (hq:FmW q):FmW (.mk 1 w 0 [p,q])
 | many {w:ByteArray} {ps:List Nd} (hw:w.toList=zk7\/w.toList=wOr) (hp:∀ p∈ps,FmW p):FmW (.mk 1 w 0 ps)
 | two {w:ByteArray} {a b:Nd} (hw:w.toList=[61]\/w.toList=[60]\/w.toList=[60,61]) (ha:Y8 a) (hb:Y8 b):FmW (.mk 2 w 0 [a,b])
 | le {w:ByteArray} {a b:Nd} {v:Int} (hw:w.toList=wLe) (ha:Y8 a) (hb:Y8 b) (h1 : -1000<=v) (h2:v<=1000):FmW (.mk 2 w 0 [a,b,.mk 5 ByteArray.empty v []])
theorem FmW.ok {f:Nd} (h:FmW f):zi5 f:=by
 induction h with
 | truth hw=>exact .truth (by rcases hw with hw | hw <;> (rw [hw];decide))
 | neg hw _ ih=>exact .con (by rw [hw];decide) (fun p hp=>by simp at hp;subst hp;exact ih)
 | imp hw _ _ ih1 ih2=>exact .con (by rcases hw with hw | hw <;> (rw [hw];decide)) (fun p hp=>by simp at hp;rcases hp with rfl | rfl;exact ih1;exact ih2)
 | many hw _ ih=>exact .con (by rcases hw with hw | hw <;> (rw [hw];decide)) ih
 | two hw ha hb=>exact .two hw ha hb
 | le hw ha hb h1 h2=>exact .le hw ha hb h1 h2
theorem qF6 {l:List UInt8} {ks:Int × Int} (h:zl9 l=some ks):(ks=(1,0)/\l=zj4)\/(ks=(1,1)/\(l=qQ9\/l=zn3))\/(ks=(1,2)/\(l=zk7\/l=wOr))\/(ks=(2,3)/\(l=[61]\/l=[60]\/l=[60,61]))\/(ks=(2,4)/\l=wLe):=by
 unfold zl9 at h
 repeat' (split at h)
 all_goals first | (simp at h;done) | (simp only [Option.some.injEq] at h;subst h)
 ·exact .inl ⟨rfl,‹_›⟩
 ·exact .inr (.inr (.inl ⟨rfl,.inl ‹_›⟩))
 ·exact .inr (.inr (.inl ⟨rfl,.inr ‹_›⟩))
 ·exact .inr (.inl ⟨rfl,.inl ‹_›⟩)
 ·exact .inr (.inl ⟨rfl,.inr ‹_›⟩)
 ·exact .inr (.inr (.inr (.inl ⟨rfl,.inl ‹_›⟩)))
 ·exact .inr (.inr (.inr (.inl ⟨rfl,.inr (.inl ‹_›)⟩)))
 ·exact .inr (.inr (.inr (.inl ⟨rfl,.inr (.inr ‹_›)⟩)))
 ·exact .inr (.inr (.inr (.inr ⟨rfl,‹_›⟩)))
theorem qg5 {N:List Nm} (hN:zS1 N) (n:Nat):∀ d ts nd ts',K6 N n d ts=.ok nd ts'->FmW nd:=by
 induction n with
 | zero=>intro d ts nd ts' e;exact absurd e (by simp [K6])
 | succ n ih =>
  intro d ts nd ts' e
  cases ts with
  | nil=>exact absurd e (by simp [K6])
  | cons t ts =>
   unfold K6 at e
   split at e
   ·split at e
    ·exact absurd e (by simp)
    ·split at e
     ·exact absurd e (by simp)
     ·rename_i u us
      split at e
      ·exact absurd e (by simp)
      ·rename_i ks hks
       obtain ⟨ps,vs,hr,rfl⟩:=zC4 e
       have hT:=zK7 hN n (d+1)
       have hF:=ih (d+1)
       rcases qF6 hks with ⟨rfl,hw⟩ | ⟨rfl,hw⟩ | ⟨rfl,hw⟩ | ⟨rfl,hw⟩ | ⟨rfl,hw⟩
       ·obtain ⟨h1,h2⟩:=zF9 [_] (fun f hf=>by simp at hf;subst hf;exact hF) us ps vs hr
        match ps,h1,h2 with
        | [p],h1,_=>exact .neg hw (h1 p (by simp))
       ·obtain ⟨a,b,rfl,ha,hb⟩:=ja5 hF hF (ts:=us) hr
        exact .imp hw ha hb
       ·exact .many hw (qf7 hF _ us ps vs hr)
       ·obtain ⟨a,b,rfl,ha,hb⟩:=ja5 hT hT (ts:=us) hr
        exact .two hw ha hb
       ·obtain ⟨a,b,c,rfl,ha,hb,hc⟩:=jo4 (R:=fun nd=>∃ v,nd=.mk 5 ByteArray.empty v [] /\ -1000<=v/\v<=1000) hT hT (fun ts nd ts' e=>qp2 e) (ts:=us) hr
        obtain ⟨v,rfl,h1,h2⟩:=hc
        exact .le hw ha hb h1 h2
   ·split at e
    ·rename_i hw
     simp only [Rs.ok.injEq] at e
     obtain ⟨rfl,rfl⟩:=e
     exact .truth hw
    ·exact absurd e (by simp)
end Ar
namespace Ar
structure At where
 wd:List UInt8
 i:Nat
 j:Nat
 b:Int
def At.tr (x:At) (v:Nat->Int):Bool:=zn9 x.wd (v x.i) (v x.j) x.b
def At.Ok (x:At):Prop:=(x.wd=[61]\/x.wd=[60]\/x.wd=[60,61]\/x.wd=wLe)/\(x.wd ≠ wLe->x.b=0)
def At.ex (x:At):Int:=if x.wd=[60] then -1 else x.b
theorem At.tr_eq {x:At} (v:Nat->Int) (h:x.wd=[61]):x.tr v=decide (v x.i=v x.j):=by
 unfold At.tr zn9;rw [if_pos h]
theorem zX7:wLe ≠ [61]/\wLe ≠ [60]/\wLe ≠ [60,61]:=by decide
theorem At.tr_ex {x:At} (v:Nat->Int) (ho:x.Ok) (h:x.wd ≠ [61]):x.tr v=decide (v x.i - v x.j<=x.ex):=by
 unfold At.tr zn9 At.ex
 rw [if_neg h]
 obtain ⟨h1,h2⟩:=ho
 rcases h1 with e | e | e | e
 ·exact absurd e h
 ·rw [if_pos e,if_pos e]
  rw [decide_eq_decide];omega
 ·have hb:=h2 (by rw [e];exact fun q=>zX7.2.2 q.symm)
  rw [if_neg (by rw [e];decide),if_pos e,if_neg (by rw [e];decide)]
  rw [decide_eq_decide];omega
 ·rw [if_neg (by rw [e];exact zX7.2.1),if_neg (by rw [e];exact zX7.2.2),if_neg (by rw [e];exact zX7.2.1)]
  rw [decide_eq_decide];omega
structure Fx where
 n:Nat
 num:Nat->Option Int
 tw:List (Nat × Nat)
 prs:Nat × Nat->List (Nat × Nat)
 far:Int
structure Fx.V (F:Fx) (v:Nat->Int):Prop where
 zero:v F.n=0
 num:∀ i x,i < F.n->F.num i=some x->v i=x
 fn:∀ p∈F.tw,(∀ q∈F.prs p,v q.1=v q.2)->v p.1=v p.2
 near:∀ i j,i<=F.n->j<=F.n->v i - v j<=F.far
def Fx.Ok (F:Fx):Prop:=∀ p∈F.tw,(p.1 < F.n/\p.2 < F.n)/\∀ q∈F.prs p,q.1 < F.n/\q.2 < F.n
def HA (As:List (At × Bool)) (k:Nat) (v:Nat->Int):Prop:=∀ x,As[k]?=some x->x.1.tr v=x.2
theorem HA.app {As Bs:List (At × Bool)} {k:Nat} (hk:k < As.length) (v:Nat->Int):HA (As++Bs) k v↔HA As k v:=by
 unfold HA
 rw [List.getElem?_append_left hk]
def U3 (T:Tb) (x:At × Bool):Prop :=
 if x.1.wd=[61] then (x.2=true->T.by_ x.1.i x.1.j<=0/\T.by_ x.1.j x.1.i<=0)
 else if x.2=true then T.by_ x.1.i x.1.j<=x.1.ex else T.by_ x.1.j x.1.i <= -x.1.ex - 1
theorem U3.le {n:Nat} {T T':Tb} {x:At × Bool} (h:U3 T x) (hl:TLe n T' T) (hi:x.1.i < n) (hj:x.1.j < n):U3 T' x:=by
 have h1:=hl x.1.i x.1.j hi hj
 have h2:=hl x.1.j x.1.i hj hi
 unfold U3 at h ⊢
 split
 ·rename_i e
  rw [if_pos e] at h
  intro e2
  have:=h e2
  omega
 ·rename_i e
  rw [if_neg e] at h
  split
  ·rename_i e2;rw [if_pos e2] at h;omega
  ·rename_i e2;rw [if_neg e2] at h;omega
def zc9 (T:Tb) (x:At × Bool):Prop:=x.1.wd=[61]->x.2=false->T.by_ x.1.i x.1.j ≠ 0/\T.by_ x.1.j x.1.i ≠ 0
def zf3 (F:Fx) (T:Tb) (p:Nat × Nat):Prop:=(∀ q∈F.prs p,T.by_ q.1 q.2<=0/\T.by_ q.2 q.1<=0)->T.by_ p.1 p.2<=0/\T.by_ p.2 p.1<=0
def qR2 (F:Fx) (T:Tb):Prop:=∀ i x,i < F.n->F.num i=some x->T.by_ i F.n<=x/\T.by_ F.n i <= -x
theorem qR2.le {F:Fx} {T T':Tb} (h:qR2 F T) (hl:TLe (F.n+1) T' T):qR2 F T':=fun i x hi e=>by
 have:=h i x hi e
 have:=hl i F.n (by omega) (by omega)
 have:=hl F.n i (by omega) (by omega)
 omega
def gr (F:Fx) (T:Tb) (i:Nat):Int:=T.by_ i F.n
theorem zT0 {F:Fx} {H:Nat->(Nat->Int)->Prop} {K:Nat} {T:Tb} (h:V4 (F.n+1) F.far F.V H K T) {i j:Nat} (hi:i<=F.n) (hj:j<=F.n):gr F T i - gr F T j<=T.by_ i j:=by
 have:=h.tri i j F.n (by omega) (by omega) (by omega)
 unfold gr
 omega
theorem jc2 {F:Fx} {As:List (At × Bool)} {K:Nat} {T:Tb} (h:V4 (F.n+1) F.far F.V (HA As) K T) (hn:qR2 F T) (hF:F.Ok) (hm:∀ p∈F.tw,zf3 F T p)
  (htw:∀ p∈F.tw,gr F T p.1=gr F T p.2\/(∃ q∈F.prs p,gr F T q.1 ≠ gr F T q.2)\/(∀ q∈F.prs p,T.by_ q.1 q.2<=0/\T.by_ q.2 q.1<=0)):F.V (gr F T):=by
 refine ⟨h.diag F.n (by omega),fun i x hi e=>?_,fun p hp hq=>?_,fun i j hi hj=>?_⟩
 ·have h1:=hn i x hi e
  have h2:=h.tri i F.n i (by omega) (by omega) (by omega)
  have h3:=h.diag i (by omega)
  unfold gr
  omega
 ·rcases htw p hp with e | ⟨q,hq1,hq2⟩ | e
  ·exact e
  ·exact absurd (hq q hq1) hq2
  ·have h1:=hm p hp e
   have h2:=(hF p hp).1
   have h3:=zT0 h (i:=p.1) (j:=p.2) (by omega) (by omega)
   have h4:=zT0 h (i:=p.2) (j:=p.1) (by omega) (by omega)
   omega
 ·have h1:=zT0 h hi hj
  have h2:=h.hi i j (by omega) (by omega)
  omega
theorem jc3 {F:Fx} {As:List (At × Bool)} {K:Nat} {T:Tb} (h:V4 (F.n+1) F.far F.V (HA As) K T) {x:At × Bool} (ho:x.1.Ok) (hi:x.1.i < F.n) (hj:x.1.j < F.n) (ht:U3 T x) (hp:zc9 T x) (hx:x.1.tr (gr F T) ≠ x.2) :
  gr F T x.1.i=gr F T x.1.j/\(0 < T.by_ x.1.i x.1.j\/0 < T.by_ x.1.j x.1.i):=by
 have g1:=zT0 h (i:=x.1.i) (j:=x.1.j) (by omega) (by omega)
 have g2:=zT0 h (i:=x.1.j) (j:=x.1.i) (by omega) (by omega)
 by_cases e:x.1.wd=[61]
 ·rw [At.tr_eq _ e] at hx
  unfold U3 at ht
  rw [if_pos e] at ht
  cases e2:x.2 with
  | true =>
   rw [e2] at hx
   have:=ht e2
   exact absurd (decide_eq_true (by omega)) hx
  | false =>
   rw [e2] at hx
   have h1:=hp e e2
   have h2:=h.tri x.1.i x.1.j x.1.i (by omega) (by omega) (by omega)
   have h3:=h.diag x.1.i (by omega)
   refine ⟨by simpa using hx,?_⟩
   omega
 ·rw [At.tr_ex _ ho e] at hx
  unfold U3 at ht
  rw [if_neg e] at ht
  cases e2:x.2 with
  | true =>
   rw [e2] at hx
   rw [if_pos e2] at ht
   exact absurd (decide_eq_true (by omega)) hx
  | false =>
   rw [e2] at hx
   rw [if_neg (by rw [e2];decide)] at ht
   exact absurd (decide_eq_false (by omega)) hx
theorem qw3 {F:Fx} {As:List (At × Bool)} {K:Nat} {T:Tb} (h:V4 (F.n+1) F.far F.V (HA As) K T) (ht:∀ x∈As,U3 T x) {o p:Nat} (ho:o < F.n) (hp:p < F.n) (hg:gr F T o=gr F T p) (hb:0 < T.by_ p o) (yes:Bool):((⟨[60],o,p,0⟩:At),yes) ∉ As/\o ≠ p:=by
 constructor
 ·intro hm
  have h1:=ht _ hm
  unfold U3 at h1
  rw [if_neg (by simp)] at h1
  have g1:=zT0 h (i:=o) (j:=p) (by omega) (by omega)
  cases yes with
  | true =>
   simp [At.ex] at h1
   omega
  | false =>
   simp [At.ex] at h1
   omega
 ·rintro rfl
  have:=h.diag o (by omega)
  omega
theorem zC9 {x:At} {v:Nat->Int} (ho:x.Ok) (e:x.wd ≠ [61]) (h:x.tr v=true):v x.i - v x.j<=x.ex:=by
 rw [At.tr_ex _ ho e] at h
 simpa using h
theorem zM3 {x:At} {v:Nat->Int} (ho:x.Ok) (e:x.wd ≠ [61]) (h:x.tr v=false):v x.j - v x.i <= -x.ex - 1:=by
 rw [At.tr_ex _ ho e] at h
 have:¬(v x.i - v x.j<=x.ex):=by simpa using h
 omega
end Ar
namespace Ar
structure St where
 q:Nat
 yes:Bool
 turned:Bool
 blame:M3
def atQ (A:List At) (q:Nat):At:=match A[q]? with
 | some x=>x
 | none=>⟨[60],(q - A.length) / 12,(q - A.length) % 12,0⟩
def ans (A:List At) (tr:List St):List (At × Bool):=tr.map (fun s=>(atQ A s.q,s.yes))
theorem qw4 (A:List At) (tr:List St):(ans A tr).length=tr.length:=by simp [ans]
theorem zG2 (A:List At) (tr:List St) (k:Nat):(ans A tr)[k]?=(tr[k]?).map (fun s=>(atQ A s.q,s.yes)):=by simp [ans]
theorem qw5 (A:List At) (tr us:List St):ans A (tr++us)=ans A tr++ans A us:=by simp [ans]
theorem qR3 (A:List At) (tr:List St) (k:Nat):ans A (tr.take k)=(ans A tr).take k:=by simp [ans]
def zO6 (tr:List St) (n:Nat) (x:Nat):Prop:=∀ k s,k < n->tr[k]?=some s->x.testBit s.q=s.yes
def isW (A:List At) (v:Nat->Int) (x:Nat):Prop:=∀ k a,A[k]?=some a->x.testBit k=a.tr v
structure za6 (F:Fx) (A:List At) (W:Nat) (allowed:Nat->Bool) (tr:List St) (left:List (Nat->Bool)) (l0:Nat->Bool):Prop where
 len:left.length=min tr.length A.length+1
 ats:∀ k s,tr[k]?=some s->(k < A.length↔s.q < A.length)
 nd:(tr.map (·.q)).Nodup
 qlt:∀ s∈tr,s.q < A.length+144
 lf:∀ n l,left[n]?=some l->∀ x,x < W->(l x=true↔l0 x=true/\zO6 tr n x)
 sub:∀ x,x < W->l0 x=true->allowed x=true
 snd:∀ v,F.V v->∀ x,x < W->allowed x=true->isW A v x->l0 x=true
 tn:∀ k s,tr[k]?=some s->J7 k s.blame/\(s.turned=true->∀ v,F.V v->Hs (HA (ans A tr)) s.blame v->(atQ A s.q).tr v=s.yes)/\(s.turned=false->s.blame=M3.none)
 some_:∃ x,x < W/\l0 x=true/\zO6 tr A.length x
theorem za6.few {F:Fx} {A:List At} {W:Nat} {al l0:Nat->Bool} {tr:List St} {left:List (Nat->Bool)} (h:za6 F A W al tr left l0):tr.length<=A.length+144:=by
 have h1:=h.nd
 have h2:∀ q∈tr.map (·.q),q < A.length+144:=by
  intro q hq
  obtain ⟨s,hs,rfl⟩:=List.mem_map.1 hq
  exact h.qlt s hs
 have key:∀ (M:Nat) (l:List Nat),l.Nodup->(∀ q∈l,q < M)->l.length<=M:=by
  intro M
  induction M with
  | zero =>
   intro l _ hl
   cases l with
   | nil=>simp
   | cons a b=>exact absurd (hl a (by simp)) (by omega)
  | succ M ih =>
   intro l hn hl
   by_cases hm:M∈l
   ·have e:=List.length_erase_of_mem hm
    have:=ih (l.erase M) (hn.erase M) (fun q hq=>by
     have h1:=hl q (List.mem_of_mem_erase hq)
     have h2:q ≠ M:=fun e=>by subst e;exact (List.Nodup.not_mem_erase hn) hq
     omega)
    have:=List.length_pos_of_mem hm
    omega
   ·have:=ih l hn (fun q hq=>by
     have h1:=hl q hq
     have h2:q ≠ M:=fun e=>by subst e;exact hm hq
     omega)
    omega
 have:=key _ _ h1 h2
 simpa using this
theorem za6.start (F:Fx) (A:List At) (W:Nat) (al:Nat->Bool) (h:∃ x,x < W/\al x=true):za6 F A W al [] [al] al:=by
 obtain ⟨x,hx,ha⟩:=h
 refine ⟨by simp,by simp,by simp,by simp,?_,fun _ _ e=>e,fun _ _ _ _ e _=>e,by simp,x,hx,ha,fun k s hk e=>by simp at e⟩
 intro n l hl x _
 have:n=0:=by
  rcases Nat.eq_zero_or_pos n with e | e
  ·exact e
  ·rw [List.getElem?_eq_none (by simp;omega)] at hl;simp at hl
 subst this
 simp at hl
 subst hl
 exact ⟨fun e=>⟨e,fun k s hk=>by omega⟩,fun e=>e.1⟩
theorem zc7 {α:Type} {l:List α} {x y : α} {k:Nat} (h:(l++[x])[k]?=some y):(k < l.length/\l[k]?=some y)\/(k=l.length/\y=x):=by
 by_cases hk:k < l.length
 ·rw [List.getElem?_append_left hk] at h;exact .inl ⟨hk,h⟩
 ·rw [List.getElem?_append_right (by omega)] at h
  have h2:k - l.length=0:=by
   rcases Nat.eq_zero_or_pos (k - l.length) with e | e
   ·exact e
   ·rw [List.getElem?_eq_none (by simp;omega)] at h;simp at h
  rw [h2] at h
  simp at h
  exact .inr ⟨by omega,h.symm⟩
theorem zD0 {tr:List St} {s:St} {n x:Nat} (hn:n<=tr.length):zO6 (tr++[s]) n x↔zO6 tr n x:=by
 constructor
 ·intro h k t hk e
  exact h k t hk (by rw [List.getElem?_append_left (by omega)];exact e)
 ·intro h k t hk e
  rw [List.getElem?_append_left (by omega)] at e
  exact h k t hk e
theorem zu8 {tr:List St} {s:St} {n x:Nat} (hn:tr.length < n):zO6 (tr++[s]) n x↔zO6 tr n x/\x.testBit s.q=s.yes:=by
 constructor
 ·intro h
  refine ⟨fun k t hk e=>?_,h tr.length s hn (by simp)⟩
  have hk2:k < tr.length:=(List.getElem?_eq_some_iff.1 e).1
  exact h k t hk (by rw [List.getElem?_append_left hk2];exact e)
 ·rintro ⟨h1,h2⟩ k t hk e
  rcases zc7 e with ⟨_,e⟩ | ⟨_,rfl⟩
  ·exact h1 k t hk e
  ·exact h2
theorem zM4 {l:List Nat} {x:Nat} (h:l.Nodup) (hx:x ∉ l):(l++[x]).Nodup:=by
 rw [List.nodup_append]
 refine ⟨h,by simp,fun a ha b hb e=>?_⟩
 simp at hb
 subst hb e
 exact hx ha
theorem qw6 {F:Fx} {A:List At} {W:Nat} {al l0:Nat->Bool} {tr:List St} {left:List (Nat->Bool)} (h:za6 F A W al tr left l0) {s:St} (hb:J7 tr.length s.blame) (ht:s.turned=true->∀ v,F.V v->Hs (HA (ans A tr)) s.blame v->(atQ A s.q).tr v=s.yes) (ht0:s.turned=false->s.blame=M3.none) :
  ∀ k t,(tr++[s])[k]?=some t->J7 k t.blame/\(t.turned=true->∀ v,F.V v->Hs (HA (ans A (tr++[s]))) t.blame v->(atQ A t.q).tr v=t.yes)/\(t.turned=false->t.blame=M3.none):=by
 intro k t e
 rcases zc7 e with ⟨hk,e⟩ | ⟨rfl,rfl⟩
 ·obtain ⟨h1,h2,h3⟩:=h.tn k t e
  refine ⟨h1,fun et v hv hh=>h2 et v hv (fun j hj=>?_),h3⟩
  have hj2:=h1 j hj
  have:=hh j hj
  rw [qw5,HA.app (by rw [qw4];omega)] at this
  exact this
 ·refine ⟨hb,fun et v hv hh=>ht et v hv (fun j hj=>?_),ht0⟩
  have hj2:=hb j hj
  have:=hh j hj
  rw [qw5,HA.app (by rw [qw4];omega)] at this
  exact this
theorem za6.atom {F:Fx} {A:List At} {W:Nat} {al l0 l:Nat->Bool} {tr:List St} {left:List (Nat->Bool)} (h:za6 F A W al tr left l0) {s:St} (hq:s.q < A.length) (hl:tr.length < A.length) (hf:s.q ∉ tr.map (·.q)) (ht:s.turned=false) (hb:s.blame=M3.none)
  (hx:∃ x,x < W/\l0 x=true/\zO6 tr A.length x/\x.testBit s.q=s.yes) {last:Nat->Bool} (hlast:left[left.length - 1]?=some last) (hle:∀ x,x < W->(l x=true↔last x=true/\x.testBit s.q=s.yes)):za6 F A W al (tr++[s]) (left++[l]) l0:=by
 have hlen:=h.len
 refine ⟨by simp;omega,?_,?_,?_,?_,h.sub,h.snd,?_,?_⟩
 ·intro k t e
  rcases zc7 e with ⟨_,e⟩ | ⟨rfl,rfl⟩
  ·exact h.ats k t e
  ·exact ⟨fun _=>hq,fun _=>hl⟩
 ·rw [List.map_append]
  exact zM4 h.nd hf
 ·intro t hm
  rcases List.mem_append.1 hm with e | e
  ·exact h.qlt t e
  ·simp at e;subst e;omega
 ·intro n m hm x hxw
  rcases zc7 hm with ⟨hn,e⟩ | ⟨hn,rfl⟩
  ·rw [zD0 (by omega)]
   exact h.lf n m e x hxw
  ·rw [hle x hxw,h.lf _ _ hlast x hxw]
   have e1:n=tr.length+1:=by omega
   have e2:left.length - 1=tr.length:=by omega
   rw [e1,e2,zu8 (by omega)]
   constructor
   ·rintro ⟨⟨a,b⟩,c⟩
    exact ⟨a,⟨fun k t hk e=>b k t (by have:=(List.getElem?_eq_some_iff.1 e).1;omega) e,c⟩⟩
   ·rintro ⟨a,b,c⟩
    exact ⟨⟨a,fun k t hk e=>b k t (by omega) e⟩,c⟩
 ·exact qw6 h (by rw [hb];exact J7.none _) (fun e=>by rw [ht] at e;simp at e) (fun _=>hb)
 ·obtain ⟨x,h1,h2,h3,h4⟩:=hx
  exact ⟨x,h1,h2,(zu8 (by omega)).2 ⟨h3,h4⟩⟩
theorem za6.split {F:Fx} {A:List At} {W:Nat} {al l0:Nat->Bool} {tr:List St} {left:List (Nat->Bool)} (h:za6 F A W al tr left l0) {s:St} (hq:A.length<=s.q) (hq2:s.q < A.length+144) (hl:A.length<=tr.length) (hf:s.q ∉ tr.map (·.q)) (hb:J7 tr.length s.blame)
  (ht:s.turned=true->∀ v,F.V v->Hs (HA (ans A tr)) s.blame v->(atQ A s.q).tr v=s.yes) (ht0:s.turned=false->s.blame=M3.none):za6 F A W al (tr++[s]) left l0:=by
 have hlen:=h.len
 refine ⟨by simp;omega,?_,?_,?_,?_,h.sub,h.snd,qw6 h hb ht ht0,?_⟩
 ·intro k t e
  rcases zc7 e with ⟨_,e⟩ | ⟨rfl,rfl⟩
  ·exact h.ats k t e
  ·omega
 ·rw [List.map_append]
  exact zM4 h.nd hf
 ·intro t hm
  rcases List.mem_append.1 hm with e | e
  ·exact h.qlt t e
  ·simp at e;subst e;omega
 ·intro n m hm x hxw
  have:n < left.length:=(List.getElem?_eq_some_iff.1 hm).1
  rw [zD0 (by omega)]
  exact h.lf n m hm x hxw
 ·obtain ⟨x,h1,h2,h3⟩:=h.some_
  exact ⟨x,h1,h2,(zD0 (by omega)).2 h3⟩
theorem U4 {α:Type} {l:List α} {c k:Nat} {x : α} (h:(l.take c)[k]?=some x):k < c/\l[k]?=some x:=by
 rw [List.getElem?_take] at h
 split at h
 ·rename_i hk;exact ⟨hk,h⟩
 ·simp at h
theorem zt2 {tr:List St} {c n x:Nat}:zO6 (tr.take c) n x↔zO6 tr (min c n) x:=by
 constructor
 ·intro h k s hk e
  exact h k s (by omega) (by rw [List.getElem?_take,if_pos (by omega)];exact e)
 ·intro h k s hk e
  obtain ⟨h1,h2⟩:=U4 e
  exact h k s (by omega) h2
theorem zG3 {A:List At} {tr:List St} {c k:Nat} (hk:k < c) (v:Nat->Int):HA (ans A (tr.take c)) k v↔HA (ans A tr) k v:=by
 unfold HA
 rw [qR3,List.getElem?_take,if_pos hk]
theorem za6.leave {F:Fx} {A:List At} {W:Nat} {al l0:Nat->Bool} {tr:List St} {left:List (Nat->Bool)} (h:za6 F A W al tr left l0) (c:Nat) (hc:c<=tr.length):za6 F A W al (tr.take c) (left.take (min c A.length+1)) l0:=by
 have hlen:=h.len
 refine ⟨by simp;omega,?_,?_,?_,?_,h.sub,h.snd,?_,?_⟩
 ·intro k s e
  exact h.ats k s (U4 e).2
 ·rw [List.map_take]
  exact h.nd.sublist (List.take_sublist _ _)
 ·intro s hs
  exact h.qlt s (List.mem_of_mem_take hs)
 ·intro n l e x hx
  obtain ⟨h1,h2⟩:=U4 e
  rw [zt2,show min c n=n by omega]
  exact h.lf n l h2 x hx
 ·intro k s e
  obtain ⟨hk,e⟩:=U4 e
  obtain ⟨h1,h2,h3⟩:=h.tn k s e
  refine ⟨h1,fun et v hv hh=>h2 et v hv (fun j hj=>?_),h3⟩
  have:=h1 j hj
  exact (zG3 (by omega) v).1 (hh j hj)
 ·obtain ⟨x,h1,h2,h3⟩:=h.some_
  refine ⟨x,h1,h2,?_⟩
  rw [zt2]
  intro k s hk e
  exact h3 k s (by omega) e
theorem za6.exclude {F:Fx} {A:List At} {W:Nat} {al l0 l1:Nat->Bool} {tr:List St} {left left':List (Nat->Bool)} (h:za6 F A W al tr left l0) {B:M3} (hat:∀ k,B.has k=true->k < A.length) (hbad:∀ v,F.V v->¬Hs (HA (ans A tr)) B v)
  (same:Nat->Bool) (hs:∀ x,x < W->(same x=true↔∀ k s,B.has k=true->tr[k]?=some s->x.testBit s.q=s.yes))
  (hlen:left'.length=left.length) (hl:∀ (n:Nat) (l l':Nat->Bool),left[n]?=some l->left'[n]?=some l'->∀ x,x < W->l' x=(l x && !same x)) (hl1:∀ x,x < W->l1 x=(l0 x && !same x))
  (c:Nat) (hc:c < left'.length) (hx:∃ x,x < W/\∃ l,left'[c]?=some l/\l x=true):za6 F A W al (tr.take c) (left'.take (c+1)) l1:=by
 have hln:=h.len
 refine ⟨by simp;omega,?_,?_,?_,?_,?_,?_,?_,?_⟩
 ·intro k s e
  exact h.ats k s (U4 e).2
 ·rw [List.map_take]
  exact h.nd.sublist (List.take_sublist _ _)
 ·intro s hs'
  exact h.qlt s (List.mem_of_mem_take hs')
 ·intro n l e x hxw
  obtain ⟨h1,h2⟩:=U4 e
  obtain ⟨m,hm⟩:∃ m,left[n]?=some m:=⟨left[n]'(by omega),List.getElem?_eq_getElem (by omega)⟩
  rw [zt2,show min c n=n by omega,hl n m l hm h2 x hxw,hl1 x hxw]
  have:=h.lf n m hm x hxw
  simp only [Bool.and_eq_true]
  rw [this]
  constructor
  ·rintro ⟨⟨a,b⟩,d⟩;exact ⟨⟨a,d⟩,b⟩
  ·rintro ⟨⟨a,d⟩,b⟩;exact ⟨⟨a,b⟩,d⟩
 ·intro x hxw e
  rw [hl1 x hxw] at e
  simp only [Bool.and_eq_true] at e
  exact h.sub x hxw e.1
 ·intro v hv x hxw ha hw
  rw [hl1 x hxw]
  simp only [Bool.and_eq_true,Bool.not_eq_true']
  refine ⟨h.snd v hv x hxw ha hw,?_⟩
  cases e:same x with
  | false=>rfl
  | true =>
   exfalso
   refine hbad v hv (fun k hk=>?_)
   intro y hy
   rw [zG2] at hy
   cases e2:tr[k]? with
   | none=>rw [e2] at hy;simp at hy
   | some s =>
    rw [e2] at hy
    simp at hy
    subst hy
    have hq:=(h.ats k s e2).1 (hat k hk)
    have h3:=(hs x hxw).1 e k s hk e2
    obtain ⟨a,ha'⟩:∃ a,A[s.q]?=some a:=⟨A[s.q]'hq,List.getElem?_eq_getElem hq⟩
    have h4:=hw s.q a ha'
    show (atQ A s.q).tr v=s.yes
    unfold atQ
    rw [ha']
    show a.tr v=s.yes
    rw [<- h4,h3]
 ·intro k s e
  obtain ⟨hk,e⟩:=U4 e
  obtain ⟨h1,h2,h3⟩:=h.tn k s e
  refine ⟨h1,fun et v hv hh=>h2 et v hv (fun j hj=>?_),h3⟩
  have:=h1 j hj
  exact (zG3 (by omega) v).1 (hh j hj)
 ·obtain ⟨x,hxw,l,hl',e⟩:=hx
  obtain ⟨m,hm⟩:∃ m,left[c]?=some m:=⟨left[c]'(by omega),List.getElem?_eq_getElem (by omega)⟩
  rw [hl c m l hm hl' x hxw] at e
  simp only [Bool.and_eq_true] at e
  have h5:=(h.lf c m hm x hxw).1 e.1
  refine ⟨x,hxw,?_,?_⟩
  ·rw [hl1 x hxw];simp only [Bool.and_eq_true];exact ⟨h5.1,e.2⟩
  ·rw [zt2]
   intro k s hk e3
   exact h5.2 k s (by omega) e3
theorem za6.none_left {F:Fx} {A:List At} {W:Nat} {al l0:Nat->Bool} {tr:List St} {left:List (Nat->Bool)} (h:za6 F A W al tr left l0) {B:M3} (hat:∀ k,B.has k=true->k < A.length) (hbad:∀ v,F.V v->¬Hs (HA (ans A tr)) B v)
  (same:Nat->Bool) (hs:∀ x,x < W->(same x=true↔∀ k s,B.has k=true->tr[k]?=some s->x.testBit s.q=s.yes)) (hn:∀ x,x < W->(l0 x && !same x)=false):∀ v,F.V v->∀ x,x < W->al x=true->¬isW A v x:=by
 intro v hv x hxw ha hw
 have h1:=h.snd v hv x hxw ha hw
 have h2:=hn x hxw
 rw [h1] at h2
 simp at h2
 refine hbad v hv (fun k hk=>?_)
 intro y hy
 rw [zG2] at hy
 cases e2:tr[k]? with
 | none=>rw [e2] at hy;simp at hy
 | some s =>
  rw [e2] at hy
  simp at hy
  subst hy
  have hq:=(h.ats k s e2).1 (hat k hk)
  have h3:=(hs x hxw).1 h2 k s hk e2
  obtain ⟨a,ha'⟩:∃ a,A[s.q]?=some a:=⟨A[s.q]'hq,List.getElem?_eq_getElem hq⟩
  have h4:=hw s.q a ha'
  show (atQ A s.q).tr v=s.yes
  unfold atQ
  rw [ha']
  show a.tr v=s.yes
  rw [<- h4,h3]
theorem zM5 {F:Fx} {A:List At} {W:Nat} {al l0:Nat->Bool} {tr:List St} {left:List (Nat->Bool)} (h:za6 F A W al tr left l0) {B:M3} (hbad:∀ v,F.V v->¬Hs (HA (ans A tr)) B v) {p:Nat} {s:St} (hp:tr[p]?=some s) (hlast:∀ k,B.has k=true->k<=p) :
  J7 p ((B.sub (M3.of p)).or s.blame)/\(∀ v,F.V v->Hs (HA (ans A (tr.take p))) ((B.sub (M3.of p)).or s.blame) v->(atQ A s.q).tr v = !s.yes)/\(s.turned=true->∀ v,F.V v->¬Hs (HA (ans A (tr.take p))) ((B.sub (M3.of p)).or s.blame) v):=by
 obtain ⟨h1,h2,h3⟩:=h.tn p s hp
 have hbl:J7 p ((B.sub (M3.of p)).or s.blame):=by
  refine J7.or (fun k hk=>?_) h1
  rw [M3.has_sub] at hk
  simp only [Bool.and_eq_true,Bool.not_eq_true'] at hk
  have h4:=hlast k hk.1
  have h5:=M3.has_lt hk.1
  by_cases e:k=p
  ·subst e
   rw [M3.has_of h5] at hk
   simp at hk
  ·omega
 have key:∀ v,F.V v->Hs (HA (ans A (tr.take p))) ((B.sub (M3.of p)).or s.blame) v->¬(atQ A s.q).tr v=s.yes:=by
  intro v hv hh e
  refine hbad v hv (fun k hk=>?_)
  by_cases ek:k=p
  ·subst ek
   intro y hy
   rw [zG2,hp] at hy
   simp at hy
   subst hy
   exact e
  ·have hk2:=hlast k hk
   have h5:=M3.has_lt hk
   refine (zG3 (c:=p) (by omega) v).1 (hh k ?_)
   rw [M3.has_or,M3.has_sub,hk]
   have:(M3.of p).has k=false:=by
    by_cases hp2:p < 192
    ·rw [M3.has_of hp2];simpa using ek
    ·have e3:M3.of p=⟨0,0,BitVec.twoPow 64 (p - 128)⟩:=by unfold M3.of;rw [if_neg (by omega),if_neg (by omega)]
     rw [e3]
     unfold M3.has
     split
     ·simp
     ·split
      ·simp
      ·simp [BitVec.getLsbD_twoPow];omega
   rw [this]
   rfl
 refine ⟨hbl,fun v hv hh=>?_,fun et v hv hh=>?_⟩
 ·have:=key v hv hh
  cases e1:(atQ A s.q).tr v <;> cases e2:s.yes <;> simp_all
 ·refine key v hv hh (h2 et v hv (fun k hk=>?_))
  have:=h1 k hk
  refine (zG3 (c:=p) (by omega) v).1 (hh k ?_)
  rw [M3.has_or,hk]
  simp
def pot:Nat->List St->Nat
 | _,[]=>0
 | 0,_ :: _=>0
 | m+1,s :: tr=>(if s.turned=true then 2 else 1) * 3 ^ m+pot m tr
theorem zX9:∀ (m:Nat) (tr:List St),pot m tr < 3 ^ m
 | 0,[]=>by simp [pot]
 | 0,_ :: _=>by simp [pot]
 | m+1,[]=>by simp [pot];exact Nat.pos_of_ne_zero (by simp)
 | m+1,s :: tr=>by
  have:=zX9 m tr
  simp only [pot,Nat.pow_succ]
  split <;> omega
theorem qg7:∀ (m:Nat) (tr:List St) (s:St),tr.length < m->pot m tr < pot m (tr++[s])
 | 0,_,_,h=>by omega
 | m+1,[],s,_=>by
  have:0 < 3 ^ m:=Nat.pos_of_ne_zero (by simp)
  simp only [pot,List.nil_append]
  split <;> omega
 | m+1,t :: tr,s,h=>by
  have:=qg7 m tr s (by simp at h;omega)
  simp only [pot,List.cons_append]
  omega
theorem qg8:∀ (m:Nat) (tr:List St) (p:Nat) (s t:St),tr.length<=m->tr[p]?=some s->s.turned=false->t.turned=true->pot m tr < pot m (tr.take p++[t])
 | 0,[],_,_,_,_,e,_,_=>by simp at e
 | 0,_ :: _,_,_,_,h,_,_,_=>by simp at h
 | m+1,[],_,_,_,_,e,_,_=>by simp at e
 | m+1,u :: tr,0,s,t,h,e,e1,e2=>by
  simp at e
  subst e
  have:=zX9 m tr
  simp only [pot,List.take_zero,List.nil_append]
  rw [e1,e2]
  simp
  omega
 | m+1,u :: tr,p+1,s,t,h,e,e1,e2=>by
  have:=qg8 m tr p s t (by simp at h;omega) (by simpa using e) e1 e2
  simp only [pot,List.take_succ_cons,List.cons_append]
  omega
end Ar
end Go.Proofs.YtegbdaffhpiacaaGreatDoor
