/- A part of the proof. -/
import Derived.WalkKit
import Derived.WalkSpells
import Derived.WalkLawsBesides
import Derived.Deep.QuietTactic
import Derived.BigQuiet
namespace Go.Proofs.YtegbdaffhpiacaaGreatDoor
open Go.RowKit
theorem q8{p:Prop}(h:p):Hid p:=h
structure q9(S:Nat->Prop)(w w':World):Prop where
 os:w'.os=w.os
 tape:w'.tape=w.tape
 output:w'.output=w.output
 size:w.heap.size<=w'.heap.size
 block:∀ k,k<w.heap.size->¬S k->w'.heap[k]?=w.heap[k]?
theorem q9.refl(S:Nat->Prop)(w:World):q9 S w w:=⟨rfl,rfl,rfl,Nat.le_refl _,fun _ _ _=>rfl⟩
theorem q9.trans{S:Nat->Prop}{a b c:World}(h:q9 S a b)(k:q9 S b c):q9 S a c :=
 ⟨k.os.trans h.os,k.tape.trans h.tape,k.output.trans h.output,Nat.le_trans h.size k.size,fun i hi hs=>(k.block i (Nat.lt_of_lt_of_le hi h.size) hs).trans (h.block i hi hs)⟩
theorem q9.trans'{S T:Nat->Prop}{a b c:World}(h:q9 S a b)(k:q9 T b c)(hT:∀ i,i<a.heap.size->T i->S i):q9 S a c :=
 ⟨k.os.trans h.os,k.tape.trans h.tape,k.output.trans h.output,Nat.le_trans h.size k.size,fun i hi hs=>(k.block i (Nat.lt_of_lt_of_le hi h.size) (fun t=>hs (hT i hi t))).trans (h.block i hi hs)⟩
theorem q9.mono{S T:Nat->Prop}{a b:World}(h:q9 S a b)(hT:∀ i,i<a.heap.size->S i->T i):q9 T a b :=
 ⟨h.os,h.tape,h.output,h.size,fun i hi hs=>h.block i hi (fun s=>hs (hT i hi s))⟩
theorem q9.drew{S:Nat->Prop}{a w:World}(h:q9 S a w):q9 S a w.drew:=⟨h.os,h.tape,h.output,h.size,h.block⟩
theorem q9.drewN{S:Nat->Prop}{a w:World}(h:q9 S a w)(n:Nat):q9 S a (w.drewN n):=⟨h.os,h.tape,h.output,h.size,h.block⟩
theorem q9.alloc{S:Nat->Prop}{a w:World}(h:q9 S a w)(o:Obj):q9 S a (w.alloc o) :=
 h.trans ⟨rfl,rfl,rfl,by simp,fun k hk _=>Below.heap_alloc _ _ _ hk⟩
theorem q9.setCell{S:Nat->Prop}{a w:World}(h:q9 S a w){p:Addr}(hp:p.block<a.heap.size->S p.block)(u:Value):q9 S a (w.setCell p u) :=
 h.trans' (T:=fun i=>i=p.block) ⟨rfl,rfl,rfl,by simp[World.setCell],fun k _ hs=>Below.heap_setCell _ _ _ _ hs⟩ (fun i hi e=>by subst e;exact hp hi)
theorem q9.cell{S:Nat->Prop}{w w':World}(h:q9 S w w'){p:Addr}(hp:p.block<w.heap.size)(hs:¬S p.block):w'.cell? p=w.cell? p:=World.cell?_of_block (w:=w) (h.block p.block hp hs)
end Go.Proofs.YtegbdaffhpiacaaGreatDoor
