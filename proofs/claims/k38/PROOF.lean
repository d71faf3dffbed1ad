import PyProof.Rows.All
import Wide.All
import OpenK.AllK
import Wide.FinOn
import Lean
import PyProof.EqAt
import PyProof.EqKinds
import PyProof.TupleCall
import PyProof.DictCompW
import PyProof.Rows.Range3
import KE.KRevIter
import PyProof.AutoRange
import PyProof.FactsAll.range_2
import PyProof.Rows.CallKwBuiltin
import PyProof.ListRange
import PyProof.TupleOfGen
import PyProof.P3Eq
import PyProof.Rows.RowHeap
import PyProof.CollectIter
import PyProof.WalksMore
import PyProof.AutoSeq1
import KE.KListMore
import PyProof.AttrMissHeap
import KE.KDictOf
import KE.KSortTup
import PyProof.Rows.SortWalk
import PyProof.SumWalkG
import PyProof.DictWalks
import KE.KDictSum
import PyProof.SetKind
import PyProof.SetRoads
import PyProof.Rows.SetFrom
import PySem.Challenge.RW_keepwhole_k38_sums_shown
open PySem renaming wpAny_bind → Γa
open PySem renaming wpAny_pure → Γb
open PySem.Heap renaming get?_push_of_some → Γc
open PySem.W renaming Frag → Γd
open PySem.Str renaming ofString → Γe
open PySem.Heap renaming get?_update_other → Γf
open PySem renaming wpAny_holding → Γg
local macro_rules | `(tactic| nofun) => `(tactic| decide +kernel)
set_option Elab.async false
set_option linter.all false
set_option maxRecDepth 100000
section
namespace L2
open PySem PySem.Spec PyProof.Rows
abbrev Key:=Sum Int Str
def b4k:Key→Value→Bool
 | .inl k,v=>Value.isInt k v
 | .inr x,v=>Value.isStrOf x v
def keyH (w:World):Key→Int
 | .inl k=>hashInt k
 | .inr x=>hashStr w x
theorem a0y:∀ {k:Key} {v:Value},b4k k v=true→(∃ i t,k=Sum.inl i∧v=Value.int i t) ∨ (∃ x t,k=Sum.inr x∧v=Value.str x t)
 | .inl i,v,h=>by
  obtain ⟨t,e⟩:=Value.isInt_shape (k:=i) (v:=v) h
  exact .inl ⟨i,t,rfl,e⟩
 | .inr x,v,h=>by
  obtain ⟨t,e⟩:=Value.isStrOf_shape (x:=x) (v:=v) h
  exact .inr ⟨x,t,rfl,e⟩
theorem b7p (i:Int) (t:Tok):b4k (.inl i) (.int i t)=true:=by simp [b4k,Value.isInt]
theorem b7o (x:Str) (t:Tok):b4k (.inr x) (.str x t)=true:=by simp [b4k,Value.isStrOf]
theorem d0p (a b:Int):decide ((Sum.inl a:Key)=Sum.inl b)=(a == b):=by
 by_cases e:a=b
 ·subst e; simp
 ·have h:¬ (Sum.inl a:Key)=Sum.inl b:=fun q=>e (Sum.inl.inj q)
  rw [decide_eq_false h]
  exact (beq_eq_false_iff_ne.mpr e).symm
theorem d0m (a b:Str):decide ((Sum.inr a:Key)=Sum.inr b)=decide (a=b):=by
 by_cases e:a=b
 ·subst e; simp
 ·have h:¬ (Sum.inr a:Key)=Sum.inr b:=fun q=>e (Sum.inr.inj q)
  rw [decide_eq_false h,decide_eq_false e]
theorem d0o (a:Int) (b:Str):decide ((Sum.inl a:Key)=Sum.inr b)=false:=decide_eq_false (fun q=>nomatch q)
theorem d0n (a:Str) (b:Int):decide ((Sum.inr a:Key)=Sum.inl b)=false:=decide_eq_false (fun q=>nomatch q)
def a1h (prog:Program) (w:World):PySem.KeyKind prog w Key where
 is:=b4k
 hash:=keyH w
 inj:=fun v a b ha hb=>by
  rcases a0y ha with ⟨i,t,rfl,rfl⟩ | ⟨x,t,rfl,rfl⟩
  ·rcases a0y hb with ⟨j,u,rfl,e⟩ | ⟨y,u,rfl,e⟩
   ·injection e with e1 _; rw [e1]
   ·exact nomatch e
  ·rcases a0y hb with ⟨j,u,rfl,e⟩ | ⟨y,u,rfl,e⟩
   ·exact nomatch e
   ·injection e with e1 _; rw [e1]
 byValue:=fun k v h=>by
  rcases a0y h with ⟨i,t,rfl,rfl⟩ | ⟨x,t,rfl,rfl⟩ <;> rfl
 pyHash:=fun hv h=>by
  rcases a0y hv with ⟨i,t,rfl,rfl⟩ | ⟨x,t,rfl,rfl⟩
  ·exact wpAny_pyHash_int h
  ·exact wpAny_pyHash_str h
 eqBool:=fun hu hv h=>by
  rcases a0y hu with ⟨i,t,rfl,rfl⟩ | ⟨x,t,rfl,rfl⟩
  ·rcases a0y hv with ⟨j,u,rfl,rfl⟩ | ⟨y,u,rfl,rfl⟩
   ·rw [d0p] at h; exact wpAny_eqBool_int h
   ·rw [d0o] at h; exact SeqAt.EqAt.int_str i t y u _ _ _ _ h
  ·rcases a0y hv with ⟨j,u,rfl,rfl⟩ | ⟨y,u,rfl,rfl⟩
   ·rw [d0n] at h; exact SeqAt.EqAt.str_int x t j u _ _ _ _ h
   ·rw [d0m] at h; exact wpAny_eqBool_str h
 «strs»:=fun k x t v h=>by
  rcases a0y h with ⟨i,u,rfl,e⟩ | ⟨y,u,rfl,e⟩
  ·exact nomatch e
  ·injection e with e1 _
   subst e1
   cases v <;> rfl
theorem b1b (prog:Program) (w:World) (i:Int) (t:Tok):(a1h prog w).is (.inl i) (.int i t)=true:=b7p i t
theorem b1a (prog:Program) (w:World) (x:Str) (t:Tok):(a1h prog w).is (.inr x) (.str x t)=true:=b7o x t
end L2
namespace L2
open PySem PySem.Spec PyProof.Rows
inductive V where
 | non | bl (b:Bool) | int (i:Int) | str (x:Str) | byt (b:Array UInt8) | flt (b:UInt64) | ref (a:Addr) | ty (n:String)
 deriving DecidableEq
def RelV:V→Value→Prop
 | .non,u=>u=Value.none
 | .bl b,u=>u=Value.bool b
 | .int i,u=>∃ t,u=Value.int i t
 | .str x,u=>∃ t,u=Value.str x t
 | .byt b,u=>∃ t,u=Value.bytes b t
 | .flt b,u=>∃ t,u=Value.float b t
 | .ref a,u=>u=Value.ref a
 | .ty n,u=>u=Value.type n
abbrev Vals:List V→List Value→Prop:=Paired RelV
theorem Vals.length {xs:List V} {us:List Value} (r:Vals xs us):xs.length=us.length:=Paired.length r
theorem Vals.get:∀ {xs:List V} {us:List Value} {i:Nat} {x:V},Vals xs us→xs[i]?=some x→∃ u,us[i]?=some u∧RelV x u
 | _,_,_,_,.nil,e=>by simp at e
 | _,_,0,_,.cons r _,e=>by simp at e; subst e; exact ⟨_,rfl,r⟩
 | _,_,i + 1,x,.cons _ t,e=>by
  obtain ⟨u,h1,h2⟩:=Vals.get (i:=i) (x:=x) t (by simpa using e)
  exact ⟨u,by simpa using h1,h2⟩
theorem Vals.set {x:V} {u:Value} (r:RelV x u):∀ {xs:List V} {us:List Value} (i:Nat),Vals xs us→Vals (xs.set i x) (us.set i u)
 | _,_,_,.nil=>.nil
 | _,_,0,.cons _ t=>.cons r t
 | _,_,i + 1,.cons q t=>.cons q (Vals.set r i t)
theorem Vals.append:∀ {xs ys:List V} {us ws:List Value},Vals xs us→Vals ys ws→Vals (xs++ys) (us++ws)
 | _,_,_,_,.nil,s=>s
 | _,_,_,_,.cons r t,s=>.cons r (Vals.append t s)
theorem Vals.take:∀ {xs:List V} {us:List Value} (n:Nat),Vals xs us→Vals (xs.take n) (us.take n)
 | _,_,0,_=>.nil
 | _,_,_ + 1,.nil=>.nil
 | _,_,n + 1,.cons r t=>.cons r (Vals.take n t)
theorem Vals.drop:∀ {xs:List V} {us:List Value} (n:Nat),Vals xs us→Vals (xs.drop n) (us.drop n)
 | _,_,0,r=>r
 | _,_,_ + 1,.nil=>.nil
 | _,_,n + 1,.cons _ t=>Vals.drop n t
def RelO:Option V→Option Value→Prop
 | some v,some u=>RelV v u
 | none,none=>True
 | _,_=>False
def KV {κ:Type}:List (κ×V)→List (κ×Value)→Prop:=Paired fun (p:κ×V) (q:κ×Value)=>p.1=q.1∧RelV p.2 q.2
def kV:Key→V
 | .inl i=>.int i
 | .inr x=>.str x
inductive HO where
 | lst (xs:List V)
 | tup (xs:List V)
 | dK (kvs:List (Key×V)) | dT (kvs:List (List Key×V))
 | set (S:Int→Bool) (n:Nat)
 | ins (C dx:Addr) (fs:List (Str×V))
 | own (x:Addr)
 | xd (fs:List (Str×V))
 | met (f x:Addr)
 | rng (lo hi:Int)
 | frz (o:Obj) (u:HO)
 | tbl (ps:Array Value)
 | ext (φ:Heap→Prop)
abbrev Hp:=Addr→Option HO
def upd (H:Hp) (a:Addr) (o:HO):Hp:=fun b=>if b=a then some o else H b
theorem a0f {H:Hp} {a:Addr} {o:HO}:upd H a o a=some o:=by unfold upd; rw [if_pos rfl]
theorem a0e {H:Hp} {a b:Addr} {o:HO} (h:b≠a):upd H a o b=H b:=by unfold upd; rw [if_neg h]
theorem d0g {H:Hp} {a b:Addr} {o u:HO} (h:H a=some o) (h':H b=some u) (d:o≠u):a≠b:=by
 intro e; subst e; rw [h] at h'; exact d (Option.some.inj h')
theorem a0w {H:Hp} {a b:Addr} {o:HO} (h:H a=some o) (h':H b=none):a≠b:=by
 intro e; subst e; rw [h] at h'; cases h'
section
variable (P:Program) (w:World)
def ObjOk (H:Hp) (h:Heap) (a:Addr):HO→Prop
 | .lst xs=>xs.length≤sizeLine∧∃ (its:List Value) (n:Nat),Vals xs its∧h.get? a=some { cls:=.type "list",data:=.seq its.toArray n }
 | .tup xs=>xs.length≤sizeLine∧∃ its:List Value,Vals xs its∧IsTup h a its.toArray
 | .dK kvs=>kvs.length≤sizeLine∧(a == sysModules)=false∧∃ vs,KV kvs vs∧h.DictOf (a1h P w) a vs
 | .dT kvs=>kvs.length≤sizeLine∧(a == sysModules)=false∧∃ xs:List (List Key×Addr×Value),
   Paired (fun (p:List Key×V) (q:List Key×Addr×Value)=>p.1=q.1∧H q.2.1=some (.tup (p.1.map kV))∧RelV p.2 q.2.2) kvs xs ∧
   ∃ o es ep,h.get? a=some o∧o.ExactDict∧o.data=.dict es ep∧es.toList=xs.map (entryOfKey (tupleKind (a1h P w)))∧(xs.map (·.1)).Nodup
 | .set S n=>h.SetOf (intKind P w) a S n
 | .ins C dx fs=>H dx=some (.own a)∧fs.length≤1000∧dx≠a∧h.get? a=some (PySem.W.instObj C dx) ∧
   ∃ mA,h.Ns1 dx mA∧(∀ f,RelO (fs.lookup f) (mA f))∧PySem.Within mA (fs.map (·.1))
 | .own _=>∃ o,h.get? a=some o
 | .xd fs=>∃ mA,h.Ns1 a mA∧∀ f,RelO (fs.lookup f) (mA f)
 | .rng lo hi=>∃ t u v,h.get? a=some { cls:=.type "range",data:=.fields #[.int lo t,.int hi u,.int 1 v] }
 | .frz o u=>h.get? a=some o∧ObjOk H h a u
 | .tbl ps=>h.get? a=some { cls:=.none,data:=.fields ps }
 | .met f x=>h.get? a=some (PySem.W.methodObj (.ref f) (.ref x))
 | .ext φ=>φ h∧(∃ o,h.get? a=some o)∧∀ h1 h2:Heap,φ h1→(∀ o,h1.get? a=some o→h2.get? a=some o)→φ h2
def HOk (H:Hp) (h:Heap):Prop:=∀ a o,H a=some o→ObjOk P w H h a o
end
section
variable {P:Program} {w:World} {H H':Hp} {h h':Heap} {a:Addr} {o:HO}
theorem ObjOk.lt (x:ObjOk P w H h a o):a < h.objs.size:=by
 cases o with
 | lst xs=>obtain ⟨_,_,_,_,e⟩:=x; exact Heap.lt_size e
 | tup xs=>obtain ⟨_,_,_,p⟩:=x; exact p.lt
 | dK kvs=>obtain ⟨_,_,_,_,o,_,_,e,_⟩:=x; exact Heap.lt_size e
 | dT kvs=>obtain ⟨_,_,_,_,o,_,_,e,_⟩:=x; exact Heap.lt_size e
 | set S n=>obtain ⟨o,_,_,_,e,_⟩:=x; exact Heap.lt_size e
 | ins C dx fs=>obtain ⟨_,_,_,e,_⟩:=x; exact Heap.lt_size e
 | own y=>obtain ⟨_,e⟩:=x; exact Heap.lt_size e
 | xd fs=>obtain ⟨_,⟨_,_,_,e,_⟩,_⟩:=x; exact Heap.lt_size e
 | rng lo hi=>obtain ⟨_,_,_,e⟩:=x; exact Heap.lt_size e
 | frz ob u=>obtain ⟨e,_⟩:=x; exact Heap.lt_size e
 | tbl ps=>exact Heap.lt_size (show h.get? a=some _ from x)
 | met f y=>exact Heap.lt_size (show h.get? a=some _ from x)
 | ext φ=>obtain ⟨_,⟨_,e⟩,_⟩:=x; exact Heap.lt_size e
theorem Paired.mapP {α β:Type} {F G:α→β→Prop}:∀ {l₁:List α} {l₂:List β},Paired F l₁ l₂→(∀ a b,F a b→G a b)→Paired G l₁ l₂
 | _,_,.nil,_=>.nil
 | _,_,.cons r t,f=>.cons (f _ _ r) (Paired.mapP t f)
theorem ObjOk.stay (x:ObjOk P w H h a o) (k:∀ b u,(b=a ∨ H b=some (.own a))→h.get? b=some u→h'.get? b=some u)
  (ho:∀ b,H b=some (.own a)→H' b=some (.own a)) (ht:∀ b xs,H b=some (.tup xs)→H' b=some (.tup xs)):ObjOk P w H' h' a o:=by
 induction o with
 | lst xs=>obtain ⟨z,its,n,r,e⟩:=x; exact ⟨z,its,n,r,k _ _ (.inl rfl) e⟩
 | tup xs=>obtain ⟨z,its,r,ob,e,c⟩:=x; exact ⟨z,its,r,ob,k _ _ (.inl rfl) e,c⟩
 | dK kvs=>obtain ⟨z,y,vs,r,ob,es,ep,e,c⟩:=x; exact ⟨z,y,vs,r,ob,es,ep,k _ _ (.inl rfl) e,c⟩
 | dT kvs =>
  obtain ⟨z,y,xs,r,ob,es,ep,e,c⟩:=x
  exact ⟨z,y,xs,Paired.mapP r fun p q z=>⟨z.1,ht _ _ z.2.1,z.2.2⟩,ob,es,ep,k _ _ (.inl rfl) e,c⟩
 | set S n=>obtain ⟨ob,es,ep,t,e,c⟩:=x; exact ⟨ob,es,ep,t,k _ _ (.inl rfl) e,c⟩
 | ins C dx fs =>
  obtain ⟨d,z,ne,e,mA,⟨od,es,ep,e2,c⟩,r⟩:=x
  exact ⟨ho _ d,z,ne,k _ _ (.inl rfl) e,mA,⟨od,es,ep,k _ _ (.inr d) e2,c⟩,r⟩
 | own y=>obtain ⟨ob,e⟩:=x; exact ⟨ob,k _ _ (.inl rfl) e⟩
 | xd fs=>obtain ⟨mA,⟨od,es,ep,e,c⟩,r⟩:=x; exact ⟨mA,⟨od,es,ep,k _ _ (.inl rfl) e,c⟩,r⟩
 | rng lo hi=>obtain ⟨t,u,v,e⟩:=x; exact ⟨t,u,v,k _ _ (.inl rfl) e⟩
 | frz ob u ih=>obtain ⟨e,q⟩:=x; exact ⟨k _ _ (.inl rfl) e,ih q⟩
 | tbl ps =>
  have e:h.get? a=some { cls:=.none,data:=.fields ps }:=x
  show h'.get? a=some { cls:=.none,data:=.fields ps }
  exact k a _ (.inl rfl) e
 | met f y =>
  have e:h.get? a=some (PySem.W.methodObj (.ref f) (.ref y)):=x
  show h'.get? a=some (PySem.W.methodObj (.ref f) (.ref y))
  exact k a _ (.inl rfl) e
 | ext φ=>obtain ⟨p,⟨o,e⟩,st⟩:=x; exact ⟨st _ _ p fun o q=>k _ _ (.inl rfl) q,⟨o,k _ _ (.inl rfl) e⟩,st⟩
theorem HOk.lt (x:HOk P w H h) (e:H a=some o):a < h.objs.size:=(x a o e).lt
theorem HOk.fresh (x:HOk P w H h) (e:h.objs.size≤a):H a=none:=by
 cases q:H a with
 | none=>rfl
 | some u=>exact absurd (Nat.lt_of_lt_of_le (x.lt q) e) (Nat.lt_irrefl _)
theorem HOk.kept (x:HOk P w H h) (k:∀ b u,h.get? b=some u→h'.get? b=some u):HOk P w H h':=fun a o e =>
 (x a o e).stay (fun b u _ q=>k b u q) (fun _ q=>q) fun _ _ q=>q
theorem HOk.laid (x:HOk P w H h) (k:∀ b u,h.get? b=some u→h'.get? b=some u) (hp:h.objs.size≤a) (new:ObjOk P w (upd H a o) h' a o):HOk P w (upd H a o) h':=fun b u e=>by
 have hn:=x.fresh hp
 by_cases hb:b=a
 ·subst hb; rw [a0f] at e; cases e; exact new
 ·rw [a0e hb] at e
  exact (x b u e).stay (fun c v _ q=>k c v q) (fun c q=>by rw [a0e (a0w q hn)]; exact q) fun c xs q=>by rw [a0e (a0w q hn)]; exact q
end
def Rd (H:Hp) (a:Addr) (u:HO):Prop:=H a=some u ∨ ∃ o,H a=some (.frz o u)
theorem Rd.ok {P:Program} {w:World} {H:Hp} {h:Heap} {a:Addr} {u:HO} (r:Rd H a u) (x:HOk P w H h):ObjOk P w H h a u:=by
 rcases r with r | ⟨o,r⟩
 ·exact x a u r
 ·obtain ⟨_,q⟩:=x a _ r
  exact q
def Mut:Option HO→Prop
 | some (.lst _)=>True
 | some (.dK _)=>True
 | some (.dT _)=>True
 | some (.set _ _)=>True
 | some (.ins _ _ _)=>True
 | some (.ext _)=>True
 | _=>False
section
variable {P:Program} {w:World} {H:Hp} {h h':Heap} {x e:Addr} {o':HO}
theorem HOk.write (ok:HOk P w H h) (mu:Mut (H x)) (he:e=x ∨ H e=some (.own x)) (k:∀ b u,b≠e→h.get? b=some u→h'.get? b=some u) (heo:∃ u,h'.get? e=some u)
  (new:ObjOk P w (upd H x o') h' x o'):HOk P w (upd H x o') h':=fun b u q=>by
 have nown:∀ c y,H c=some (.own y)→c≠x:=fun c y r z=>by subst z; rw [r] at mu; exact mu
 have ntup:∀ c xs,H c=some (.tup xs)→c≠x:=fun c xs r z=>by subst z; rw [r] at mu; exact mu
 by_cases hb:b=x
 ·subst hb; rw [a0f] at q; cases q; exact new
 ·rw [a0e hb] at q
  by_cases hbe:b=e
  ·have q':H b=some (.own x):=by
    rcases he with z | z
    ·exact absurd (hbe.trans z) hb
    ·rw [hbe]; exact z
   rw [q] at q'; cases q'
   obtain ⟨v,hv⟩:=heo
   exact ⟨v,by rw [hbe]; exact hv⟩
  ·refine (ok b u q).stay (fun c v hc r=>k c v ?_ r) (fun c r=>by rw [a0e (nown c b r)]; exact r) fun c xs r=>by rw [a0e (ntup c xs r)]; exact r
   rcases hc with rfl | hc
   ·exact hbe
   ·rintro rfl
    rcases he with z | z
    ·exact nown c b hc z
    ·rw [hc] at z; cases z; exact hb rfl
end
structure Un (fs ex:List Addr) (H H':Hp) (h h':Heap):Prop where
 keep:∀ b o,h.get? b=some o→H b=none→b ∉ fs→b ∉ ex→h'.get? b=some o
 slot:∀ b o,h.get? b=some o→H b=none→b∈fs→b ∉ ex→∃ sl,h'.get? b=some { o with slots:=sl }
 free:∀ b o,h.get? b=some o→H b=none→b ∉ ex→H' b=none
 there:∀ b o,h.get? b=some o→b ∉ ex→∃ o',h'.get? b=some o'
 tups:∀ b xs,H b=some (.tup xs)→H' b=some (.tup xs)
 frzs:∀ b o u,H b=some (.frz o u)→H' b=some (.frz o u)
 tbls:∀ b ps,H b=some (.tbl ps)→∃ more,H' b=some (.tbl (ps++more))
section
variable {fs fs' ex ex':List Addr} {H H1 H2:Hp} {h h1 h2 h':Heap} {a x e:Addr} {o:HO}
theorem Un.any (u:Un fs ex H H1 h h1) {b:Addr} {ob:Obj} (q:h.get? b=some ob) (n:H b=none) (hx:b ∉ ex):∃ sl,h1.get? b=some { ob with slots:=sl }:=by
 by_cases hb:b∈fs
 ·exact u.slot b ob q n hb hx
 ·exact ⟨ob.slots,u.keep b ob q n hb hx⟩
theorem Un.trans (a:Un fs ex H H1 h h1) (b:Un fs ex H1 H2 h1 h2):Un fs ex H H2 h h2 where
 keep:=fun c ob q n hc hx=>b.keep c ob (a.keep c ob q n hc hx) (a.free c ob q n hx) hc hx
 slot:=fun c ob q n hc hx=>by
  obtain ⟨sl,e1⟩:=a.slot c ob q n hc hx
  obtain ⟨sl',e2⟩:=b.slot c _ e1 (a.free c ob q n hx) hc hx
  exact ⟨sl',e2⟩
 free:=fun c ob q n hx=>by
  obtain ⟨o',e1⟩:=a.there c ob q hx
  exact b.free c o' e1 (a.free c ob q n hx) hx
 there:=fun c ob q hx=>by
  obtain ⟨o',e1⟩:=a.there c ob q hx
  exact b.there c o' e1 hx
 tups:=fun c xs q=>b.tups c xs (a.tups c xs q)
 frzs:=fun c ob xs q=>b.frzs c ob xs (a.frzs c ob xs q)
 tbls:=fun c ps q=>by
  obtain ⟨m1,e1⟩:=a.tbls c ps q
  obtain ⟨m2,e2⟩:=b.tbls c _ e1
  exact ⟨m1++m2,by rw [e2,Array.append_assoc]⟩
theorem Un.kept (k:∀ b u,h.get? b=some u→h'.get? b=some u):Un fs ex H H h h' :=
 ⟨fun b ob q _ _ _=>k b ob q,fun b ob q _ _ _=>⟨ob.slots,k b ob q⟩,fun _ _ _ n _=>n,fun b ob q _=>⟨ob,k b ob q⟩,fun _ _ q=>q,fun _ _ _ q=>q,fun _ ps q=>⟨#[],by rw [q]; simp⟩⟩
theorem Un.refl:Un fs ex H H h h:=Un.kept fun _ _ q=>q
theorem Un.laid (k:∀ b u,h.get? b=some u→h'.get? b=some u) (hp:h.objs.size≤a) (hn:H a=none):Un fs ex H (upd H a o) h h' where
 keep:=fun b u q _ _ _=>k b u q
 slot:=fun b u q _ _ _=>⟨u.slots,k b u q⟩
 free:=fun b u q n _=>by rw [a0e (Nat.ne_of_lt (Nat.lt_of_lt_of_le (Heap.lt_size q) hp))]; exact n
 there:=fun b u q _=>⟨u,k b u q⟩
 tups:=fun b xs q=>by rw [a0e (a0w q hn)]; exact q
 frzs:=fun b u xs q=>by rw [a0e (a0w q hn)]; exact q
 tbls:=fun b ps q=>⟨#[],by rw [a0e (a0w q hn),q]; simp⟩
theorem Un.write (mu:Mut (H x)) (he:e=x ∨ H e=some (.own x)) (k:∀ b u,b≠e→h.get? b=some u→h'.get? b=some u) (heo:∃ u,h'.get? e=some u):Un fs ex H (upd H x o) h h':=by
 have hx:∀ b,H b=none→b≠x:=fun b n z=>by subst z; rw [n] at mu; exact mu
 have hb:∀ b,H b=none→b≠e:=fun b n z=>by
  subst z
  rcases he with r | r
  ·exact hx b n r
  ·rw [n] at r; cases r
 have hm:∀ b u,H b=some u→¬ Mut (some u)→b≠x:=fun b u q nm z=>by subst z; rw [q] at mu; exact nm mu
 refine ⟨fun b u q n _ _=>k b u (hb b n) q,fun b u q n _ _=>⟨u.slots,k b u (hb b n) q⟩,fun b u q n _=>by rw [a0e (hx b n)]; exact n,fun b u q _=>?_,
  fun b xs q=>by rw [a0e (hm b _ q fun z=>z)]; exact q,fun b u xs q=>by rw [a0e (hm b _ q fun z=>z)]; exact q,fun b ps q=>⟨#[],by rw [a0e (hm b _ q fun z=>z),q]; simp⟩⟩
 by_cases hbe:b=e
 ·subst hbe; exact heo
 ·exact ⟨u,k b u hbe q⟩
theorem Un.mono (u:Un fs ex H H1 h h1) (hs:∀ b∈fs,b∈fs') (hx:∀ b∈ex,b∈ex'):Un fs' ex' H H1 h h1 :=
 ⟨fun b ob q n hb he=>u.keep b ob q n (fun z=>hb (hs b z)) fun z=>he (hx b z),fun _ _ q n _ he=>u.any q n fun z=>he (hx _ z),fun b ob q n he=>u.free b ob q n fun z=>he (hx b z),fun b ob q he=>u.there b ob q fun z=>he (hx b z),u.tups,u.frzs,u.tbls⟩
end
def trk (h:Heap) (H:Hp):List Addr:=(List.range h.objs.size).filter fun a=>(H a).isSome
def c1p (h:Heap) (H:Hp):Heap:=PySem.W.hideAll h (trk h H)
theorem b7x (h:Heap) (H:Hp):(c1p h H).objs.size=h.objs.size:=PySem.W.hideAll_size _ _
theorem c1o {h:Heap} {H:Hp} {b:Addr} {o:Obj} (e:h.get? b=some o) (n:H b=none):(c1p h H).get? b=some o :=
 PySem.W.hideAll_get _ e fun hm=>by
  have q:(H b).isSome=true:=(List.mem_filter.mp hm).2
  rw [n] at q; simp at q
theorem c5u {h:Heap} {H:Hp} {b:Addr} {o:Obj} (e:(c1p h H).get? b=some o):h.get? b=some o∧H b=none:=by
 have e':h.get? b=some o:=PySem.W.of_hideAll (trk h H) e
 refine ⟨e',?_⟩
 cases q:H b with
 | none=>rfl
 | some x =>
  have hm:b∈trk h H:=List.mem_filter.mpr ⟨List.mem_range.mpr (Heap.lt_size e'),by simp [q]⟩
  have z:(c1p h H).get? b=none:=PySem.W.hideAll_none (trk h H) hm
  rw [z] at e; cases e
def c7q (g h:Heap) (L:Addr):List (Addr×Obj):=(List.range h.objs.size).filterMap fun a=>if a=L ∨ (g.get? a).isSome=true then none else (h.get? a).map fun o=>(a,o)
def rest (g h:Heap) (L d:Addr):List (Addr×Obj):=(c7q g h L).filter fun p=>decide (p.1≠d)
end L2
namespace L2
open PySem PySem.Spec PyProof.Rows
structure Mod (K:Γd) (mg:Str→Option Value) (base:Heap):Prop where
 kin:K.In base
 glob:base.Ns mainGlobals mg
 blt:∃ mb,base.Ns builtinsNs mb∧∀ x:Str,x≠"__name__"→mb x=bootBuiltins x
 nolimit:base.NoLimit
structure Cx where
 prog:Program
 w:World
 K:Γd
 mg:Str→Option Value
 base:Heap
 A:Around
 N:List Str
 s₀:Shared
 H₀:Hp
 env:Env
 outer:List Env
 stack:List Env
 ex:List Addr
 fn:Str→Bool
 calm:Bool
 pn:List (Addr×Obj)
 xe:Value→Shared→Prop
def frs (l:List Env):List Addr:=l.filterMap (·.frame)
abbrev Cx.fs (X:Cx):List Addr:=frs X.outer
def Vis (sc:Scope) (x:Str):Prop:=sc.names.lookup x=some .local ∨ sc.names.lookup x=some .cell ∨ sc.names.lookup x=some .free
def Loc (sc:Scope) (x:Str):Prop:=sc.names.lookup x=some .local ∨ sc.names.lookup x=some .cell
def Look (env:Env) (h:Heap) (m:Str→Option Value) (x:Str) (u:Value):Prop :=
 (env.kindOf x=some .local∧m x=some u) ∨ ((env.kindOf x=some .cell ∨ env.kindOf x=some .free)∧∃ c,env.cells.lookup x=some c∧h.IsCell c (some u))
structure Cx.Ok (X:Cx):Prop where
 mod:Mod X.K X.mg X.base
 kind:X.env.scope.kind=.function
 glob:X.env.globals=mainGlobals
 blt:X.env.builtins=builtinsNs
 above:X.s₀.heap.objs.size≤X.env.locals
 inj:∀ x y c,X.env.cells.lookup x=some c→X.env.cells.lookup y=some c→x=y
 has:∀ x,(X.env.kindOf x=some .cell ∨ X.env.kindOf x=some .free)→∃ c,X.env.cells.lookup x=some c
 cab:∀ x c,X.fn x=true→X.env.cells.lookup x=some c→X.s₀.heap.objs.size≤c
 hd:X.calm=true→X.A.handled=none
 frames:X.A.frames=some X.stack
 stk:X.stack=X.outer ∨ (X.stack=X.env :: X.outer∧X.env.frame=some X.env.locals)
 exf:∀ b∈X.ex,b≠X.env.locals∧∀ x c,X.env.cells.lookup x=some c→c≠b
 bs:∀ b o,X.base.get? b=some o→X.s₀.heap.get? b=some o∧X.H₀ b=none
 bsz:X.base.objs.size≤X.s₀.heap.objs.size
 noex:∀ b o,X.base.get? b=some o→b ∉ X.ex
 exfs:∀ b∈X.ex,b ∉ X.fs
 funs:X.s₀.heap.FunFrames X.base X.outer
 frf:∀ b∈X.fs,X.H₀ b=none
structure Inv (X:Cx) (pins:List (Addr×Obj)) (σ:List (Option V)) (H:Hp) (s:Shared):Prop where
 ok:X.Ok
 os:s.os=X.s₀.os
 bare:AllBare s.gens
 base:Un X.fs X.ex X.H₀ H X.s₀.heap s.heap
 loc:∃ m,s.heap.Ns X.env.locals m∧∀ (i:Nat) (x:Str) (v:V),X.N[i]?=some x→σ[i]?=some (some v)→Vis X.env.scope x→∃ u,RelV v u∧Look X.env s.heap m x u
 cell:∀ x c,X.env.cells.lookup x=some c→∃ v,s.heap.IsCell c v
 free:H X.env.locals=none
 freeC:∀ x c,X.env.cells.lookup x=some c→H c=none
 pin:∀ p∈X.pn++pins,s.heap.get? p.1=some p.2∧H p.1=none∧p.1≠X.env.locals∧p.1 ∉ X.fs∧∀ v,p.2.data≠.cell v
 hok:HOk X.prog X.w H s.heap
 len:σ.length=X.N.length
section
variable {X:Cx} {pins:List (Addr×Obj)} {σ:List (Option V)} {H H':Hp} {s:Shared} {h':Heap}
theorem Cx.Ok.nofr (ok:X.Ok) {b:Addr} {o:Obj} (e:X.base.get? b=some o):b ∉ X.fs:=fun hb=>by
 have:=(ok.funs.mem hb).1
 rw [e] at this; cases this
theorem Inv.bs (I:Inv X pins σ H s):∀ b o,X.base.get? b=some o→s.heap.get? b=some o∧H b=none:=fun b o e =>
 ⟨I.base.keep b o (I.ok.bs b o e).1 (I.ok.bs b o e).2 (I.ok.nofr e) (I.ok.noex b o e),I.base.free b o (I.ok.bs b o e).1 (I.ok.bs b o e).2 (I.ok.noex b o e)⟩
theorem Inv.bk (I:Inv X pins σ H s):∀ b o,X.base.get? b=some o→s.heap.get? b=some o:=fun b o e=>(I.bs b o e).1
theorem Inv.mod (I:Inv X pins σ H s):Mod X.K X.mg X.base:=I.ok.mod
theorem Inv.kIn (I:Inv X pins σ H s):X.K.In s.heap:=I.ok.mod.kin.keeps I.bk
theorem Inv.nolimit (I:Inv X pins σ H s):s.heap.NoLimit:=I.ok.mod.nolimit.keeps I.bk
theorem Inv.lt (I:Inv X pins σ H s):X.env.locals < s.heap.objs.size:=let ⟨_,hn,_⟩:=I.loc; hn.lt
theorem Inv.sz (I:Inv X pins σ H s):X.s₀.heap.objs.size≤s.heap.objs.size:=Nat.le_trans I.ok.above (Nat.le_of_lt I.lt)
theorem Inv.nofs (I:Inv X pins σ H s) {a:Addr} (h:s.heap.objs.size≤a):a ∉ X.fs:=fun hb=>by
 obtain ⟨_,o,ho,_⟩:=I.ok.funs.mem hb
 exact absurd (Nat.lt_of_lt_of_le (Heap.lt_size ho) (Nat.le_trans I.sz h)) (Nat.lt_irrefl _)
theorem Inv.cne (I:Inv X pins σ H s):∀ x c,X.env.cells.lookup x=some c→c≠X.env.locals:=fun x c e z=>by
 obtain ⟨v,o,ho,hd⟩:=I.cell x c e
 obtain ⟨m,⟨o',es,ep,ho',hd',_⟩,_⟩:=I.loc
 rw [z,ho'] at ho; cases ho; rw [hd'] at hd; cases hd
theorem Inv.funs (I:Inv X pins σ H s):s.heap.FunFrames X.base X.outer:=by
 have all:∀ (l:List Env),(∀ b∈frs l,b∈X.fs)→X.s₀.heap.FunFrames X.base l→s.heap.FunFrames X.base l:=by
  intro l
  induction l with
  | nil=>intro _ _; trivial
  | cons env r ih =>
   intro hs hl
   obtain ⟨hk,⟨L,o,hf,hn,ho,hd⟩,hr⟩:=hl
   have hL:L∈X.fs:=hs L (by unfold frs; rw [List.filterMap_cons,hf]; exact List.mem_cons_self)
   obtain ⟨sl,e⟩:=I.base.slot L o ho (I.ok.frf L hL) hL fun z=>I.ok.exfs L z hL
   exact ⟨hk,⟨L,_,hf,hn,e,hd⟩,ih (fun b hb=>hs b (by unfold frs; rw [List.filterMap_cons,hf]; exact List.mem_cons_of_mem _ hb)) hr⟩
 exact all X.outer (fun _ hb=>hb) I.ok.funs
theorem Inv.stack (I:Inv X pins σ H s):s.heap.FunFrames X.base X.stack:=by
 rcases I.ok.stk with e | ⟨e,hf⟩
 ·rw [e]; exact I.funs
 ·rw [e]
  obtain ⟨m,hn,_⟩:=I.loc
  refine .cons (by rw [I.ok.kind]; decide) hf hn ?_ I.funs
  exact Heap.get?_none_of_le (Nat.le_trans I.ok.bsz I.ok.above)
theorem Inv.stkSub (I:Inv X pins σ H s):∀ b∈frs X.stack,b∈X.env.locals :: X.fs:=fun b hb=>by
 rcases I.ok.stk with e | ⟨e,hf⟩
 ·rw [e] at hb; exact List.mem_cons_of_mem _ hb
 ·rw [e] at hb
  unfold frs at hb
  rw [List.filterMap_cons,hf] at hb
  exact hb
theorem Inv.stkFree (I:Inv X pins σ H s):∀ b∈frs X.stack,H b=none:=fun b hb=>by
 rcases List.mem_cons.mp (I.stkSub b hb) with e | hb
 ·rw [e]; exact I.free
 ·obtain ⟨_,o,ho,_⟩:=I.ok.funs.mem hb
  exact I.base.free b o ho (I.ok.frf b hb) fun z=>I.ok.exfs b z hb
theorem Inv.step {g':Array GenState} {t':Nat} {d':Drawn} {ch:List Addr} (I:Inv X pins σ H s)
  (hch:∀ b∈ch,(b∈X.ex ∨ X.s₀.heap.objs.size≤b)∧b≠X.env.locals∧(∀ x c,X.env.cells.lookup x=some c→c≠b)∧∀ p∈X.pn++pins,p.1≠b)
  (keep:∀ b o,b≠X.env.locals→b ∉ X.fs→b ∉ ch→s.heap.get? b=some o→H b=none→h'.get? b=some o)
  (slot:∀ b o,b≠X.env.locals→b∈X.fs→b ∉ ch→s.heap.get? b=some o→H b=none→∃ sl,h'.get? b=some { o with slots:=sl }) (free:∀ b o,b ∉ ch→s.heap.get? b=some o→H b=none→H' b=none)
  (there:∀ b o,b ∉ ch→s.heap.get? b=some o→∃ o',h'.get? b=some o')
  (tups:∀ b xs,H b=some (.tup xs)→H' b=some (.tup xs)) (frzs:∀ b o u,H b=some (.frz o u)→H' b=some (.frz o u)) (tbls:∀ b ps,H b=some (.tbl ps)→∃ more,H' b=some (.tbl (ps++more)))
  (ns:∀ m,s.heap.Ns X.env.locals m→h'.Ns X.env.locals m) (hok:HOk X.prog X.w H' h') (hg:AllBare g') :
  Inv X pins σ H' { s with heap:=h',gens:=g',drawn:=d',toks:=t' }:=by
 have neL:∀ b o,X.s₀.heap.get? b=some o→b≠X.env.locals:=fun b o e=>Nat.ne_of_lt (Nat.lt_of_lt_of_le (Heap.lt_size e) I.ok.above)
 have neC:∀ b o,X.s₀.heap.get? b=some o→b ∉ X.ex→b ∉ ch:=fun b o e hx hb=>by
  rcases (hch b hb).1 with z | z
  ·exact hx z
  ·exact absurd (Nat.lt_of_lt_of_le (Heap.lt_size e) z) (Nat.lt_irrefl _)
 have cellK:∀ x c,X.env.cells.lookup x=some c→∀ v,s.heap.IsCell c v→h'.IsCell c v:=fun x c e v ⟨o,ho,hd⟩=>by
  have nch:c ∉ ch:=fun z=>(hch c z).2.2.1 x c e rfl
  by_cases hc:c∈X.fs
  ·obtain ⟨sl,q⟩:=slot c o (I.cne x c e) hc nch ho (I.freeC x c e)
   exact ⟨_,q,hd⟩
  ·exact ⟨o,keep c o (I.cne x c e) hc nch ho (I.freeC x c e),hd⟩
 refine ⟨I.ok,I.os,hg,⟨fun b o e n hb hx=>?_,fun b o e n hb hx=>?_,fun b o e n hx=>?_,fun b o e hx=>?_,fun b xs e=>tups b xs (I.base.tups b xs e),fun b o xs e=>frzs b o xs (I.base.frzs b o xs e),fun b ps e=>?_⟩,?_,fun x c e=>?_,?_,fun x c e=>?_,fun p hp=>?_,hok,I.len⟩
 ·exact keep b o (neL b o e) hb (neC b o e hx) (I.base.keep b o e n hb hx) (I.base.free b o e n hx)
 ·obtain ⟨sl,e1⟩:=I.base.slot b o e n hb hx
  obtain ⟨sl',e2⟩:=slot b _ (neL b o e) hb (neC b o e hx) e1 (I.base.free b o e n hx)
  exact ⟨sl',e2⟩
 ·obtain ⟨o',e1⟩:=I.base.there b o e hx
  exact free b o' (neC b o e hx) e1 (I.base.free b o e n hx)
 ·obtain ⟨o',e1⟩:=I.base.there b o e hx
  exact there b o' (neC b o e hx) e1
 ·obtain ⟨m1,e1⟩:=I.base.tbls b ps e
  obtain ⟨m2,e2⟩:=tbls b _ e1
  exact ⟨m1++m2,by rw [e2,Array.append_assoc]⟩
 ·obtain ⟨m,hn,hl⟩:=I.loc
  refine ⟨m,ns m hn,fun i x v e1 e2 e3=>?_⟩
  obtain ⟨u,r,l⟩:=hl i x v e1 e2 e3
  refine ⟨u,r,?_⟩
  rcases l with l | ⟨k,c,e,z⟩
  ·exact .inl l
  ·exact .inr ⟨k,c,e,cellK x c e _ z⟩
 ·obtain ⟨v,z⟩:=I.cell x c e
  exact ⟨v,cellK x c e v z⟩
 ·obtain ⟨m,⟨o,_,_,ho,_⟩,_⟩:=I.loc
  exact free _ o (fun z=>(hch _ z).2.1 rfl) ho I.free
 ·obtain ⟨v,o,ho,hd⟩:=I.cell x c e
  exact free c o (fun z=>(hch c z).2.2.1 x c e rfl) ho (I.freeC x c e)
 ·obtain ⟨e,n,ne,nf,d⟩:=I.pin p hp
  have nch:p.1 ∉ ch:=fun z=>(hch p.1 z).2.2.2 p hp rfl
  exact ⟨keep p.1 p.2 ne nf nch e n,free p.1 p.2 nch e n,ne,nf,d⟩
theorem Inv.un {t':Nat} (I:Inv X pins σ H s) (u:Un X.fs [] H H' s.heap h') (hok:HOk X.prog X.w H' h'):Inv X pins σ H' { s with heap:=h',toks:=t' }:=by
 obtain ⟨m,⟨o,es,ep,ho,r⟩,_⟩:=id I.loc
 obtain ⟨sl,hL⟩:=u.any ho I.free (by simp)
 exact I.step (g':=s.gens) (d':=s.drawn) (ch:=[]) (fun _ z=>nomatch z) (fun b o _ hb _ e n=>u.keep b o e n hb (by simp)) (fun b o _ hb _ e n=>u.slot b o e n hb (by simp)) (fun b o _ e n=>u.free b o e n (by simp)) (fun b o _ e=>u.there b o e (by simp)) u.tups u.frzs u.tbls (fun m' hm=>by
  obtain ⟨o',es',ep',ho',r'⟩:=hm
  rw [ho] at ho'; cases ho'
  exact ⟨_,es',ep',hL,r'⟩) hok I.bare
theorem Inv.call {g':Array GenState} {t':Nat} {d':Drawn} {ch:List Addr} (I:Inv X pins σ H s) (u:Un (frs X.stack) ch H H' s.heap h') (hok:HOk X.prog X.w H' h') (hg:AllBare g')
  (hch:∀ b∈ch,(b∈X.ex ∨ X.s₀.heap.objs.size≤b)∧b≠X.env.locals∧(∀ x c,X.env.cells.lookup x=some c→c≠b)∧∀ p∈X.pn++pins,p.1≠b) :
  Inv X pins σ H' { s with heap:=h',gens:=g',drawn:=d',toks:=t' }:=by
 obtain ⟨m,⟨o,es,ep,ho,r⟩,_⟩:=id I.loc
 obtain ⟨sl,hL⟩:=u.any ho I.free fun z=>(hch _ z).2.1 rfl
 exact I.step (ch:=ch) hch (fun b o hL hb hc e n=>u.keep b o e n (fun z=>(List.mem_cons.mp (I.stkSub b z)).elim hL hb) hc) (fun b o _ _ hc e n=>u.any e n hc) (fun b o hc e n=>u.free b o e n hc) (fun b o hc e=>u.there b o e hc) u.tups u.frzs u.tbls (fun m' hm=>by
  obtain ⟨o',es',ep',ho',r'⟩:=hm
  rw [ho] at ho'; cases ho'
  exact ⟨_,es',ep',hL,r'⟩) hok hg
theorem Inv.turned {t':Nat} {it:Addr} (I:Inv X pins σ H s) (k:∀ b o,b≠it→s.heap.get? b=some o→h'.get? b=some o) (hn:H it=none) (hL:it≠X.env.locals)
  (h1:it∈X.ex ∨ X.s₀.heap.objs.size≤it) (h2:∀ x c,X.env.cells.lookup x=some c→c≠it) (h3:∀ p∈X.pn++pins,p.1≠it):Inv X pins σ H { s with heap:=h',toks:=t' }:=by
 have nit:∀ b u,H b=some u→b≠it:=fun b u e z=>by rw [z,hn] at e; cases e
 refine I.step (g':=s.gens) (d':=s.drawn) (ch:=[it]) (fun b hb=>?_) (fun b o _ _ hc e _=>k b o (fun z=>hc (by simp [z])) e) (fun b o _ _ hc e _=>⟨o.slots,k b o (fun z=>hc (by simp [z])) e⟩) (fun _ _ _ _ n=>n)
  (fun b o hc e=>⟨o,k b o (fun z=>hc (by simp [z])) e⟩) (fun _ _ e=>e) (fun _ _ _ e=>e) (fun b ps e=>⟨#[],by rw [e]; simp⟩) (fun m hm=>?_) (fun b u e=>?_) I.bare
 ·have e:b=it:=by simpa using hb
  subst e
  exact ⟨h1,hL,h2,h3⟩
 ·obtain ⟨o,es,ep,ho,r⟩:=hm
  exact ⟨o,es,ep,k _ o (Ne.symm hL) ho,r⟩
 ·refine (I.hok b u e).stay (fun c v hc q=>k c v ?_ q) (fun _ q=>q) fun _ _ q=>q
  rcases hc with z | z
  ·rw [z]; exact nit b u e
  ·exact nit c _ z
theorem Inv.tok (I:Inv X pins σ H s) (t:Nat):Inv X pins σ H { s with toks:=t }:=I.un (h':=s.heap) (t':=t) Un.refl I.hok
theorem Inv.kept {t':Nat} (I:Inv X pins σ H s) (k:∀ b u,s.heap.get? b=some u→h'.get? b=some u):Inv X pins σ H { s with heap:=h',toks:=t' }:=I.un (Un.kept k) (I.hok.kept k)
theorem Inv.laid {a:Addr} {o:HO} {t':Nat} (I:Inv X pins σ H s) (k:∀ b u,s.heap.get? b=some u→h'.get? b=some u) (hp:s.heap.objs.size≤a) (new:ObjOk X.prog X.w (upd H a o) h' a o) :
  Inv X pins σ (upd H a o) { s with heap:=h',toks:=t' }:=I.un (Un.laid k hp (I.hok.fresh hp)) (I.hok.laid k hp new)
theorem Inv.write {x e:Addr} {o:HO} {t':Nat} (I:Inv X pins σ H s) (mu:Mut (H x)) (he:e=x ∨ H e=some (.own x)) (k:∀ b u,b≠e→s.heap.get? b=some u→h'.get? b=some u) (heo:∃ u,h'.get? e=some u)
  (new:ObjOk X.prog X.w (upd H x o) h' x o):Inv X pins σ (upd H x o) { s with heap:=h',toks:=t' }:=I.un (Un.write mu he k heo) (I.hok.write mu he k heo new)
theorem Inv.weak {σ':List (Option V)} (I:Inv X pins σ H s) (hl:σ'.length=σ.length) (w:∀ (i:Nat) v,σ'[i]?=some (some v)→σ[i]?=some (some v)):Inv X pins σ' H s :=
 ⟨I.ok,I.os,I.bare,I.base,let ⟨m,hn,hl'⟩:=I.loc; ⟨m,hn,fun i x v e1 e2 e3=>hl' i x v e1 (w i v e2) e3⟩,I.cell,I.free,I.freeC,I.pin,I.hok,hl.trans I.len⟩
theorem Inv.pins_of {pins':List (Addr×Obj)} (I:Inv X pins σ H s) (h:∀ p∈pins',s.heap.get? p.1=some p.2∧H p.1=none∧p.1≠X.env.locals∧p.1 ∉ X.fs∧∀ v,p.2.data≠.cell v):Inv X pins' σ H s :=
 ⟨I.ok,I.os,I.bare,I.base,I.loc,I.cell,I.free,I.freeC,fun p hp=>(List.mem_append.mp hp).elim (fun z=>I.pin p (List.mem_append_left _ z)) (h p),I.hok,I.len⟩
theorem b2q {N:List Str} (hN:N.Nodup) {i j:Nat} {x:Str} (a:N[i]?=some x) (b:N[j]?=some x):i=j:=by
 obtain ⟨h1,e1⟩:=List.getElem?_eq_some_iff.mp a
 obtain ⟨h2,e2⟩:=List.getElem?_eq_some_iff.mp b
 exact (List.getElem_inj hN).mp (e1.trans e2.symm)
theorem a8y {M:Model} {A:Around} {E:Value→Shared→Prop} {i:Nat} {x:Str} {v:V} {u:Value} {Q:Unit→Shared→Prop} (I:Inv X pins σ H s) (hN:X.N.Nodup) (hi:X.N[i]?=some x) (hx:Loc X.env.scope x) (r:RelV v u)
  (h:∀ s',Inv X pins (σ.set i (some v)) H s'→(∃ a,Heap.SameBut a s.heap s'.heap∧(a=X.env.locals ∨ X.env.cells.lookup x=some a))→Q () s') (hf:X.fn x=true ∨ X.env.scope.names.lookup x=some .local:=by first | exact .inl rfl | exact .inr rfl | assumption):wpAny M A (storeName X.env x u) Q E s:=by
 obtain ⟨m,hn,hl⟩:=id I.loc
 have hcls:(X.env.scope.kind == .class || (X.env.scope.kind == .module && X.env.locals != X.env.globals))=false:=by rw [I.ok.kind]; rfl
 have hiσ:i < σ.length:=by rw [I.len]; exact (List.getElem?_eq_some_iff.mp hi).1
 have cne:=I.cne
 have tracked:∀ {a:Addr} {h':Heap},(∃ o,s.heap.get? a=some o∧H a=none)→Heap.SameBut a s.heap h'→HOk X.prog X.w H h':=fun {a h'} ha hs b ob e=>by
  obtain ⟨_,_,hfree⟩:=ha
  refine (I.hok b ob e).stay (fun c w' hc q=>(hs.2 c ?_).trans q) (fun _ q=>q) fun _ _ q=>q
  rintro rfl
  rcases hc with rfl | hc
  ·rw [hfree] at e; cases e
  ·rw [hfree] at hc; cases hc
 rcases hx with hk | hk
 ·refine wpAny_storeName_local hk hn (fun h' hn' hs=>?_) hcls
  obtain ⟨oL,_,_,hoL,_⟩:=id hn
  refine h _ ⟨I.ok,I.os,I.bare,⟨fun b o e n hb hx=>?_,fun b o e n hb hx=>?_,I.base.free,fun b o e hx=>?_,I.base.tups,I.base.frzs,I.base.tbls⟩,⟨_,hn',fun j y v' e1 e2 e3=>?_⟩,fun y c e=>?_,I.free,I.freeC,fun p hp=>?_,tracked ⟨oL,hoL,I.free⟩ hs,by simpa using I.len⟩ ⟨_,hs,.inl rfl⟩
  ·exact (hs.2 b (Nat.ne_of_lt (Nat.lt_of_lt_of_le (Heap.lt_size e) I.ok.above))).trans (I.base.keep b o e n hb hx)
  ·obtain ⟨sl,e1⟩:=I.base.slot b o e n hb hx
   exact ⟨sl,(hs.2 b (Nat.ne_of_lt (Nat.lt_of_lt_of_le (Heap.lt_size e) I.ok.above))).trans e1⟩
  ·obtain ⟨o',e1⟩:=I.base.there b o e hx
   exact ⟨o',(hs.2 b (Nat.ne_of_lt (Nat.lt_of_lt_of_le (Heap.lt_size e) I.ok.above))).trans e1⟩
  ·by_cases hj:j=i
   ·subst hj
    rw [hi] at e1; cases e1
    rw [List.getElem?_set_self hiσ] at e2
    cases e2
    exact ⟨u,r,.inl ⟨hk,by simp⟩⟩
   ·rw [List.getElem?_set_ne (Ne.symm hj)] at e2
    obtain ⟨u',r',q⟩:=hl j y v' e1 e2 e3
    refine ⟨u',r',?_⟩
    rcases q with ⟨k,e⟩ | ⟨k,c,e,z⟩
    ·refine .inl ⟨k,?_⟩
     have:y≠x:=fun e=>hj (b2q hN e1 (e ▸ hi))
     simp [this,e]
    ·exact .inr ⟨k,c,e,z.sameBut hs (cne y c e)⟩
  ·obtain ⟨w',z⟩:=I.cell y c e
   exact ⟨w',z.sameBut hs (cne y c e)⟩
  ·obtain ⟨e,n,ne,nf,d⟩:=I.pin p hp
   exact ⟨(hs.2 p.1 ne).trans e,n,ne,nf,d⟩
 ·have hfn:X.fn x=true:=by
   rcases hf with z | z
   ·exact z
   ·rw [z] at hk; cases hk
  obtain ⟨c,hc⟩:=I.ok.has x (.inl hk)
  obtain ⟨w',z⟩:=I.cell x c hc
  refine wpAny_storeName_cell I.ok.kind hk hc z (fun h' hc' hs=>?_)
  obtain ⟨oc,hoc,hocd⟩:=id z
  refine h { s with heap:=h' } ⟨I.ok,I.os,I.bare,⟨fun b o e n hb hx=>?_,fun b o e n hb hx=>?_,I.base.free,fun b o e hx=>?_,I.base.tups,I.base.frzs,I.base.tbls⟩,⟨m,hn.sameBut hs (Ne.symm (cne x c hc)),fun j y v' e1 e2 e3=>?_⟩,fun y c' e=>?_,I.free,I.freeC,fun p hp=>?_,tracked ⟨oc,hoc,I.freeC x c hc⟩ hs,by simpa using I.len⟩ ⟨c,hs,.inr hc⟩
  ·exact (hs.2 b (Nat.ne_of_lt (Nat.lt_of_lt_of_le (Heap.lt_size e) (I.ok.cab x c hfn hc)))).trans (I.base.keep b o e n hb hx)
  ·obtain ⟨sl,e1⟩:=I.base.slot b o e n hb hx
   exact ⟨sl,(hs.2 b (Nat.ne_of_lt (Nat.lt_of_lt_of_le (Heap.lt_size e) (I.ok.cab x c hfn hc)))).trans e1⟩
  ·obtain ⟨o',e1⟩:=I.base.there b o e hx
   exact ⟨o',(hs.2 b (Nat.ne_of_lt (Nat.lt_of_lt_of_le (Heap.lt_size e) (I.ok.cab x c hfn hc)))).trans e1⟩
  ·by_cases hj:j=i
   ·subst hj
    rw [hi] at e1; cases e1
    rw [List.getElem?_set_self hiσ] at e2
    cases e2
    exact ⟨u,r,.inr ⟨.inl hk,c,hc,hc'⟩⟩
   ·rw [List.getElem?_set_ne (Ne.symm hj)] at e2
    obtain ⟨u',r',q⟩:=hl j y v' e1 e2 e3
    refine ⟨u',r',?_⟩
    rcases q with q | ⟨k,c',e,z'⟩
    ·exact .inl q
    ·refine .inr ⟨k,c',e,z'.sameBut hs ?_⟩
     rintro rfl
     exact hj (b2q hN e1 (I.ok.inj _ _ _ e hc ▸ hi))
  ·by_cases hcc:c'=c
   ·subst hcc; exact ⟨_,hc'⟩
   ·obtain ⟨w2,z2⟩:=I.cell y c' e
    exact ⟨w2,z2.sameBut hs hcc⟩
  ·obtain ⟨e,n,ne,nf,d⟩:=I.pin p hp
   refine ⟨(hs.2 p.1 ?_).trans e,n,ne,nf,d⟩
   intro q
   rw [q,hoc] at e
   have q':oc=p.2:=Option.some.inj e
   exact d w' (by rw [← q']; exact hocd)
theorem a3i {M:Model} {A:Around} {E:Value→Shared→Prop} {i:Nat} {x:Str} {v:V} {u:Value} {Q:Unit→Shared→Prop} (I:Inv X pins σ H s) (hN:X.N.Nodup) (hi:X.N[i]?=some x) (hx:Loc X.env.scope x) (r:RelV v u)
  (h:∀ s',Inv X pins (σ.set i (some v)) H s'→Q () s') (hf:X.fn x=true ∨ X.env.scope.names.lookup x=some .local:=by first | exact .inl rfl | exact .inr rfl | assumption):wpAny M A (storeName X.env x u) Q E s :=
 a8y I hN hi hx r (fun s' I' _=>h s' I') hf
theorem Inv.call' {s':Shared} {ch:List Addr} (I:Inv X pins σ H s) (ho:s'.os=s.os) (u:Un (frs X.stack) ch H H' s.heap s'.heap) (hok:HOk X.prog X.w H' s'.heap) (hg:AllBare s'.gens)
  (hch:∀ b∈ch,(b∈X.ex ∨ X.s₀.heap.objs.size≤b)∧b≠X.env.locals∧(∀ x c,X.env.cells.lookup x=some c→c≠b)∧∀ p∈X.pn++pins,p.1≠b):Inv X pins σ H' s':=by
 obtain ⟨h',g',d',t',o'⟩:=s'
 have e:o'=s.os:=ho
 subst e
 exact I.call (g':=g') (t':=t') (d':=d') u hok hg hch
end
abbrev XK:=Value→Option Addr→Hp→Prop
abbrev St:=List (Option V)
abbrev VK:=V→Hp→Prop
abbrev TE:=St→Hp→VK→Prop
abbrev TT:=St→Hp→(Bool→Hp→Prop)→Prop
abbrev TA:=St→Hp→(List V→Hp→Prop)→Prop
structure Ends where
 nx:St→Hp→Prop
 rt:VK
 bk:St→Hp→Prop:=fun _ _=>False
 ct:St→Hp→Prop:=fun _ _=>False
abbrev TS:=Ends→St→Hp→Prop
def EP (X:Cx) (pins:List (Addr×Obj)) (σ:St) (Q:VK) (u:Value) (s':Shared):Prop:=∃ v H',Inv X pins σ H' s'∧RelV v u∧Q v H'
def TP (X:Cx) (pins:List (Addr×Obj)) (σ:St) (Q:Bool→Hp→Prop) (b:Bool) (s':Shared):Prop:=∃ H',Inv X pins σ H' s'∧Q b H'
def AP (X:Cx) (pins:List (Addr×Obj)) (σ:St) (Q:List V→Hp→Prop) (us:List Value) (s':Shared):Prop:=∃ vs H',Inv X pins σ H' s'∧Vals vs us∧Q vs H'
def SP (X:Cx) (pins:List (Addr×Obj)) (D:Ends) (f:Flow) (s':Shared):Prop :=
 match f with
 | .next=>∃ σ' H',Inv X pins σ' H' s'∧D.nx σ' H'
 | .brk=>∃ σ' H',Inv X pins σ' H' s'∧D.bk σ' H'
 | .cont=>∃ σ' H',Inv X pins σ' H' s'∧D.ct σ' H'
 | .ret u=>∃ v σ' H',Inv X pins σ' H' s'∧RelV v u∧D.rt v H'
def PE (X:Cx) (e:Expr) (t:TE):Prop :=
 ∀ (pins:List (Addr×Obj)) (s:Shared) (σ:St) (H:Hp) (Q:VK),Inv X pins σ H s→t σ H Q→wpAny (model X.prog X.w) X.A (eval e X.env) (EP X pins σ Q) X.xe s
def PT (X:Cx) (e:Expr) (t:TT):Prop :=
 ∀ (pins:List (Addr×Obj)) (s:Shared) (σ:St) (H:Hp) (Q:Bool→Hp→Prop),Inv X pins σ H s→t σ H Q→wpAny (model X.prog X.w) X.A (isTrue e X.env (eval e X.env)) (TP X pins σ Q) X.xe s
def PW (X:Cx) (e:Expr) (t:TT):Prop :=
 ∀ (whole:Sem Value) (pins:List (Addr×Obj)) (s:Shared) (σ:St) (H:Hp) (Q:Bool→Hp→Prop),Inv X pins σ H s→t σ H Q→wpAny (model X.prog X.w) X.A (isTrue e X.env whole) (TP X pins σ Q) X.xe s
theorem PW.pt {X:Cx} {e:Expr} {t:TT} (h:PW X e t):PT X e t:=h _
def PA (X:Cx) (es:List Expr) (t:TA):Prop :=
 ∀ (pos:Pos) (pins:List (Addr×Obj)) (s:Shared) (σ:St) (H:Hp) (Q:List V→Hp→Prop),Inv X pins σ H s→t σ H Q→wpAny (model X.prog X.w) X.A (spliced (backTo pos (starEach es X.env))) (AP X pins σ Q) X.xe s
def PS (X:Cx) (st:Stmt) (t:TS):Prop :=
 ∀ (pins:List (Addr×Obj)) (s:Shared) (σ:St) (H:Hp) (D:Ends),Inv X pins σ H s→t D σ H→wpAny (model X.prog X.w) X.A (exec st X.env) (SP X pins D) X.xe s
def PSs (X:Cx) (st:List Stmt) (t:TS):Prop :=
 ∀ (pins:List (Addr×Obj)) (s:Shared) (σ:St) (H:Hp) (D:Ends),Inv X pins σ H s→t D σ H→wpAny (model X.prog X.w) X.A (execs st X.env) (SP X pins D) X.xe s
theorem thn {α:Type} {t:Sem α} {Q Q':α→Shared→Prop} {M:Model} {A:Around} {E:Value→Shared→Prop} {s:Shared} (h:wpAny M A t Q E s) (hQ:∀ a s,Q a s→Q' a s):wpAny M A t Q' E s:=wpAny_mono h hQ fun _ _ x=>x
end L2
namespace L2
open PySem PySem.Spec PyProof.Rows
section
variable {X:Cx}
def c7x (i:Nat):TE:=fun σ H Q=>∃ v,σ[i]?=some (some v)∧Q v H
def tC (v:V):TE:=fun _ H Q=>Q v H
theorem b2o {i:Nat} {x:Str} {pos:Pos} (hN:X.N[i]?=some x) (hv:Vis X.env.scope x) (hd:(x == ("__debug__":Str))=false:=by decide) (hcd:(x == ("__classdict__":Str))=false:=by decide):PE X (.Name x pos) (c7x i):=by
 intro pins s σ H Q I h
 obtain ⟨v,e,h⟩:=h
 obtain ⟨m,hn,hl⟩:=I.loc
 obtain ⟨u,r,l⟩:=hl i x v hN e hv
 have fin:EP X pins σ Q u s:=⟨v,H,I,r,h⟩
 rcases l with ⟨hk,hm⟩ | ⟨hk,c,hc,hcell⟩
 ·exact wpAny_Name (wpAny_loadName_local I.ok.kind hk hn hm fin) hd
 ·rcases hk with hk | hk
  ·exact wpAny_Name (wpAny_loadName_cell I.ok.kind hk hc hcell fin) hd
  ·exact wpAny_Name (wpAny_loadName_free I.ok.kind hk hc hcell fin hcd) hd
theorem c9s {i j pos}:PE X (.Constant (.int i) j pos) (tC (.int i)):=fun _ _ _ H _ I h=>wpAny_Constant_int ⟨.int i,H,I.tok _,⟨_,rfl⟩,h⟩
theorem d5w {b j pos}:PE X (.Constant (.bool b) j pos) (tC (.bl b)):=fun _ _ _ H _ I h=>Constant_bool ⟨.bl b,H,I,rfl,h⟩
theorem c9q {j pos}:PE X (.Constant .none j pos) (tC .non):=fun _ _ _ H _ I h=>Constant_none ⟨.non,H,I,rfl,h⟩
theorem c9n {x j pos}:PE X (.Constant (.str x) j pos) (tC (.str x)):=fun _ _ _ H _ I h=>Calls.Constant_str ⟨.str x,H,I.tok _,⟨_,rfl⟩,h⟩
def Gl (X:Cx) (x:Str):Prop:=X.env.kindOf x=some .globalImplicit
theorem c6e {E:Value→Shared→Prop} {pins:List (Addr×Obj)} {s:Shared} {σ:St} {H:Hp} {x:Str} {u:Value} {pos:Pos} {Q:Value→Shared→Prop} (I:Inv X pins σ H s) (hg:Gl X x) (hm:X.mg x=some u) (h:Q u s)
  (hd:(x == ("__debug__":Str))=false:=by decide):wpAny (model X.prog X.w) X.A (eval (.Name x pos) X.env) Q E s :=
 Calls.Name_function_global I.ok.kind hg (Calls.loadGlobal_global (by rw [I.ok.glob]; exact I.mod.glob.keeps I.bk) hm h) hd
theorem a2u {E:Value→Shared→Prop} {pins:List (Addr×Obj)} {s:Shared} {σ:St} {H:Hp} {x:Str} {u:Value} {pos:Pos} {Q:Value→Shared→Prop} (I:Inv X pins σ H s) (hg:Gl X x) (hm:X.mg x=none) (hv:bootBuiltins x=some u) (h:Q u s)
  (hn:x≠"__name__":=by decide) (hd:(x == ("__debug__":Str))=false:=by decide):wpAny (model X.prog X.w) X.A (eval (.Name x pos) X.env) Q E s:=by
 obtain ⟨mb,h1,h2⟩:=I.mod.blt
 exact Calls.Name_function_global I.ok.kind hg (Calls.loadGlobal_builtin (by rw [I.ok.glob]; exact I.mod.glob.keeps I.bk) hm (by rw [I.ok.blt]; exact h1.keeps I.bk) ((h2 x hn).trans hv) h) hd
theorem c5l {x:Str} {v:V} {u:Value} {pos:Pos} (hg:Gl X x) (hm:X.mg x=none) (hv:bootBuiltins x=some u) (r:RelV v u) (hn:x≠"__name__":=by decide) (hd:(x == ("__debug__":Str))=false:=by decide):PE X (.Name x pos) (tC v) :=
 fun _ _ _ H _ I h=>a2u I hg hm hv ⟨v,H,I,r,h⟩ hn hd
variable {a b:Expr} {ta tb:TE} {pos:Pos}
def PC (X:Cx) (op:CmpOp) (a b:Expr) (t:TE):Prop :=
 ∀ (pins:List (Addr×Obj)) (s:Shared) (σ:St) (H:Hp) (Q:VK),Inv X pins σ H s→t σ H Q →
  wpAny (model X.prog X.w) X.A (eval a X.env) (fun v s₁=>wpAny (model X.prog X.w) X.A (eval b X.env) (fun u s₂=>wpAny (model X.prog X.w) X.A (compareOp op v u) (EP X pins σ Q) X.xe s₂) X.xe s₁) X.xe s
theorem a2b (b:Expr) {op:CmpOp} (h:op≠.In) (h2:op≠.NotIn):behindInMarks op b=false:=by
 have e1:(op == CmpOp.In)=false:=by cases op <;> first | rfl | exact absurd rfl h
 have e2:(op == CmpOp.NotIn)=false:=by cases op <;> first | rfl | exact absurd rfl h2
 cases b <;> simp [behindInMarks,e1,e2]
def tIsN (ta:TE):TE:=fun σ H Q=>ta σ H fun x H1=>Q (.bl (decide (x=.non))) H1
def d4f (ta:TE):TE:=fun σ H Q=>ta σ H fun x H1=>Q (.bl (!decide (x=.non))) H1
theorem RelV.none_iff {x:V} {v:Value} (r:RelV x v):(v == Value.none)=decide (x=.non):=by
 cases x with
 | non=>cases r; rfl
 | bl _=>cases r; rfl
 | int _=>obtain ⟨t,rfl⟩:=r; rfl
 | str _=>obtain ⟨t,rfl⟩:=r; rfl
 | byt _=>obtain ⟨t,rfl⟩:=r; rfl
 | flt _=>obtain ⟨t,rfl⟩:=r; rfl
 | ref _=>cases r; rfl
 | ty _=>cases r; rfl
theorem c9t {j pos'} (ha:PE X a ta):PC X .Is a (.Constant .none j pos') (tIsN ta):=by
 intro pins s σ H Q I h
 refine thn (ha pins s σ H _ I h) fun v s1 ⟨x,H1,I1,r1,q1⟩=>?_
 exact Constant_none (is_none_gen ⟨.bl _,H1,I1,by rw [r1.none_iff]; rfl,q1⟩)
theorem c5n {j pos'} (ha:PE X a ta):PC X .IsNot a (.Constant .none j pos') (d4f ta):=by
 intro pins s σ H Q I h
 refine thn (ha pins s σ H _ I h) fun v s1 ⟨x,H1,I1,r1,q1⟩=>?_
 exact Constant_none (isnot_none_gen ⟨.bl _,H1,I1,by rw [r1.none_iff]; rfl,q1⟩)
def tB (t:TE):TT:=fun σ H Q=>t σ H fun x H1=>∃ c,x=.bl c∧Q c H1
theorem b6n {op:CmpOp} {t:TE} (h:PC X op a b t) (h1:behindInMarks op b=false:=by first | exact a2b _ (by decide) (by decide) | rfl):PT X (.Compare a [op] [b] pos) (tB t):=by
 intro pins s σ H Q I hw
 refine wpAny_isTrue_Compare1 (thn (h pins s σ H _ I hw) fun v s1 h1=>thn h1 fun u s2 h2=>thn h2 fun c s3 ⟨x,H1,I1,r1,q1⟩=>?_) h1
 obtain ⟨d,rfl,q⟩:=q1
 cases r1
 exact wpAny_truthy_bool ⟨H1,I1,q⟩
variable {tA tB':TT} {rest:List Expr}
def tAnd (t u:TT):TT:=fun σ H Q=>t σ H fun c H1=>if c=true then u σ H1 Q else Q false H1
def tOr (t u:TT):TT:=fun σ H Q=>t σ H fun c H1=>if c=true then Q true H1 else u σ H1 Q
def tNot (t:TT):TT:=fun σ H Q=>t σ H fun c H1=>Q (!c) H1
theorem c4u (ha:PT X a tA):PW X (.BoolOp .And [a] pos) tA:=by
 intro wh pins s σ H Q I h
 refine isTrue_and (thn (ha pins s σ H Q I h) fun c s1 e=>?_)
 cases c with
 | true=>exact isTrue_and_nil e
 | false=>exact e
theorem c9d (ha:PT X a tA):PW X (.BoolOp .Or [a] pos) tA:=by
 intro wh pins s σ H Q I h
 refine isTrue_or (thn (ha pins s σ H Q I h) fun c s1 e=>?_)
 cases c with
 | false=>exact isTrue_or_nil e
 | true=>exact e
theorem c9e (ha:PT X a tA) (hb:PW X (.BoolOp .And (b :: rest) pos) tB'):PW X (.BoolOp .And (a :: b :: rest) pos) (tAnd tA tB'):=by
 intro wh pins s σ H Q I h
 refine isTrue_and (thn (ha pins s σ H _ I h) fun c s1 ⟨H1,I1,q1⟩=>?_)
 cases c with
 | true=>exact hb wh pins s1 σ H1 Q I1 q1
 | false=>exact ⟨H1,I1,q1⟩
theorem d5o (ha:PT X a tA) (hb:PW X (.BoolOp .Or (b :: rest) pos) tB'):PW X (.BoolOp .Or (a :: b :: rest) pos) (tOr tA tB'):=by
 intro wh pins s σ H Q I h
 refine isTrue_or (thn (ha pins s σ H _ I h) fun c s1 ⟨H1,I1,q1⟩=>?_)
 cases c with
 | true=>exact ⟨H1,I1,q1⟩
 | false=>exact hb wh pins s1 σ H1 Q I1 q1
theorem c9f (ha:PT X a tA):PT X (.UnaryOp .Not a pos) (tNot tA):=by
 intro pins s σ H Q I h
 exact isTrue_not (ha pins s σ H (fun c H1=>Q (!c) H1) I h)
def d4e (ta:TE):TE:=fun σ H Q=>ta σ H fun x H1=>∃ c,x=.bl c∧Q (.bl (!c)) H1
theorem c9o {op} {t:TE} (h:PE X a t):PE X (.BoolOp op [a] pos) t:=fun pins s σ H Q I hw=>BoolOp_one (h pins s σ H Q I hw)
theorem c9p (ha:PE X a ta):PE X (.UnaryOp .Not a pos) (d4e ta):=by
 intro pins s σ H Q I h
 refine UnaryOp_ (thn (ha pins s σ H _ I h) fun v s1 ⟨x,H1,I1,r1,q1⟩=>?_)
 obtain ⟨c,rfl,q1⟩:=q1
 cases r1
 exact not_of (wpAny_truthy_bool ⟨.bl (!c),H1,I1,rfl,q1⟩)
def tIf (t:TT) (ta tb:TE):TE:=fun σ H Q=>t σ H fun c H1=>if c=true then ta σ H1 Q else tb σ H1 Q
theorem c0u {c:Expr} (hc:PT X c tA) (ha:PE X a ta) (hb:PE X b tb):PE X (.IfExp c a b pos) (tIf tA ta tb):=by
 intro pins s σ H Q I h
 refine wpAny_IfExp (thn (hc pins s σ H _ I h) fun d s1 ⟨H1,I1,q1⟩=>?_)
 cases d with
 | true=>exact ha pins s1 σ H1 Q I1 q1
 | false=>exact hb pins s1 σ H1 Q I1 q1
end
end L2
namespace L2
open PySem PySem.Spec PyProof.Rows
def SqL (K:Γd) (H:Hp) (a:Addr) (xs:List V):Prop :=
 Rd H a (.lst xs) ∨
  ∃ (o:Obj) (its:Array Value) (n:Nat),K.lookup a=some o∧o.cls=.type "list"∧o.dict=none∧o.data=.seq its n∧its.size≤sizeLine∧Vals xs its.toList
def SqT (K:Γd) (H:Hp) (a:Addr) (xs:List V):Prop :=
 Rd H a (.tup xs) ∨
  ∃ (o:Obj) (its:Array Value) (n:Nat),K.lookup a=some o∧o.cls=.type "tuple"∧o.data=.seq its n∧its.size≤sizeLine∧Vals xs its.toList
def absV:Value→Option V
 | .none=>some .non
 | .bool b=>some (.bl b)
 | .int i _=>some (.int i)
 | .str x _=>some (.str x)
 | .bytes b _=>some (.byt b)
 | .float b _=>some (.flt b)
 | .ref a=>some (.ref a)
 | .type n=>some (.ty n)
 | _=>none
theorem RelV.abs {x:V} {u:Value} (r:RelV x u):absV u=some x:=by
 cases x with
 | non=>cases r; rfl
 | bl _=>cases r; rfl
 | int _=>obtain ⟨t,rfl⟩:=r; rfl
 | str _=>obtain ⟨t,rfl⟩:=r; rfl
 | byt _=>obtain ⟨t,rfl⟩:=r; rfl
 | flt _=>obtain ⟨t,rfl⟩:=r; rfl
 | ref _=>cases r; rfl
 | ty _=>cases r; rfl
theorem RelV.inj {x y:V} {u:Value} (r:RelV x u) (q:RelV y u):x=y:=Option.some.inj (r.abs.symm.trans q.abs)
theorem Vals.inj:∀ {xs ys:List V} {us:List Value},Vals xs us→Vals ys us→xs=ys
 | _,_,_,.nil,.nil=>rfl
 | _,_,_,.cons r t,.cons r' t'=>by rw [r.inj r',Vals.inj t t']
section
variable {X:Cx} {pins:List (Addr×Obj)} {σ:St} {H:Hp} {s:Shared} {a:Addr} {xs ys:List V}
theorem SqL.of {K:Γd} (h:H a=some (.lst xs)):SqL K H a xs:=.inl (.inl h)
theorem SqT.of {K:Γd} (h:H a=some (.tup xs)):SqT K H a xs:=.inl (.inl h)
theorem Inv.list (I:Inv X pins σ H s) (h:SqL X.K H a xs):∃ its:List Value,Vals xs its∧PlainL s.heap a its.toArray∧xs.length≤sizeLine:=by
 rcases h with h | ⟨o,its,n,hk,hc,hd,hs,hz,r⟩
 ·obtain ⟨z,its,n,r,e⟩:=h.ok I.hok
  exact ⟨its,r,⟨_,n,e,rfl,rfl,rfl⟩,z⟩
 ·refine ⟨its.toList,r,⟨o,n,I.kIn a o hk,hc,hd,by simpa using hs⟩,?_⟩
  have e:=r.length
  simp only [Array.length_toList] at e
  lia
theorem Inv.tuple (I:Inv X pins σ H s) (h:SqT X.K H a xs):∃ its:List Value,Vals xs its∧IsTup s.heap a its.toArray∧xs.length≤sizeLine:=by
 rcases h with h | ⟨o,its,n,hk,hc,hs,hz,r⟩
 ·obtain ⟨z,its,r,p⟩:=h.ok I.hok
  exact ⟨its,r,p,z⟩
 ·refine ⟨its.toList,r,⟨o,I.kIn a o hk,hc,n,by simpa using hs⟩,?_⟩
  have e:=r.length
  simp only [Array.length_toList] at e
  lia
theorem Inv.list_inj (I:Inv X pins σ H s) (h:SqL X.K H a xs) (h':SqL X.K H a ys):xs=ys:=by
 obtain ⟨its,r,⟨o,n,e,_,_,d⟩,_⟩:=I.list h
 obtain ⟨its',r',⟨o',n',e',_,_,d'⟩,_⟩:=I.list h'
 rw [e] at e'; cases e'
 rw [d] at d'
 injection d' with d1 _
 have:its=its':=by simpa using congrArg Array.toList d1
 subst this
 exact r.inj r'
theorem Inv.tuple_inj (I:Inv X pins σ H s) (h:SqT X.K H a xs) (h':SqT X.K H a ys):xs=ys:=by
 obtain ⟨its,r,⟨o,e,_,n,d⟩,_⟩:=I.tuple h
 obtain ⟨its',r',⟨o',e',_,n',d'⟩,_⟩:=I.tuple h'
 rw [e] at e'; cases e'
 rw [d] at d'
 injection d' with d1 _
 have:its=its':=by simpa using congrArg Array.toList d1
 subst this
 exact r.inj r'
end
abbrev Cx.wish (X:Cx) (E:Value→Shared→Prop):Cx:={ X with xe:=E }
abbrev Cx.nox (X:Cx):Cx:=X.wish fun _ _=>False
theorem Cx.Ok.wish {X:Cx} (ok:X.Ok) (E:Value→Shared→Prop):(X.wish E).Ok :=
 ⟨ok.mod,ok.kind,ok.glob,ok.blt,ok.above,ok.inj,ok.has,ok.cab,ok.hd,ok.frames,ok.stk,ok.exf,ok.bs,ok.bsz,ok.noex,ok.exfs,ok.funs,ok.frf⟩
theorem Cx.Ok.unwish {X:Cx} {E:Value→Shared→Prop} (ok:(X.wish E).Ok):X.Ok :=
 ⟨ok.mod,ok.kind,ok.glob,ok.blt,ok.above,ok.inj,ok.has,ok.cab,ok.hd,ok.frames,ok.stk,ok.exf,ok.bs,ok.bsz,ok.noex,ok.exfs,ok.funs,ok.frf⟩
section
variable {X:Cx} {pins:List (Addr×Obj)} {σ:St} {H:Hp} {s:Shared} {E:Value→Shared→Prop}
theorem Inv.wish (I:Inv X pins σ H s) (E:Value→Shared→Prop):Inv (X.wish E) pins σ H s:=⟨I.ok.wish E,I.os,I.bare,I.base,I.loc,I.cell,I.free,I.freeC,I.pin,I.hok,I.len⟩
theorem Inv.unwish (I:Inv (X.wish E) pins σ H s):Inv X pins σ H s:=⟨I.ok.unwish,I.os,I.bare,I.base,I.loc,I.cell,I.free,I.freeC,I.pin,I.hok,I.len⟩
theorem SP.unwish {D:Ends} {f:Flow} {s':Shared} (h:SP (X.wish E) pins D f s'):SP X pins D f s':=by
 cases f with
 | next=>obtain ⟨σ',H',I,q⟩:=h; exact ⟨σ',H',I.unwish,q⟩
 | brk=>obtain ⟨σ',H',I,q⟩:=h; exact ⟨σ',H',I.unwish,q⟩
 | cont=>obtain ⟨σ',H',I,q⟩:=h; exact ⟨σ',H',I.unwish,q⟩
 | ret u=>obtain ⟨v,σ',H',I,r,q⟩:=h; exact ⟨v,σ',H',I.unwish,r,q⟩
theorem PE.nox {e:Expr} {t:TE} (h:PE X.nox e t):PE X e t:=fun pins s σ H Q I hw =>
 wpAny_mono (h pins s σ H Q (I.wish _) hw) (fun _ _ ⟨v,H',I',r,q⟩=>⟨v,H',I'.unwish,r,q⟩) fun _ _ z=>False.elim z
theorem PT.nox {e:Expr} {t:TT} (h:PT X.nox e t):PT X e t:=fun pins s σ H Q I hw =>
 wpAny_mono (h pins s σ H Q (I.wish _) hw) (fun _ _ ⟨H',I',q⟩=>⟨H',I'.unwish,q⟩) fun _ _ z=>False.elim z
theorem PSs.nox {st:List Stmt} {t:TS} (h:PSs X.nox st t):PSs X st t:=fun pins s σ H D I hw =>
 wpAny_mono (h pins s σ H D (I.wish _) hw) (fun _ _ q=>q.unwish) fun _ _ z=>False.elim z
end
section
variable {X:Cx} {st:Stmt} {rest:List Stmt} {t u:TS} {e:Expr} {te:TE} {pos:Pos}
def d4g:TS:=fun D σ H=>D.nx σ H
def tSeq (t u:TS):TS:=fun D σ H=>t { D with nx:=u D } σ H
theorem c4y:PSs X [] d4g:=fun _ _ σ H _ I h=>wpAny_execs_nil ⟨σ,H,I,h⟩
theorem c0q (h1:PS X st t) (h2:PSs X rest u):PSs X (st :: rest) (tSeq t u):=by
 intro pins s σ H D I h
 refine wpAny_execs_cons (thn (h1 pins s σ H { D with nx:=u D } I h) fun f s1 q=>?_)
 cases f with
 | next =>
  obtain ⟨σ',H',I',q⟩:=q
  exact h2 pins s1 σ' H' D I' q
 | ret v=>exact q
 | brk=>exact q
 | cont=>exact q
theorem c4x (h1:PS X st t):PSs X [st] t:=by
 intro pins s σ H D I h
 refine wpAny_execs_cons (thn (h1 pins s σ H D I h) fun f s1 q=>?_)
 cases f with
 | next=>exact wpAny_execs_nil q
 | ret v=>exact q
 | brk=>exact q
 | cont=>exact q
theorem Inv.quiet {pins:List (Addr×Obj)} {σ:St} {H:Hp} {s:Shared} (I:Inv X pins σ H s):interactive X.env=false:=by simp [interactive,I.ok.kind]
def d4h (te:TE):TS:=fun D σ H=>te σ H fun _ H1=>D.nx σ H1
theorem c5b (he:PE X e te) (hs:swapsWith e none pos.line X.env=pure false:=by rfl):PS X (.Expr e pos) (d4h te):=by
 intro pins s σ H D I h
 exact wpAny_Expr_any (thn (he pins s σ H _ I h) fun v s1 ⟨x,H1,I1,r1,q1⟩=>⟨σ,H1,I1,q1⟩) I.quiet hs
def tRet (te:TE):TS:=fun D σ H=>te σ H D.rt
theorem b6o (he:PE X e te):PS X (.Return (some e) pos) (tRet te):=by
 intro pins s σ H D I h
 exact wpAny_Return_some (thn (he pins s σ H _ I h) fun v s1 ⟨x,H1,I1,r1,q1⟩=>⟨x,σ,H1,I1,r1,q1⟩)
def tIfS (c:TT) (t u:TS):TS:=fun D σ H=>c σ H fun b H1=>if b=true then t D σ H1 else u D σ H1
theorem d5p {c:Expr} {a b:List Stmt} {tc:TT} (hc:PT X c tc) (ha:PSs X a t) (hb:PSs X b u):PS X (.If c a b pos) (tIfS tc t u):=by
 intro pins s σ H D I h
 refine wpAny_If (thn (hc pins s σ H _ I h) fun d s1 ⟨H1,I1,q1⟩=>?_)
 cases d with
 | true=>exact ha pins s1 σ H1 D I1 q1
 | false=>exact hb pins s1 σ H1 D I1 q1
end
abbrev TG:=V→St→Hp→(St→Hp→Prop)→Prop
abbrev TGs:=List V→St→Hp→(St→Hp→Prop)→Prop
def PG (X:Cx) (target:Expr) (t:TG):Prop :=
 ∀ (pins:List (Addr×Obj)) (s:Shared) (σ:St) (H:Hp) (v:V) (u:Value) (Q:St→Hp→Prop),Inv X pins σ H s→RelV v u→t v σ H Q →
  wpAny (model X.prog X.w) X.A (assign target X.env u) (fun _ s'=>∃ σ' H',Inv X pins σ' H' s'∧Q σ' H') X.xe s
def PGs (X:Cx) (ts:List Expr) (t:TGs):Prop :=
 ∀ (pins:List (Addr×Obj)) (s:Shared) (σ:St) (H:Hp) (vs:List V) (us:List Value) (Q:St→Hp→Prop),Inv X pins σ H s→Vals vs us→t vs σ H Q →
  wpAny (model X.prog X.w) X.A (assignInOrder ((assignEach ts X.env).map (·.2)) us) (fun _ s'=>∃ σ' H',Inv X pins σ' H' s'∧Q σ' H') X.xe s
abbrev e0m:=V→V→V→Hp→(Hp→Prop)→Prop
def PSet (X:Cx) (t:e0m):Prop :=
 ∀ (pins:List (Addr×Obj)) (s:Shared) (σ:St) (H:Hp) (o i v:V) (ov iv u:Value) (Q:Hp→Prop),Inv X pins σ H s→RelV o ov→RelV i iv→RelV v u→t o i v H Q →
  wpAny (model X.prog X.w) X.A (setItem ov iv u) (fun _ s'=>∃ H',Inv X pins σ H' s'∧Q H') X.xe s
abbrev TIp:=V→V→Hp→VK→Prop
def PIp (X:Cx) (op:Operator) (t:TIp):Prop :=
 ∀ (pins:List (Addr×Obj)) (s:Shared) (σ:St) (H:Hp) (x y:V) (v u:Value) (Q:VK),Inv X pins σ H s→RelV x v→RelV y u→t x y H Q →
  wpAny (model X.prog X.w) X.A (inplaceOp op v u) (EP X pins σ Q) X.xe s
section
variable {X:Cx} {pos:Pos}
def a5v (i:Nat):TG:=fun v σ H Q=>Q (σ.set i (some v)) H
theorem c5h {i:Nat} {x:Str} (hN:X.N.Nodup) (hi:X.N[i]?=some x) (hx:Loc X.env.scope x) (hf:X.fn x=true ∨ X.env.scope.names.lookup x=some .local:=by first | exact .inl rfl | exact .inr rfl | assumption):PG X (.Name x pos) (a5v i):=by
 intro pins s σ H v u Q I r h
 exact wpAny_assign_Name (a3i I hN hi hx r (fun s' I'=>⟨_,H,I',h⟩) hf)
def d6s:TGs:=fun vs σ H Q=>vs=[]∧Q σ H
def c1r (t:TG) (u:TGs):TGs:=fun vs σ H Q=>∃ v r,vs=v :: r∧t v σ H fun σ' H'=>u r σ' H' Q
theorem b6v:PGs X [] d6s:=by
 intro pins s σ H vs us Q I r h
 obtain ⟨e,h⟩:=h
 subst e
 cases r
 exact assignInOrder_nil ⟨σ,H,I,h⟩
theorem a7x {e:Expr} {es:List Expr} {t:TG} {u:TGs} (h1:PG X e t) (h2:PGs X es u)
  (hs:(assignEach (e :: es) X.env).map (·.2)=assign e X.env :: (assignEach es X.env).map (·.2):=by rfl):PGs X (e :: es) (c1r t u):=by
 intro pins s σ H vs us Q I r h
 obtain ⟨v,vr,e1,h⟩:=h
 subst e1
 cases r with
 | cons r rr =>
  rw [hs]
  refine assignInOrder_cons (thn (h1 pins s σ H _ _ _ I r h) fun _ s1 ⟨σ1,H1,I1,q1⟩=>?_)
  exact h2 pins s1 σ1 H1 _ _ Q I1 rr q1
def d2u (K:Γd) (n:Nat) (t:TGs):TG:=fun v σ H Q=>∃ a xs,v=.ref a∧SqT K H a xs∧xs.length=n∧t xs σ H Q
theorem c2z {es:List Expr} {k:Nat} {t:TGs} {n:Nat} (hc:X.calm=true) (h:PGs X es t)
  (hn:(assignEach es X.env).length=n:=by rfl) (hst:(assignEach es X.env).findIdx? (·.1)=none:=by rfl):PG X (.Tuple es k pos) (d2u X.K n t):=by
 intro pins s σ H v u Q I r hw
 obtain ⟨a,xs,e1,hq,hl,hw⟩:=hw
 subst e1
 cases r
 obtain ⟨its,rv,ht,hz⟩:=I.tuple hq
 refine assign_Tuple_tuple (I.ok.hd hc) ht (by simp [hn,← hl,rv.length]) hst fun h' hx=>?_
 have I1:Inv X pins σ H { s with heap:=h' }:=I.kept (t':=s.toks) fun b o e=>hx b o (Nat.ne_of_lt (Heap.lt_size e)) e
 exact h pins _ σ H xs _ Q I1 (by simpa using rv) hw
def gSub (to ti:TE) (t:e0m):TG:=fun v σ H Q=>to σ H fun o H1=>ti σ H1 fun i H2=>t o i v H2 fun H3=>Q σ H3
theorem c9l {o i:Expr} {to ti:TE} {t:e0m} (ho:PE X o to) (hi:PE X i ti) (hs:PSet X t)
  (ha:∀ v,assign (.Subscript o i pos) X.env v=(do
   let ov ← holding [v] (eval o X.env)
   let iv ← holding [v,ov] (eval i X.env)
   standAt pos
   holding [v,ov,iv] (setItem ov iv v)
   release [v,ov,iv] []):=by intro _; rfl):PG X (.Subscript o i pos) (gSub to ti t):=by
 intro pins s σ H v u Q I r h
 rw [ha]
 refine Γa (Γg (thn (ho pins s σ H _ I h) fun ov s1 ⟨x,H1,I1,r1,q1⟩=>?_))
 refine Γa (Γg (thn (hi pins s1 σ H1 _ I1 q1) fun iv s2 ⟨y,H2,I2,r2,q2⟩=>?_))
 refine Γa (wpAny_standAt (Γa (Γg (thn (hs pins s2 σ H2 x y v ov iv u _ I2 r1 r2 r q2) fun _ s3 ⟨H3,I3,q3⟩=>?_))))
 exact wpAny_release ⟨σ,H3,I3,q3⟩
def c2u (te:TE) (g:TG):TS:=fun D σ H=>te σ H fun x H1=>g x σ H1 D.nx
theorem b6p {tg e:Expr} {te:TE} {g:TG} (he:PE X e te) (hg:PG X tg g) (hs:swapsWithSole [tg] e pos.line X.env=pure false:=by rfl) (hw:swappedStores [tg] e X.env=pure none:=by rfl)
  (h1:(assignEach [tg] X.env).map (·.2)=[assign tg X.env]:=by rfl):PS X (.Assign [tg] e pos) (c2u te g):=by
 intro pins s σ H D I h
 refine wpAny_Assign_stores (thn (he pins s σ H _ I h) fun v s1 ⟨x,H1,I1,r1,q1⟩=>?_) hs hw
 rw [h1]
 exact thn (hg pins s1 σ H1 x v _ I1 r1 q1) fun _ s2 q=>q
theorem c9h {i:Nat} {x:Str} {e:Expr} {te:TE} {pos':Pos} (hN:X.N.Nodup) (hi:X.N[i]?=some x) (hx:Loc X.env.scope x) (he:PE X e te) (hs:swapsWith e (some (.Name x pos')) pos.line X.env=pure false:=by rfl) (hf:X.fn x=true ∨ X.env.scope.names.lookup x=some .local:=by first | exact .inl rfl | exact .inr rfl | assumption) :
  PS X (.Assign [.Name x pos'] e pos) (c2u te (a5v i)):=by
 intro pins s σ H D I h
 refine wpAny_Assign_Name (thn (he pins s σ H _ I h) fun v s1 ⟨y,H1,I1,r1,q1⟩=>?_) hs
 exact a3i I1 hN hi hx r1 (fun s2 I2=>⟨_,H1,I2,q1⟩) hf
def tAug (i:Nat) (te:TE) (ti:TIp):TS:=fun D σ H=>∃ x,σ[i]?=some (some x)∧te σ H fun y H1=>ti x y H1 fun z H2=>D.nx (σ.set i (some z)) H2
theorem c9j {i:Nat} {x:Str} {e:Expr} {te:TE} {op:Operator} {ti:TIp} {pos':Pos} (hN:X.N.Nodup) (hi:X.N[i]?=some x) (hx:Loc X.env.scope x) (he:PE X e te) (ho:PIp X op ti) (hf:X.fn x=true ∨ X.env.scope.names.lookup x=some .local:=by first | exact .inl rfl | exact .inr rfl | assumption) :
  PS X (.AugAssign (.Name x pos') op e pos) (tAug i te ti):=by
 intro pins s σ H D I h
 obtain ⟨v,e1,h⟩:=h
 obtain ⟨m,hn,hl⟩:=I.loc
 have vis:Vis X.env.scope x:=by rcases hx with k | k; exact .inl k; exact .inr (.inl k)
 obtain ⟨u,r,l⟩:=hl i x v hi e1 vis
 refine wpAny_AugAssign_Name ?_
 have go:wpAny (model X.prog X.w) X.A (eval e X.env) (fun w s₂=>wpAny (model X.prog X.w) X.A (inplaceOp op u w) (fun r s₃=>wpAny (model X.prog X.w) X.A (storeName X.env x r) (fun _=>SP X pins D .next) X.xe s₃) X.xe s₂) X.xe s:=by
  refine thn (he pins s σ H _ I h) fun w s1 ⟨y,H1,I1,r1,q1⟩=>?_
  refine thn (ho pins s1 σ H1 v y u w _ I1 r r1 q1) fun z s2 ⟨zv,H2,I2,r2,q2⟩=>?_
  exact a3i I2 hN hi hx r2 (fun s3 I3=>⟨_,H2,I3,q2⟩) hf
 rcases l with ⟨hk,hm⟩ | ⟨hk,c,hc,hcell⟩
 ·exact wpAny_loadName_local I.ok.kind hk hn hm go
 ·rcases hk with hk | hk
  ·exact wpAny_loadName_cell I.ok.kind hk hc hcell go
  ·rcases hx with k | k
   ·have:X.env.scope.names.lookup x=some .free:=hk
    rw [k] at this; cases this
   ·have:X.env.scope.names.lookup x=some .free:=hk
    rw [k] at this; cases this
def ipI (f:Int→Int→Int):TIp:=fun x y H Q=>∃ i j,x=.int i∧y=.int j∧Q (.int (f i j)) H
theorem d0s:PIp X .Add (ipI fun i j=>i + j):=by
 intro pins s σ H x y v u Q I r1 r2 h
 obtain ⟨i,j,e1,e2,q⟩:=h
 subst e1; subst e2
 obtain ⟨t,rfl⟩:=r1
 obtain ⟨t',rfl⟩:=r2
 exact iadd_int ⟨.int _,H,I.tok _,⟨_,rfl⟩,q⟩
end
section
variable {X:Cx} {pos:Pos}
def c2s (c:TT) (tb:TS):TS:=fun D σ H=>∃ W:Nat→St→Hp→Prop,(∃ m,W m σ H)∧∀ m σ H,W m σ H →
 c σ H fun b H1=>if b=true then ∃ N:St→Hp→Prop,(∀ σ' H',N σ' H'→∃ m',m' < m∧W m' σ' H')∧tb { D with nx:=N,ct:=N,bk:=D.nx } σ H1 else D.nx σ H1
theorem c0r {c:Expr} {body:List Stmt} {tc:TT} {tb:TS} (hp:PassesOwn (model X.prog X.w) X.A X.env X.xe) (hc:PT X c tc) (hb:PSs X body tb):PS X (.While c body [] pos) (c2s tc tb):=by
 intro pins s σ H D I h
 obtain ⟨W,⟨m0,w0⟩,turn⟩:=h
 refine wpAny_While (codeAny_whileLoop (fun n s'=>∃ σ' H',Inv X pins σ' H' s'∧W n σ' H') ?_ m0 ⟨σ,H,I,w0⟩)
 rintro n s1 ⟨σ1,H1,I1,w1⟩
 refine wpAny_passesOwn hp (thn (hc pins s1 σ1 H1 _ I1 (turn n σ1 H1 w1)) fun b s2 ⟨H2,I2,q2⟩=>?_)
 cases b with
 | true =>
  obtain ⟨N,hN,q2⟩:=q2
  rw [if_pos rfl]
  refine wpAny_passesOwn hp (thn (hb pins s2 σ1 H2 _ I2 q2) fun f s3 q3=>?_)
  cases f with
  | next =>
   obtain ⟨σ3,H3,I3,n3⟩:=q3
   obtain ⟨m',hm,w3⟩:=hN σ3 H3 n3
   exact ⟨m',hm,σ3,H3,I3,w3⟩
  | cont =>
   obtain ⟨σ3,H3,I3,n3⟩:=q3
   obtain ⟨m',hm,w3⟩:=hN σ3 H3 n3
   exact ⟨m',hm,σ3,H3,I3,w3⟩
  | brk=>exact q3
  | ret v=>exact q3
 | false =>
  rw [if_neg Bool.false_ne_true]
  exact wpAny_execs_nil ⟨σ1,H2,I2,q2⟩
end
structure It where
 go:Nat→Hp→Prop
 yld:Nat→Hp→V→Hp→Prop
 stop:Nat→Hp→Prop
def b1w (X:Cx) (pins:List (Addr×Obj)) (H:Hp) (b:Addr):Prop :=
 H b=none∧b≠X.env.locals∧b ∉ X.fs∧(b∈X.ex ∨ X.s₀.heap.objs.size≤b)∧(∀ x c,X.env.cells.lookup x=some c→c≠b)∧∀ p∈X.pn++pins,p.1≠b
theorem Inv.fpOk {X:Cx} {pins:List (Addr×Obj)} {σ:St} {H H':Hp} {s:Shared} {b:Addr} (I:Inv X pins σ H s) (hb:s.heap.objs.size≤b) (hn:H' b=none):b1w X pins H' b:=by
 refine ⟨hn,Nat.ne_of_gt (Nat.lt_of_lt_of_le I.lt hb),I.nofs hb,.inr (Nat.le_trans I.sz hb),fun x c e z=>?_,fun p hp z=>?_⟩
 ·obtain ⟨v,q⟩:=I.cell x c e
  exact absurd (Nat.lt_of_lt_of_le q.lt (by rw [z]; exact hb)) (Nat.lt_irrefl _)
 ·exact absurd (Nat.lt_of_lt_of_le (Heap.lt_size (I.pin p hp).1) (by rw [z]; exact hb)) (Nat.lt_irrefl _)
structure Turn (P:Program) (w:World) (K:Γd) (tg:Expr) (J:It) (fp:List Addr) (it:Addr) (tn:Nat→Heap→Prop):Prop where
 mem:it∈fp
 obj:∀ i h,tn i h→∀ b∈fp,∃ o,h.get? b=some o∧∀ v,o.data≠.cell v
 keep:∀ i h h',tn i h→(∀ b∈fp,∀ o,h.get? b=some o→h'.get? b=some o)→tn i h'
 item:∀ (X:Cx),X.prog=P→X.w=w→X.K=K→X.calm=true→∀ (i:Nat) (pins:List (Addr×Obj)) (s:Shared) (σ:St) (H:Hp) (E:Value→Shared→Prop),Inv X pins σ H s→(∀ b∈fp,b1w X pins H b)→tn i s.heap→J.go i H →
  wpAny (model P w) X.A (pyNext (.ref it)) (fun r s1=>∃ u,r=some u ∧
   wpAny (model P w) X.A (letOwnedTupleGo tg (.ref it) u) (fun _ s2=>∃ x H',Inv X pins σ H' s2∧RelV x u∧J.yld i H x H'∧tn (i + 1) s2.heap∧∀ b∈fp,H' b=none) E s1) E s
 done:∀ (X:Cx),X.prog=P→X.w=w→X.K=K→X.calm=true→∀ (i:Nat) (pins:List (Addr×Obj)) (s:Shared) (σ:St) (H:Hp) (E:Value→Shared→Prop),Inv X pins σ H s→(∀ b∈fp,b1w X pins H b)→tn i s.heap→J.stop i H →
  wpAny (model P w) X.A (pyNext (.ref it)) (fun r s1=>r=none∧Inv X pins σ H s1) E s
 self:∀ (A:Around) (i:Nat) (s:Shared) (Q:Value→Shared→Prop) (E:Value→Shared→Prop),tn i s.heap→Q (.ref it) s→wpAny (model P w) A (pyIter (.ref it)) Q E s
abbrev TI:=St→Hp→(It→Hp→Prop)→Prop
def PIE (X:Cx) (pins:List (Addr×Obj)) (σ:St) (tg:Expr) (R:It→Hp→Prop) (itv:Value) (s2:Shared):Prop :=
 ∃ (it:Addr) (fp:List Addr) (tn:Nat→Heap→Prop) (J:It) (H':Hp),itv=.ref it∧Inv X pins σ H' s2∧Turn X.prog X.w X.K tg J fp it tn∧tn 0 s2.heap∧(∀ b∈fp,b1w X pins H' b)∧R J H'
def PI (X:Cx) (tg iter:Expr) (wi:TI):Prop :=
 ∀ (pins:List (Addr×Obj)) (s:Shared) (σ:St) (H:Hp) (R:It→Hp→Prop),Inv X pins σ H s→wi σ H R →
  wpAny (model X.prog X.w) X.A (eval iter X.env) (fun v s1=>wpAny (model X.prog X.w) X.A (pyIter v) (PIE X pins σ tg R) X.xe s1) X.xe s
theorem c1q {M : Model} {A : Around} {E : Value → Shared → Prop} {s : Shared} {tg : Expr} {it : Addr} {u : Value} {o : Obj} {n : String} {vs : Array Value} {Q : Unit → Shared → Prop} (ho : s.heap.get? it = some o) (hc : o.cls = .type n) (hd : o.data = .fields vs)
    (hn : ["enumerate", "zip", "dict_itemiterator", "dict_reverseitemiterator", "odict_iterator", "itertools.zip_longest", "itertools.pairwise"].contains n = false) (hQ : Q () s) : wpAny M A (letOwnedTupleGo tg (.ref it) u) Q E s := by
  unfold letOwnedTupleGo
  cases tg <;> first
    | exact Γb hQ
    | (cases u <;> first
        | exact Γb hQ
        | (refine Γa (wpAny_load ho ?_)
           rw [hc, hd]
           show wpAny M A (if (["enumerate", "zip", "dict_itemiterator", "dict_reverseitemiterator", "odict_iterator", "itertools.zip_longest", "itertools.pairwise"].contains n && vs[0]? == some (rawInt _)) = true then _ else _) Q E s
           rw [if_neg (by intro h; rw [hn, Bool.false_and] at h; cases h)]
           exact Γb hQ))
def Itl (K:Γd) (a:Addr):It :=
 ⟨fun i H=>∃ xs x,SqL K H a xs∧xs[i]?=some x,fun i H x H'=>H'=H∧∀ xs,SqL K H a xs→xs[i]?=some x,fun i H=>∃ xs,SqL K H a xs∧xs.length≤i⟩
def Itt (K:Γd) (a:Addr):It :=
 ⟨fun i H=>∃ xs x,SqT K H a xs∧xs[i]?=some x,fun i H x H'=>H'=H∧∀ xs,SqT K H a xs→xs[i]?=some x,fun i H=>∃ xs,SqT K H a xs∧xs.length≤i⟩
def Itr (lo:Int) (n:Nat):It:=⟨fun i _=>i < n,fun i H x H'=>H'=H∧x=.int (lo + i),fun i _=>n≤i⟩
theorem b5p {P:Program} {w:World} {K:Γd} {tg:Expr} (a it:Addr):Turn P w K tg (Itl K a) [it] it (fun i h=>h.IsListIter it a i) where
 mem:=by simp
 obj:=fun i h st b hb=>by
  have e:b=it:=by simpa using hb
  subst e
  obtain ⟨o,e,c,d⟩:=st
  exact ⟨o,e,fun v z=>by rw [d] at z; cases z⟩
 keep:=fun i h h' st k=>st.at fun o e=>k it (by simp) o e
 item:=by
  intro X hP hw hK hc i pins s σ H E I hf st hg
  subst hP hw hK
  obtain ⟨xs,x,hq,hx⟩:=hg
  obtain ⟨its,rv,p,hz⟩:=I.list hq
  obtain ⟨u,hu,ru⟩:=rv.get hx
  obtain ⟨f0,f1,f2,f3,f4,f5⟩:=hf it (by simp)
  refine wpAny_pyNext_list_item st p.isList (x:=u) (by simpa using hu) fun h' st' sb=>?_
  have I1:Inv X pins σ H { s with heap:=h' }:=I.turned (t':=s.toks) (fun b o hb e=>(sb.2 b hb).trans e) f0 f1 f3 f4 f5
  obtain ⟨o,e,c,d⟩:=id st'
  exact ⟨u,rfl,c1q (s:={ s with heap:=h' }) e c d (by decide) ⟨x,H,I1,ru,⟨rfl,fun ys hy=>by rw [I.list_inj hy hq]; exact hx⟩,st',fun b hb=>(hf b hb).1⟩⟩
 done:=by
  intro X hP hw hK hc i pins s σ H E I hf st hg
  subst hP hw hK
  obtain ⟨xs,hq,hx⟩:=hg
  obtain ⟨its,rv,p,hz⟩:=I.list hq
  obtain ⟨f0,f1,f2,f3,f4,f5⟩:=hf it (by simp)
  have hl:=rv.length
  exact wpAny_pyNext_list_end (I.ok.hd hc) st p.isList (by simp; lia) fun h' eb=>⟨rfl,I.turned (t':=s.toks) (fun b o hb e=>eb b o hb e) f0 f1 f3 f4 f5⟩
 self:=fun _ _ _ _ _ st h=>wpAny_pyIter_listiter st h
theorem b3v {P:Program} {w:World} {K:Γd} {tg:Expr} (a it:Addr):Turn P w K tg (Itt K a) [it] it (fun i h=>h.IsTupleIter it a i) where
 mem:=by simp
 obj:=fun i h st b hb=>by
  have e:b=it:=by simpa using hb
  subst e
  obtain ⟨o,e,c,d⟩:=st
  exact ⟨o,e,fun v z=>by rw [d] at z; cases z⟩
 keep:=fun i h h' st k=>st.at fun o e=>k it (by simp) o e
 item:=by
  intro X hP hw hK hc i pins s σ H E I hf st hg
  subst hP hw hK
  obtain ⟨xs,x,hq,hx⟩:=hg
  obtain ⟨its,rv,p,hz⟩:=I.tuple hq
  obtain ⟨u,hu,ru⟩:=rv.get hx
  obtain ⟨f0,f1,f2,f3,f4,f5⟩:=hf it (by simp)
  refine wpAny_pyNext_tuple_item st (show s.heap.IsTuple a its.toArray from p) (x:=u) (by simpa using hu) fun h' st' sb=>?_
  have I1:Inv X pins σ H { s with heap:=h' }:=I.turned (t':=s.toks) (fun b o hb e=>(sb.2 b hb).trans e) f0 f1 f3 f4 f5
  obtain ⟨o,e,c,d⟩:=id st'
  exact ⟨u,rfl,c1q (s:={ s with heap:=h' }) e c d (by decide) ⟨x,H,I1,ru,⟨rfl,fun ys hy=>by rw [I.tuple_inj hy hq]; exact hx⟩,st',fun b hb=>(hf b hb).1⟩⟩
 done:=by
  intro X hP hw hK hc i pins s σ H E I hf st hg
  subst hP hw hK
  obtain ⟨xs,hq,hx⟩:=hg
  obtain ⟨its,rv,p,hz⟩:=I.tuple hq
  obtain ⟨f0,f1,f2,f3,f4,f5⟩:=hf it (by simp)
  have hl:=rv.length
  exact wpAny_pyNext_tuple_end (I.ok.hd hc) st (show s.heap.IsTuple a its.toArray from p) (by simp; lia) fun h' eb=>⟨rfl,I.turned (t':=s.toks) (fun b o hb e=>eb b o hb e) f0 f1 f3 f4 f5⟩
 self:=fun _ _ _ _ _ st h=>wpAny_pyIter_tupleiter st h
theorem b3w {P:Program} {w:World} {K:Γd} {tg:Expr} (it:Addr) (lo:Int) (n:Nat):Turn P w K tg (Itr lo n) [it] it (fun i h=>IsRangeIter h it (lo + (i:Nat) * 1) ((n:Int) - (i:Nat)) 1) where
 mem:=by simp
 obj:=fun i h st b hb=>by
  have e:b=it:=by simpa using hb
  subst e
  exact ⟨_,st,fun v z=>by
   have z':Data.fields _=Data.cell v:=z
   cases z'⟩
 keep:=fun i h h' st k=>k it (by simp) _ st
 item:=by
  intro X hP hw hK hc i pins s σ H E I hf st hg
  subst hP hw hK
  obtain ⟨f0,f1,f2,f3,f4,f5⟩:=hf it (by simp)
  have W:=Walks.range (prog:=X.prog) (w:=X.w) (I.ok.hd hc) it lo 1 n
  refine W.item i s _ _ hg st fun v h' tk hv st' kk=>?_
  obtain ⟨t,rfl⟩:=hv
  have I1:Inv X pins σ H { s with heap:=h',toks:=tk }:=I.turned (fun b o hb e=>kk b o (by simpa using hb) e) f0 f1 f3 f4 f5
  refine ⟨_,rfl,c1q (s:={ s with heap:=h',toks:=tk }) (n:="range_iterator") st' rfl rfl (by decide) ⟨.int (lo + i),H,I1,⟨t,?_⟩,⟨rfl,rfl⟩,st',fun b hb=>(hf b hb).1⟩⟩
  rw [Int.mul_one]
 done:=by
  intro X hP hw hK hc i pins s σ H E I hf st hg
  subst hP hw hK
  obtain ⟨f0,f1,f2,f3,f4,f5⟩:=hf it (by simp)
  exact wpAny_pyNext_range_end (I.ok.hd hc) st (by have:n≤i:=hg; lia) fun h' eb=>⟨rfl,I.turned (t':=s.toks) (fun b o hb e=>eb b o hb e) f0 f1 f3 f4 f5⟩
 self:=fun _ _ _ _ _ st h=>wpAny_pyIter_rangeiter st h
end L2
namespace L2
open PySem PySem.Spec PyProof.Rows
section
variable {X:Cx} {tg:Expr}
theorem b2l {pins:List (Addr×Obj)} {σ:St} {H:Hp} {s:Shared} {R:It→Hp→Prop} {E:Value→Shared→Prop} {lo hi:Int} {t u v:Tok} {tk:Nat} (I:Inv X pins σ H s) (h1:-(2 ^ 62)≤lo) (h2:lo < 2 ^ 62) (h3:-(2 ^ 62)≤hi) (h4:hi < 2 ^ 62)
  (q:R (Itr lo (hi - lo).toNat) H):wpAny (model X.prog X.w) X.A (pyIter (.ref s.heap.objs.size)) (PIE X pins σ tg R) E { s with heap:=s.heap.push { cls:=.type "range",data:=.fields #[.int lo t,.int hi u,.int 1 v] },toks:=tk }:=by
 refine wpAny_pyIter_range (IsRange.new ..) (small_one h1 h2 h3 h4) ?_
 have I1:Inv X pins σ H { s with heap:=s.heap.push { cls:=.type "range",data:=.fields #[.int lo t,.int hi u,.int 1 v] },toks:=tk }:=I.kept fun b o e=>Γc _ e
 refine ⟨(s.heap.push { cls:=.type "range",data:=.fields #[.int lo t,.int hi u,.int 1 v] }).objs.size,[(s.heap.push { cls:=.type "range",data:=.fields #[.int lo t,.int hi u,.int 1 v] }).objs.size],_,_,H,rfl,
  I1.kept (t':=tk) fun b o e=>Γc _ e,b3w _ lo (hi - lo).toNat,?_,fun b hb=>?_,q⟩
 ·have e1:lo + ((0:Nat):Int) * 1=lo:=by simp
  have e2:(((hi - lo).toNat:Nat):Int) - ((0:Nat):Int)=Builtin.Range.rangeSize lo hi 1:=by rw [rangeSize_one]; split <;> lia
  show IsRangeIter _ _ (lo + ((0:Nat):Int) * 1) ((((hi - lo).toNat:Nat):Int) - ((0:Nat):Int)) 1
  rw [e1,e2]
  exact Heap.get?_push_size _ rfl
 ·have e:b=(s.heap.push { cls:=.type "range",data:=.fields #[.int lo t,.int hi u,.int 1 v] }).objs.size:=by simpa using hb
  subst e
  exact I1.fpOk (Nat.le_refl _) (I1.hok.fresh (Nat.le_refl _))
def d6r (ta:TA):TI:=fun σ H R=>ta σ H fun vs H1=>∃ j:Int,vs=[.int j]∧-(2 ^ 62)≤j∧j < 2 ^ 62∧R (Itr 0 j.toNat) H1
def iRng2 (ta:TA):TI:=fun σ H R=>ta σ H fun vs H1=>∃ i j:Int,vs=[.int i,.int j]∧(-(2 ^ 62)≤i∧i < 2 ^ 62∧-(2 ^ 62)≤j∧j < 2 ^ 62)∧R (Itr i (j - i).toNat) H1
theorem b6u {a:Expr} {ta:TA} {p pos:Pos} (hg:Gl X "range") (hm:X.mg "range" = none) (ha:PA X [a] ta) (hs:starEach [a] X.env=[(false,eval a X.env)]:=by rfl):PI X tg (.Call (.Name "range" p) [a] [] pos) (d6r ta):=by
 intro pins s σ H R I h
 refine Call_ (a2u I hg hm boot_range (PyProof.Rows.callWith_type1 (thn (ha pos pins s σ H _ I h) fun us s1 ⟨vs,H1,I1,r1,q1⟩=>?_) hs rfl))
 obtain ⟨j,e,q1,q2,q⟩:=q1
 subst e
 cases r1 with
 | cons r rr =>
  cases rr
  obtain ⟨t,rfl⟩:=r
  exact call_range_1 (b2l I1 (by lia) (by lia) q1 q2 (by simpa using q))
theorem b6t {a b:Expr} {ta:TA} {p pos:Pos} (hg:Gl X "range") (hm:X.mg "range" = none) (ha:PA X [a,b] ta) (hs:starEach [a,b] X.env=[(false,eval a X.env),(false,eval b X.env)]:=by rfl) (hs2:starEach [b] X.env=[(false,eval b X.env)]:=by rfl) :
  PI X tg (.Call (.Name "range" p) [a,b] [] pos) (iRng2 ta):=by
 intro pins s σ H R I h
 refine Call_ (a2u I hg hm boot_range (PyProof.Rows.callWith_type1 (thn (ha pos pins s σ H _ I h) fun us s1 ⟨vs,H1,I1,r1,q1⟩=>?_) (by rw [hs,hs2]) (by rw [hs2]; rfl)))
 obtain ⟨i,j,e,⟨q1,q2,q3,q4⟩,q⟩:=q1
 subst e
 cases r1 with
 | cons r rr =>
  cases rr with
  | cons r' rr =>
   cases rr
   obtain ⟨t,rfl⟩:=r
   obtain ⟨t',rfl⟩:=r'
   exact call_range_2 (b2l I1 q1 q2 q3 q4 q)
def tFor (wi:TI) (g:TG) (tb:TS):TS:=fun D σ H=>wi σ H fun J H1=>∃ W:Nat→Nat→St→Hp→Prop,(∃ m,W 0 m σ H1)∧∀ i m σ H,W i m σ H →
 (J.stop i H∧D.nx σ H) ∨ (J.go i H∧∃ N:St→Hp→Prop,(∀ σ' H',N σ' H'→∃ m',m' < m∧W (i + 1) m' σ' H')∧∀ x H',J.yld i H x H'→g x σ H' fun σ2 H2=>tb { D with nx:=N,ct:=N,bk:=D.nx } σ2 H2)
def a5m (fp:List Addr) (h:Heap):List (Addr×Obj):=fp.filterMap fun b=>(h.get? b).map fun o=>(b,o)
theorem a2d {fp:List Addr} {h:Heap} {b:Addr} {o:Obj} (hb:b∈fp) (e:h.get? b=some o):(b,o)∈a5m fp h:=List.mem_filterMap.mpr ⟨b,hb,by rw [e]; rfl⟩
theorem b7c {fp:List Addr} {h:Heap} {p:Addr×Obj} (hp:p∈a5m fp h):p.1∈fp∧h.get? p.1=some p.2:=by
 obtain ⟨b,hb,e⟩:=List.mem_filterMap.mp hp
 cases q:h.get? b with
 | none=>rw [q] at e; cases e
 | some o =>
  rw [q] at e
  have e':(b,o)=p:=Option.some.inj e
  subst e'
  exact ⟨hb,q⟩
theorem Inv.pinned {pins:List (Addr×Obj)} {σ:St} {H:Hp} {s:Shared} {fp:List Addr} (I:Inv X pins σ H s) (hf:∀ b∈fp,b1w X pins H b) (ho:∀ b∈fp,∃ o,s.heap.get? b=some o∧∀ v,o.data≠.cell v):Inv X (pins++a5m fp s.heap) σ H s :=
 I.pins_of fun p hp=>(List.mem_append.mp hp).elim (fun z=>I.pin p (List.mem_append_right _ z)) fun z=>by
  obtain ⟨hb,e⟩:=b7c z
  obtain ⟨f0,f1,f2,_⟩:=hf p.1 hb
  obtain ⟨o,e',d⟩:=ho p.1 hb
  rw [e] at e'; cases e'
  exact ⟨e,f0,f1,f2,d⟩
theorem Inv.unpinned {pins pl:List (Addr×Obj)} {σ:St} {H:Hp} {s:Shared} (I:Inv X (pins++pl) σ H s):Inv X pins σ H s:=I.pins_of fun p hp=>I.pin p (List.mem_append_right _ (List.mem_append_left _ hp))
theorem c9i {iter:Expr} {body:List Stmt} {wi:TI} {g:TG} {tb:TS} {pos:Pos} (hp:PassesOwn (model X.prog X.w) X.A X.env X.xe) (hc:X.calm=true) (hi:PI X tg iter wi) (hg:PG X tg g) (hb:PSs X body tb)
  (hs:∀ x,foldedSetIterable iter X.env x=pure x:=by intro _; rfl):PS X (.For tg iter body [] pos) (tFor wi g tb):=by
 intro pins s σ H D I h
 refine wpAny_For (thn (hi pins s σ H _ I h) fun v s1 h1=>thn h1 fun itv s2 h2=>?_) hs
 obtain ⟨it,fp,tn,J,H2,e,I2,T,st2,f2,W,⟨m0,w0⟩,turn⟩:=h2
 subst e
 -- what stays true of the iterator's objects through the loop
 have stat:∀ {H':Hp},(∀ b∈fp,H' b=none)→∀ b∈fp,b1w X pins H' b:=fun hn b hb=>⟨hn b hb,(f2 b hb).2⟩
 refine codeAny_forLoop_any (fun n s'=>∃ i σ' H',Inv X pins σ' H' s'∧tn i s'.heap∧(∀ b∈fp,H' b=none)∧W i n σ' H') ?_ m0 ⟨0,σ,H2,I2,st2,fun b hb=>(f2 b hb).1,w0⟩
 rintro n s3 ⟨i,σ3,H3,I3,st3,fr3,w3⟩
 rcases turn i n σ3 H3 w3 with ⟨stop,qn⟩ | ⟨go,N,hN,step⟩
 ·refine wpAny_passesOwn hp (thn (T.done X rfl rfl rfl hc i pins s3 σ3 H3 X.xe I3 (stat fr3) st3 stop) fun r s4 ⟨hr,I4⟩=>?_)
  subst hr
  exact wpAny_execs_nil ⟨σ3,H3,I4,qn⟩
 ·refine wpAny_passesOwn hp (thn (T.item X rfl rfl rfl hc i pins s3 σ3 H3 X.xe I3 (stat fr3) st3 go) fun r s4 ⟨u,hr,h4⟩=>?_)
  subst hr
  refine wpAny_passesOwn hp (thn h4 fun _ s5 ⟨x,H5,I5,r5,y5,st5,fr5⟩=>?_)
  have I5':=I5.pinned (stat fr5) (T.obj _ _ st5)
  refine wpAny_passesOwn hp (thn (hg _ s5 σ3 H5 x u _ I5' r5 (step x H5 y5)) fun _ s6 ⟨σ6,H6,I6,q6⟩=>?_)
  refine wpAny_passesOwn hp (thn (hb _ s6 σ6 H6 _ I6 q6) fun f s7 q7=>?_)
  have again:∀ {σ7:St} {H7:Hp},Inv X (pins++a5m fp s5.heap) σ7 H7 s7→N σ7 H7→∃ m,m < n∧∃ i σ' H',Inv X pins σ' H' s7∧tn i s7.heap∧(∀ b∈fp,H' b=none)∧W i m σ' H':=fun {σ7 H7} I7 n7=>by
   obtain ⟨m',hm,w7⟩:=hN σ7 H7 n7
   refine ⟨m',hm,i + 1,σ7,H7,I7.unpinned,T.keep _ _ _ st5 fun b hb o e=>(I7.pin (b,o) (List.mem_append_right _ (List.mem_append_right _ (a2d hb e)))).1,fun b hb=>?_,w7⟩
   obtain ⟨o,e,d⟩:=T.obj _ _ st5 b hb
   exact (I7.pin (b,o) (List.mem_append_right _ (List.mem_append_right _ (a2d hb e)))).2.1
  cases f with
  | next=>obtain ⟨σ7,H7,I7,n7⟩:=q7; exact again I7 n7
  | cont=>obtain ⟨σ7,H7,I7,n7⟩:=q7; exact again I7 n7
  | brk=>obtain ⟨σ7,H7,I7,q7⟩:=q7; exact ⟨σ7,H7,I7.unpinned,q7⟩
  | ret v=>obtain ⟨x7,σ7,H7,I7,r7,q7⟩:=q7; exact ⟨x7,σ7,H7,I7.unpinned,r7,q7⟩
end
theorem while_by {c:TT} {tb:TS} {D:Ends} {σ:St} {H:Hp} (Pv:St→Hp→Prop) (μ:St→Hp→Nat) (h0:Pv σ H)
  (hs:∀ σ H,Pv σ H→c σ H fun b H1=>if b=true then tb { D with nx:=fun σ' H'=>Pv σ' H'∧μ σ' H' < μ σ H,ct:=fun σ' H'=>Pv σ' H'∧μ σ' H' < μ σ H,bk:=D.nx } σ H1 else D.nx σ H1)
  (mono:∀ σ H Q Q',(∀ b H1,Q b H1→Q' b H1)→c σ H Q→c σ H Q'):c2s c tb D σ H:=by
 refine ⟨fun m σ H=>m=μ σ H∧Pv σ H,⟨_,rfl,h0⟩,?_⟩
 rintro m σ H ⟨rfl,p⟩
 refine mono σ H _ _ (fun b H1 q=>?_) (hs σ H p)
 cases b with
 | true=>exact ⟨_,fun σ' H' ⟨p',l⟩=>⟨_,l,rfl,p'⟩,q⟩
 | false=>exact q
end L2
namespace L2
open PySem PySem.Spec PyProof.Rows
abbrev R2:=V→V→Hp→VK→Prop
def OpR (X:Cx) (f:Value→Value→Sem Value) (r:R2):Prop :=
 ∀ (pins:List (Addr×Obj)) (s:Shared) (σ:St) (H:Hp) (x y:V) (v u:Value) (Q:VK),Inv X pins σ H s→RelV x v→RelV y u→r x y H Q →
  wpAny (model X.prog X.w) X.A (f v u) (EP X pins σ Q) X.xe s
def UnR (X:Cx) (f:Value→Sem Value) (r:V→Hp→VK→Prop):Prop :=
 ∀ (pins:List (Addr×Obj)) (s:Shared) (σ:St) (H:Hp) (x:V) (v:Value) (Q:VK),Inv X pins σ H s→RelV x v→r x H Q →
  wpAny (model X.prog X.w) X.A (f v) (EP X pins σ Q) X.xe s
def a1l (X:Cx) (f:Value) (r:List V→Hp→VK→Prop):Prop :=
 ∀ (pins:List (Addr×Obj)) (s:Shared) (σ:St) (H:Hp) (xs:List V) (us:List Value) (Q:VK),Inv X pins σ H s→Vals xs us→r xs H Q →
  wpAny (model X.prog X.w) X.A (call f us) (EP X pins σ Q) X.xe s
def TruR (X:Cx) (r:V→Hp→(Bool→Hp→Prop)→Prop):Prop :=
 ∀ (pins:List (Addr×Obj)) (s:Shared) (σ:St) (H:Hp) (x:V) (v:Value) (Q:Bool→Hp→Prop),Inv X pins σ H s→RelV x v→r x H Q →
  wpAny (model X.prog X.w) X.A (truthy v) (TP X pins σ Q) X.xe s
def tOp (r:R2) (ta tb:TE):TE:=fun σ H Q=>ta σ H fun x H1=>tb σ H1 fun y H2=>r x y H2 Q
def tUn (r:V→Hp→VK→Prop) (ta:TE):TE:=fun σ H Q=>ta σ H fun x H1=>r x H1 Q
def rI (C:Int→Int→Prop) (g:Int→Int→V):R2:=fun x y H Q=>∃ i j,x=.int i∧y=.int j∧C i j∧Q (g i j) H
def rI0 (g:Int→Int→V):R2:=fun x y H Q=>∃ i j,x=.int i∧y=.int j∧Q (g i j) H
def rU (g:Int→V):V→Hp→VK→Prop:=fun x H Q=>∃ i,x=.int i∧Q (g i) H
section
variable {X:Cx} {a b c:Expr} {ta tb tc:TE} {pos:Pos}
theorem d9q (ha:PE X a ta) (hb:PE X b tb) {pins:List (Addr×Obj)} {s:Shared} {σ:St} {H:Hp} {R:V→V→Hp→Prop} (I:Inv X pins σ H s)
  (h:ta σ H fun x H1=>tb σ H1 fun y H2=>R x y H2) {Q:Value→Shared→Prop} {f:Value→Value→Sem Value}
  (hf:∀ v u s2 x y H2,Inv X pins σ H2 s2→RelV x v→RelV y u→R x y H2→wpAny (model X.prog X.w) X.A (f v u) Q X.xe s2) :
  wpAny (model X.prog X.w) X.A (eval a X.env) (fun v s₁=>wpAny (model X.prog X.w) X.A (eval b X.env) (fun u s₂=>wpAny (model X.prog X.w) X.A (f v u) Q X.xe s₂) X.xe s₁) X.xe s:=by
 refine thn (ha pins s σ H _ I h) fun v s1 ⟨x,H1,I1,r1,q1⟩=>?_
 refine thn (hb pins s1 σ H1 _ I1 q1) fun u s2 ⟨y,H2,I2,r2,q2⟩=>?_
 exact hf v u s2 x y H2 I2 r1 r2 q2
theorem d5u {op:Operator} {r:R2} (ho:OpR X (binaryOp op) r) (ha:PE X a ta) (hb:PE X b tb):PE X (.BinOp a op b pos) (tOp r ta tb):=by
 intro pins s σ H Q I h
 exact wpAny_BinOp (d9q ha hb I h fun v u s2 x y H2 I2 rx ry q=>ho pins s2 σ H2 x y v u Q I2 rx ry q)
theorem d5t {op:UnaryOp} {r:V→Hp→VK→Prop} (ho:UnR X (unaryOp op) r) (ha:PE X a ta):PE X (.UnaryOp op a pos) (tUn r ta):=by
 intro pins s σ H Q I h
 exact UnaryOp_ (thn (ha pins s σ H _ I h) fun v s1 ⟨x,H1,I1,r1,q1⟩=>ho pins s1 σ H1 x v Q I1 r1 q1)
theorem opI {f:Value→Value→Sem Value} {C:Int→Int→Prop} {g:Int→Int→Int}
  (rule:∀ (i j:Int) (t u:Tok) (s:Shared) (Q:Value→Shared→Prop) (E:Value→Shared→Prop),C i j→Q (.int (g i j) s.toks) { s with toks:=s.toks + 1 }→wpAny (model X.prog X.w) X.A (f (.int i t) (.int j u)) Q E s) :
  OpR X f (rI C fun i j=>.int (g i j)):=by
 intro pins s σ H x y v u Q I rx ry h
 obtain ⟨i,j,rfl,rfl,hc,q⟩:=h
 obtain ⟨t,rfl⟩:=rx
 obtain ⟨t',rfl⟩:=ry
 exact rule i j t t' s _ _ hc ⟨.int (g i j),H,I.tok _,⟨_,rfl⟩,q⟩
theorem opI0 {f:Value→Value→Sem Value} {g:Int→Int→Int}
  (rule:∀ (i j:Int) (t u:Tok) (s:Shared) (Q:Value→Shared→Prop) (E:Value→Shared→Prop),Q (.int (g i j) s.toks) { s with toks:=s.toks + 1 }→wpAny (model X.prog X.w) X.A (f (.int i t) (.int j u)) Q E s) :
  OpR X f (rI0 fun i j=>.int (g i j)):=by
 intro pins s σ H x y v u Q I rx ry h
 obtain ⟨i,j,rfl,rfl,q⟩:=h
 obtain ⟨t,rfl⟩:=rx
 obtain ⟨t',rfl⟩:=ry
 exact rule i j t t' s _ _ ⟨.int (g i j),H,I.tok _,⟨_,rfl⟩,q⟩
theorem d2l {f:Value→Value→Sem Value} {g:Int→Int→Bool}
  (rule:∀ (i j:Int) (t u:Tok) (s:Shared) (Q:Value→Shared→Prop) (E:Value→Shared→Prop),Q (.bool (g i j)) s→wpAny (model X.prog X.w) X.A (f (.int i t) (.int j u)) Q E s) :
  OpR X f (rI0 fun i j=>.bl (g i j)):=by
 intro pins s σ H x y v u Q I rx ry h
 obtain ⟨i,j,rfl,rfl,q⟩:=h
 obtain ⟨t,rfl⟩:=rx
 obtain ⟨t',rfl⟩:=ry
 exact rule i j t t' s _ _ ⟨.bl (g i j),H,I,rfl,q⟩
def CDiv (i j:Int):Prop:=0 < j∧j < 1073741824
def CPow (i j:Int):Prop:=0≤j∧j≤1000000∧i.natAbs < 2 ^ 64
def CMul (i j:Int):Prop:=(-(2 ^ 64) < i∧i < 2 ^ 64) ∨ (-(2 ^ 64) < j∧j < 2 ^ 64)
theorem CMul.ok {i j:Int} (h:CMul i j):IntMulOk i j:=by
 rcases h with ⟨h1,h2⟩ | ⟨h1,h2⟩
 ·exact .of_left (intBits_le_64 h1 h2)
 ·exact .of_right (intBits_le_64 h1 h2)
theorem d0d:OpR X (binaryOp .Add) (rI0 fun i j=>.int (i + j)):=opI0 fun _ _ _ _ _ _ _ q=>add_int q
theorem c9v:OpR X (binaryOp .Sub) (rI0 fun i j=>.int (i - j)):=opI0 fun _ _ _ _ _ _ _ q=>sub_int q
theorem c9y:OpR X (binaryOp .Mult) (rI CMul fun i j=>.int (i * j)):=opI fun _ _ _ _ _ _ _ hc q=>mul_int q hc.ok
theorem c5q:OpR X (binaryOp .FloorDiv) (rI CDiv fun i j=>.int (i / j)):=opI fun i j _ _ _ _ _ hc q=>by
 have h1:(0:Int) < j:=hc.1
 have h2:j < 1073741824:=hc.2
 exact floordiv_int (by lia) (by rw [Int.fdiv_eq_ediv_of_nonneg i (by lia)]; exact q) (.inl (PyProof.noPylong_small (by lia)))
theorem c9z:OpR X (binaryOp .Mod) (rI (fun _ j=>0 < j) fun i j=>.int (i % j)):=opI fun i j _ _ _ _ _ hc q=>by
 have h1:(0:Int) < j:=hc
 exact mod_int' (by lia) (by rw [Int.fmod_eq_emod_of_nonneg i (by lia)]; exact q)
theorem c9x:OpR X (binaryOp .Pow) (rI CPow fun i j=>.int (i ^ j.toNat)):=opI fun _ _ _ _ _ _ _ hc q=>pow_int_small hc.1 hc.2.1 hc.2.2 q
theorem unI {f:Value→Sem Value} {g:Int→Int}
  (rule:∀ (i:Int) (t:Tok) (s:Shared) (Q:Value→Shared→Prop) (E:Value→Shared→Prop),Q (.int (g i) s.toks) { s with toks:=s.toks + 1 }→wpAny (model X.prog X.w) X.A (f (.int i t)) Q E s) :
  UnR X f (rU fun i=>.int (g i)):=by
 intro pins s σ H x v Q I rx h
 obtain ⟨i,rfl,q⟩:=h
 obtain ⟨t,rfl⟩:=rx
 exact rule i t s _ _ ⟨.int (g i),H,I.tok _,⟨_,rfl⟩,q⟩
theorem c8b:UnR X (unaryOp .USub) (rU fun i=>.int (-i)):=unI fun _ _ _ _ _ q=>neg_int q
end
def scal:V→V→Bool
 | .non,.non=>true | .non,.int _=>true | .int _,.non=>true | .non,.bl _=>true | .bl _,.non=>true | .non,.str _=>true | .str _,.non=>true
 | .int _,.int _=>true | .bl _,.bl _=>true | .str _,.str _=>true | .byt _,.byt _=>true
 | .int _,.str _=>true | .str _,.int _=>true | .bl _,.str _=>true | .str _,.bl _=>true
 | _,_=>false
def rEq:R2:=fun x y H Q=>scal x y=true∧Q (.bl (decide (x=y))) H
def rNe:R2:=fun x y H Q=>scal x y=true∧Q (.bl (!decide (x=y))) H
theorem b8o {i j:Int}:decide (V.int i=V.int j)=(i == j):=by
 rw [Bool.eq_iff_iff]
 simp
theorem c3t {i j:Bool}:decide (V.bl i=V.bl j)=(i == j):=by
 rw [Bool.eq_iff_iff]
 simp
theorem b8n {i j:Str}:decide (V.str i=V.str j)=(i == j):=by
 rw [Bool.eq_iff_iff]
 simp
theorem b8p {i j:Array UInt8}:decide (V.byt i=V.byt j)=(i.toList == j.toList):=by
 rw [Bool.eq_iff_iff]
 cases i
 cases j
 simp
section
variable {X:Cx} {a b c:Expr} {ta tb tc:TE} {pos:Pos}
theorem a0u {pins:List (Addr×Obj)} {σ:St} {H:Hp} {s:Shared} {Q:VK} {k k':Bool} (I:Inv X pins σ H s) (q:Q (.bl k) H) (e:k=k'):EP X pins σ Q (.bool k') s:=by
 subst e
 exact ⟨.bl k,H,I,rfl,q⟩
theorem d6f:OpR X (compareOp .Eq) rEq:=by
 intro pins s σ H x y v u Q I rx ry h
 obtain ⟨hs,q⟩:=h
 cases x with
 | non =>
  cases rx
  cases y with
  | non=>cases ry; exact PySem.EqNone.eq_none_none (a0u I q (by simp))
  | bl j=>cases ry; exact PySem.EqNone.eq_none_bool (a0u I q (by simp))
  | int j=>obtain ⟨t',rfl⟩:=ry; exact PySem.EqNone.eq_none_int (a0u I q (by simp))
  | str j=>obtain ⟨t',rfl⟩:=ry; exact PySem.EqNone.eq_none_str (a0u I q (by simp))
  | _=>exact absurd (show false=true from hs) Bool.false_ne_true
 | bl i =>
  cases rx
  cases y with
  | non=>cases ry; exact PySem.EqNone.eq_bool_none (a0u I q (by simp))
  | bl j=>cases ry; exact eq_bool (a0u I q c3t)
  | str j=>obtain ⟨t',rfl⟩:=ry; exact PySem.EqMixed.eq_bool_str (a0u I q (by simp))
  | _=>exact absurd (show false=true from hs) Bool.false_ne_true
 | int i =>
  obtain ⟨t,rfl⟩:=rx
  cases y with
  | non=>cases ry; exact PySem.EqNone.eq_int_none (a0u I q (by simp))
  | int j=>obtain ⟨t',rfl⟩:=ry; exact eq_int (a0u I q b8o)
  | str j=>obtain ⟨t',rfl⟩:=ry; exact PySem.EqMixed.eq_int_str (a0u I q (by simp))
  | _=>exact absurd (show false=true from hs) Bool.false_ne_true
 | str i =>
  obtain ⟨t,rfl⟩:=rx
  cases y with
  | non=>cases ry; exact PySem.EqNone.eq_str_none (a0u I q (by simp))
  | bl j=>cases ry; exact PySem.EqMixed.eq_str_bool (a0u I q (by simp))
  | int j=>obtain ⟨t',rfl⟩:=ry; exact PySem.EqMixed.eq_str_int (a0u I q (by simp))
  | str j=>obtain ⟨t',rfl⟩:=ry; exact eq_str (a0u I q b8n)
  | _=>exact absurd (show false=true from hs) Bool.false_ne_true
 | byt i =>
  obtain ⟨t,rfl⟩:=rx
  cases y with
  | byt j=>obtain ⟨t',rfl⟩:=ry; exact PySem.W.eq_bytes (a0u I q b8p)
  | _=>exact absurd (show false=true from hs) Bool.false_ne_true
 | _=>cases y <;> exact absurd (show false=true from hs) Bool.false_ne_true
theorem d6a:OpR X (compareOp .NotEq) rNe:=by
 intro pins s σ H x y v u Q I rx ry h
 obtain ⟨hs,q⟩:=h
 cases x with
 | non =>
  cases rx
  cases y with
  | non=>cases ry; exact PySem.EqNone.ne_none_none (a0u I q (by simp))
  | bl j=>cases ry; exact PySem.EqNone.ne_none_bool (a0u I q (by simp))
  | int j=>obtain ⟨t',rfl⟩:=ry; exact PySem.EqNone.ne_none_int (a0u I q (by simp))
  | str j=>obtain ⟨t',rfl⟩:=ry; exact PySem.EqNone.ne_none_str (a0u I q (by simp))
  | _=>exact absurd (show false=true from hs) Bool.false_ne_true
 | bl i =>
  cases rx
  cases y with
  | non=>cases ry; exact PySem.EqNone.ne_bool_none (a0u I q (by simp))
  | bl j=>cases ry; exact ne_bool (a0u I q (congrArg not c3t))
  | str j=>obtain ⟨t',rfl⟩:=ry; exact PySem.EqMixed.ne_bool_str (a0u I q (by simp))
  | _=>exact absurd (show false=true from hs) Bool.false_ne_true
 | int i =>
  obtain ⟨t,rfl⟩:=rx
  cases y with
  | non=>cases ry; exact PySem.EqNone.ne_int_none (a0u I q (by simp))
  | int j=>obtain ⟨t',rfl⟩:=ry; exact ne_int (a0u I q (congrArg not b8o))
  | str j=>obtain ⟨t',rfl⟩:=ry; exact PySem.EqMixed.ne_int_str (a0u I q (by simp))
  | _=>exact absurd (show false=true from hs) Bool.false_ne_true
 | str i =>
  obtain ⟨t,rfl⟩:=rx
  cases y with
  | non=>cases ry; exact PySem.EqNone.ne_str_none (a0u I q (by simp))
  | bl j=>cases ry; exact PySem.EqMixed.ne_str_bool (a0u I q (by simp))
  | int j=>obtain ⟨t',rfl⟩:=ry; exact PySem.EqMixed.ne_str_int (a0u I q (by simp))
  | str j=>obtain ⟨t',rfl⟩:=ry; exact ne_str (a0u I q (congrArg not b8n))
  | _=>exact absurd (show false=true from hs) Bool.false_ne_true
 | byt i =>
  obtain ⟨t,rfl⟩:=rx
  cases y with
  | byt j=>obtain ⟨t',rfl⟩:=ry; exact PySem.W.ne_bytes (a0u I q (congrArg not b8p))
  | _=>exact absurd (show false=true from hs) Bool.false_ne_true
 | _=>cases y <;> exact absurd (show false=true from hs) Bool.false_ne_true
theorem d6b:OpR X (compareOp .Lt) (rI0 fun i j=>.bl (decide (i < j))):=d2l fun _ _ _ _ _ _ _ q=>lt_int q
theorem d6c:OpR X (compareOp .LtE) (rI0 fun i j=>.bl (decide (i≤j))):=d2l fun _ _ _ _ _ _ _ q=>le_int q
theorem d6d:OpR X (compareOp .Gt) (rI0 fun i j=>.bl (decide (j < i))):=d2l fun _ _ _ _ _ _ _ q=>gt_int q
theorem d6e:OpR X (compareOp .GtE) (rI0 fun i j=>.bl (decide (j≤i))):=d2l fun _ _ _ _ _ _ _ q=>ge_int q
def d6l:HO→Bool
 | .lst _=>true
 | .ins _ _ _=>true
 | _=>false
theorem obj_there {pins:List (Addr×Obj)} {s:Shared} {σ:St} {H:Hp} {a:Addr} {o:HO} (I:Inv X pins σ H s) (h:H a=some o) (p:d6l o=true):∃ ob,s.heap.get? a=some ob∧ob.cls≠.type "tuple":=by
 cases o with
 | lst xs =>
  obtain ⟨_,its,n,_,e⟩:xs.length≤sizeLine∧∃ (its:List Value) (n:Nat),Vals xs its∧s.heap.get? a=some { cls:=.type "list",data:=.seq its.toArray n }:=I.hok a _ h
  exact ⟨_,e,(by show Value.type "list"≠.type "tuple"; nofun)⟩
 | ins C dx fs =>
  have x:=I.hok a _ h
  obtain ⟨_,_,_,e,_⟩:=x
  exact ⟨_,e,(by show Value.ref C≠.type "tuple"; exact fun z=>by cases z)⟩
 | _=>exact absurd (show false=true from p) Bool.false_ne_true
theorem nomark (b:Expr) {op:CmpOp} (h:op≠.In:=by decide) (h2:op≠.NotIn:=by decide):behindInMarks op b=false:=by
 have e1:(op == CmpOp.In)=false:=by cases op <;> first | rfl | exact absurd rfl h
 have e2:(op == CmpOp.NotIn)=false:=by cases op <;> first | rfl | exact absurd rfl h2
 cases b <;> simp [behindInMarks,e1,e2]
theorem c5j {op:CmpOp} {r:R2} (ho:OpR X (compareOp op) r) (ha:PE X a ta) (hb:PE X b tb) (hm:behindInMarks op b=false):PE X (.Compare a [op] [b] pos) (tOp r ta tb):=by
 intro pins s σ H Q I h
 exact wpAny_Compare1 (d9q ha hb I h fun v u s2 x y H2 I2 rx ry q=>ho pins s2 σ H2 x y v u Q I2 rx ry q) hm
def d4b (t:TE):TT:=fun σ H Q=>t σ H fun x H'=>∃ k,x=.bl k∧Q k H'
theorem c4w {op:CmpOp} {r:R2} (ho:OpR X (compareOp op) r) (ha:PE X a ta) (hb:PE X b tb) (hm:behindInMarks op b=false):PT X (.Compare a [op] [b] pos) (d4b (tOp r ta tb)):=by
 intro pins s σ H Q I h
 refine wpAny_isTrue_Compare1 (thn (ha pins s σ H _ I h) fun v s1 ⟨x,H1,I1,r1,q1⟩=>thn (hb pins s1 σ H1 _ I1 q1) fun u s2 ⟨y,H2,I2,r2,q2⟩ =>
  thn (ho pins s2 σ H2 x y v u _ I2 r1 r2 q2) fun c s3 ⟨z,H3,I3,r3,k,e,q3⟩=>?_) hm
 subst e
 cases r3
 exact wpAny_truthy_bool ⟨H3,I3,q3⟩
def c2t (r r':R2) (ta tb tc:TE):TE:=fun σ H Q=>ta σ H fun x H1=>tb σ H1 fun y H2=>r x y H2 fun z H3=>∃ k,z=.bl k ∧
 (if k=true then tc σ H3 fun w' H4=>r' y w' H4 Q else Q (.bl false) H3)
theorem c0x {op op':CmpOp} {r r':R2} (ho:OpR X (compareOp op) r) (ho':OpR X (compareOp op') r') (ha:PE X a ta) (hb:PE X b tb) (hc:PE X c tc)
  (hm:lastMarks [op,op'] [b,c]=false:=by with_unfolding_all rfl):PE X (.Compare a [op,op'] [b,c] pos) (c2t r r' ta tb tc):=by
 intro pins s σ H Q I h
 refine Compare_chain (thn (ha pins s σ H _ I h) fun v s1 ⟨x,H1,I1,r1,q1⟩=>chain_link (thn (hb pins s1 σ H1 _ I1 q1) fun u s2 ⟨y,H2,I2,r2,q2⟩ =>
  thn (ho pins s2 σ H2 x y v u _ I2 r1 r2 q2) fun d s3 ⟨z,H3,I3,r3,k,e,q3⟩=>?_)) hm
 subst e
 cases r3
 refine wpAny_truthy_bool ?_
 cases k with
 | false=>exact ite_ff ⟨.bl false,H3,I3,rfl,q3⟩
 | true=>exact ite_tt (chain_last (thn (hc pins s3 σ H3 _ I3 q3) fun w' s4 ⟨z',H4,I4,r4,q4⟩=>ho' pins s4 σ H4 y z' u w' Q I4 r2 r4 q4))
def d3w (K:Γd) (x:V) (H:Hp) (k:Bool):Prop :=
 match x with
 | .non=>k=false
 | .bl b=>k=b
 | .int i=>k=(i != 0)
 | .str y=>y.length≤sizeLine∧k=((y.length:Int) != 0)
 | .byt y=>y.size≤sizeLine∧k=((y.size:Int) != 0)
 | .ref p=>(∃ xs,SqL K H p xs∧k = !xs.isEmpty) ∨ (∃ xs,SqT K H p xs∧k = !xs.isEmpty) ∨ ∃ kvs,H p=some (.dK kvs)∧k = !kvs.isEmpty
 | _=>False
theorem b4l {κ:Type} {kvs:List (κ×V)} {vs:List (κ×Value)} (r:KV kvs vs):(!vs.isEmpty) = !kvs.isEmpty:=by
 cases r <;> rfl
theorem a7d {xs:List V} {its:List Value} (r:Vals xs its):(!its.toArray.isEmpty) = !xs.isEmpty:=by
 cases r <;> simp
theorem a9p:(sizeLine:Nat) < 2 ^ 63:=by rw [sizeLine_eq]; decide
theorem c2q:TruR X (fun x H Q=>∃ k,d3w X.K x H k∧Q k H):=by
 intro pins s σ H x v Q I rx h
 obtain ⟨k,e,q⟩:=h
 have hl:=a9p
 have hs:sizeLine=16777216:=sizeLine_eq
 cases x with
 | non =>
  cases rx
  have e':k=false:=e
  subst e'
  exact truthy_none ⟨H,I,q⟩
 | bl b =>
  cases rx
  have e':k=b:=e
  subst e'
  exact wpAny_truthy_bool ⟨H,I,q⟩
 | int i =>
  obtain ⟨t,rfl⟩:=rx
  have e':k=(i != 0):=e
  subst e'
  exact PySem.P.truthy_int ⟨H,I,q⟩
 | str y =>
  obtain ⟨t,rfl⟩:=rx
  obtain ⟨hy,e'⟩:y.length≤sizeLine∧k=((y.length:Int) != 0):=e
  subst e'
  exact PySem.P.truthy_str (by lia) ⟨H,I.tok _,q⟩
 | byt y =>
  obtain ⟨t,rfl⟩:=rx
  obtain ⟨hy,e'⟩:y.size≤sizeLine∧k=((y.size:Int) != 0):=e
  subst e'
  exact PySem.W.truthy_bytes (by lia) ⟨H,I.tok _,q⟩
 | ref p =>
  cases rx
  have e':(∃ xs,SqL X.K H p xs∧k = !xs.isEmpty) ∨ (∃ xs,SqT X.K H p xs∧k = !xs.isEmpty) ∨ ∃ kvs,H p=some (.dK kvs)∧k = !kvs.isEmpty:=e
  rcases e' with ⟨xs,hx,e'⟩ | ⟨xs,hx,e'⟩ | ⟨kvs,hx,e'⟩
  ·subst e'
   obtain ⟨its,r,pl,hz⟩:=I.list hx
   have hlen:=r.length
   exact wpAny_truthy_list pl.isList (by simp only [List.size_toArray]; lia) ⟨H,I.tok _,by rw [a7d r]; exact q⟩
  ·subst e'
   obtain ⟨its,r,pl,hz⟩:=I.tuple hx
   have hlen:=r.length
   exact truthy_tuple pl (by simp only [List.size_toArray]; lia) ⟨H,I.tok _,by rw [a7d r]; exact q⟩
  ·subst e'
   obtain ⟨hz,hS,vs,r,m⟩:kvs.length≤sizeLine∧(p == sysModules)=false∧∃ vs,KV kvs vs∧s.heap.DictOf (a1h X.prog X.w) p vs:=I.hok p _ hx
   have hlen:kvs.length=vs.length:=Paired.length r
   exact wpAny_truthy_dict hS m (by lia) ⟨H,I.tok _,by rw [b4l r]; exact q⟩
 | _=>exact (show False from e).elim
theorem c0p (ha:PE X a ta) (he:∀ whole,isTrue a X.env whole=(do let v ← whole; standAt a.pos; holding [v] (truthy v))) :
  PT X a (fun σ H Q=>ta σ H fun x H'=>∃ k,d3w X.K x H' k∧Q k H'):=by
 intro pins s σ H Q I h
 exact isTrue_plain (thn (ha pins s σ H _ I h) fun v s1 ⟨x,H1,I1,r1,q1⟩=>c2q pins s1 σ H1 x v Q I1 r1 q1) (he _)
theorem a2w {x:V} {us:List Value} (r:Vals [x] us):∃ u,us=[u]∧RelV x u:=by
 cases r with
 | cons r1 r2=>cases r2; exact ⟨_,rfl,r1⟩
theorem b9v {x y:V} {us:List Value} (r:Vals [x,y] us):∃ u w',us=[u,w']∧RelV x u∧RelV y w':=by
 cases r with
 | cons r1 r2 =>
  cases r2 with
  | cons r3 r4=>cases r4; exact ⟨_,_,rfl,r1,r3⟩
theorem c2k:a1l X (.builtin "abs") (fun xs H Q=>∃ i,xs=[.int i]∧Q (.int (if i < 0 then -i else i)) H):=by
 intro pins s σ H xs us Q I r h
 obtain ⟨i,rfl,q⟩:=h
 obtain ⟨u,rfl,t,rfl⟩:=a2w r
 exact call_abs_int fun u tk=>⟨.int (if i < 0 then -i else i),H,I.tok _,⟨_,rfl⟩,q⟩
theorem b9e (hc:X.calm=true):a1l X (.builtin "min") (fun xs H Q=>∃ i j,xs=[.int i,.int j]∧Q (.int (if j < i then j else i)) H):=by
 intro pins s σ H xs us Q I r h
 obtain ⟨i,j,rfl,q⟩:=h
 obtain ⟨u,w',rfl,⟨t,rfl⟩,⟨t',rfl⟩⟩:=b9v r
 refine min_two_ints (I.ok.hd hc) fun h' tk k=>⟨_,H,I.kept k,?_,q⟩
 by_cases hj:j < i
 ·rw [if_pos hj,if_pos hj]; exact ⟨_,rfl⟩
 ·rw [if_neg hj,if_neg hj]; exact ⟨_,rfl⟩
theorem b0g:a1l X (.type "int") (fun xs H Q=>(∃ i,xs=[.int i]∧Q (.int i) H) ∨ ∃ k,xs=[.bl k]∧Q (.int (if k then 1 else 0)) H):=by
 intro pins s σ H xs us Q I r h
 rcases h with ⟨i,rfl,q⟩ | ⟨k,rfl,q⟩
 ·obtain ⟨u,rfl,t,rfl⟩:=a2w r
  exact call_int_int ⟨.int i,H,I,⟨_,rfl⟩,q⟩
 ·obtain ⟨u,rfl,r1⟩:=a2w r
  cases r1
  exact call_int_bool ⟨.int (if k then 1 else 0),H,I.tok _,⟨_,rfl⟩,q⟩
theorem b0d:a1l X (.type "str") (fun xs H Q=>∃ i,xs=[.int i]∧i.natAbs.log2 < 1920∧Q (.str (toString i)) H):=by
 intro pins s σ H xs us Q I r h
 obtain ⟨i,rfl,hz,q⟩:=h
 obtain ⟨u,rfl,t,rfl⟩:=a2w r
 exact PySem.P.str_of_int hz ⟨.str _,H,I.tok _,⟨_,rfl⟩,q⟩
end
end L2
namespace L2
open PySem PySem.Spec PyProof.Rows
structure ObjM (h:Heap) (x dx C:Addr) (mA:Str→Option Value):Prop where
 obj:h.get? x=some (PySem.W.instObj C dx)
 ns:h.Ns1 dx mA
 ne:dx≠x
theorem b7j {h:Heap} {dx:Addr} {mA:Str→Option Value} (n:h.Ns1 dx mA):∃ od,h.get? dx=some od∧∀ name,PySem.W.lookIn name od=some (mA name):=by
 obtain ⟨o,es,ep,ho,hd,hk,_,hm⟩:=n
 refine ⟨o,ho,fun name=>?_⟩
 have e:=hm name
 unfold nsFind findBy at e
 rw [← Array.find?_toList] at e
 unfold PySem.W.lookIn
 rw [hd]
 dsimp only
 split
 ·rename_i y q
  rw [q] at e
  exact congrArg some e
 ·rename_i q
  rw [q] at e
  have a:es.toList.any (·.refKey)=false:=by
   rw [List.any_eq_false]
   intro y hy
   obtain ⟨z,t,hkey⟩:=hk y (Array.mem_toList_iff.mp hy)
   simp [DictEntry.refKey,hkey]
  have a':¬ es.toList.any (·.refKey)=true:=by rw [a]; exact Bool.false_ne_true
  rw [if_neg a']
  exact congrArg some e
theorem ObjM.look {h:Heap} {x dx C:Addr} {mA:Str→Option Value} (I:ObjM h x dx C mA):∃ od,PySem.W.InstAt h x (PySem.W.instObj C dx) C (some od)∧∀ name,PySem.W.lookIn name od=some (mA name) :=
 let ⟨od,ho,hl⟩:=b7j I.ns
 ⟨od,⟨I.obj,rfl,rfl,ho⟩,hl⟩
section
variable {prog:Program} {w:World} {A:Around} {E:Value→Shared→Prop} {s:Shared} {K:Γd} {x dx C f:Addr} {mA:Str→Option Value} {name:Str} {v:Value}
end
theorem RelO.some_of {v:V} {o:Option Value} (r:RelO (some v) o):∃ u,o=some u∧RelV v u:=by
 cases o with
 | none=>exact (show False from r).elim
 | some u=>exact ⟨u,rfl,r⟩
section
variable {P:Program} {w:World} {H H':Hp} {h h':Heap} {a C dx:Addr} {fs fs':List (Str×V)}
theorem c6m (hok:HOk P w H h) (e:H a=some (.ins C dx fs)):∃ mA,ObjM h a dx C mA∧(∀ f,RelO (fs.lookup f) (mA f))∧PySem.Within mA (fs.map (·.1))∧fs.length≤1000∧H dx=some (.own a):=by
 obtain ⟨d,z,ne,ob,mA,n,r,q⟩:=(show ObjOk P w H h a (.ins C dx fs) from hok a _ e)
 exact ⟨mA,⟨ob,n,ne⟩,r,q,z,d⟩
end
structure Cls (K:Γd) (C:Addr):Prop where
 pg:PySem.W.plainGet K C Str.empty=true
 hd:PySem.W.hasDictIn K C=true
 po:PySem.W.plainOver K C=true
 sa:PySem.W.findIn K (.ref C) "__setattr__" = some (some (.builtin "object.__setattr__"))
theorem Cls.get {K:Γd} {C:Addr} (c:Cls K C) (f:Str):PySem.W.plainGet K C f=true:=c.pg
structure Con (K:Γd) (C:Addr) (f:Str) (v:V) (u:Value):Prop where
 at_:PySem.W.findIn K (.ref C) f=some (some u)
 rel:RelV v u
 get:PySem.W.specialIn K u "__get__" = some none
 cp:PySem.W.copiedNames.contains f=false
structure Meth (K:Γd) (C:Addr) (m:Str) (f:Addr):Prop where
 at_:PySem.W.findIn K (.ref C) m=some (some (.ref f))
 fn:PySem.W.isFn K (.ref f)=true
 kp:PySem.W.keepIn K (.ref f)=true
section
variable {X:Cx} {pins:List (Addr×Obj)} {σ:St} {H:Hp} {s:Shared} {a C dx:Addr} {fs:List (Str×V)} {f:Str} {v:V} {A:Around} {E:Value→Shared→Prop}
theorem Inv.made (I:Inv X pins σ H s):Inv X pins σ (upd (upd H s.heap.objs.size (.own (s.heap.objs.size + 1))) (s.heap.objs.size + 1) (.ins C s.heap.objs.size []))
  { s with heap:=(s.heap.push PySem.W.emptyDict).push (PySem.W.instObj C s.heap.objs.size) }:=by
 have e1:(s.heap.push PySem.W.emptyDict).get? s.heap.objs.size=some PySem.W.emptyDict:=Heap.get?_push_size s.heap rfl
 have e2:((s.heap.push PySem.W.emptyDict).push (PySem.W.instObj C s.heap.objs.size)).get? (s.heap.objs.size + 1)=some (PySem.W.instObj C s.heap.objs.size):=by
  have:=Heap.get?_push_size (s.heap.push PySem.W.emptyDict) (o:=PySem.W.instObj C s.heap.objs.size) rfl
  rwa [Heap.size_push] at this
 have e3:(s.heap.push PySem.W.emptyDict).Ns s.heap.objs.size (fun _=>none):=⟨PySem.W.emptyDict,#[],_,e1,rfl,(fun e he=>absurd he (by simp)),fun _=>rfl⟩
 have I1:=I.laid (a:=s.heap.objs.size) (o:=.own (s.heap.objs.size + 1)) (h':=s.heap.push PySem.W.emptyDict) (t':=s.toks) (fun b u q=>Γc _ q) (Nat.le_refl _) ⟨_,e1⟩
 refine I1.laid (a:=s.heap.objs.size + 1) (o:=.ins C s.heap.objs.size []) (t':=s.toks) (fun b u q=>Γc _ q) (Nat.le_of_eq (Heap.size_push _ _)) ?_
 have ne:s.heap.objs.size≠s.heap.objs.size + 1:=Nat.ne_of_lt (Nat.lt_succ_self _)
 refine ⟨by rw [a0e ne,a0f],Nat.zero_le _,ne,e2,fun _=>none,(Heap.Ns1.of_empty e3).at fun o q=>Γc _ q,fun _=>True.intro,fun y hy=>absurd rfl hy⟩
end
section
variable {X:Cx} {o e value:Expr} {f:Str} {pos pos' tpos:Pos} {ta tv:TE}
end
section
variable {X:Cx} {pins:List (Addr×Obj)} {σ:St} {H:Hp} {s:Shared} {A:Around} {E:Value→Shared→Prop} {Q:Value→Shared→Prop} {c:Value} {b:Bool}
inductive TyOf (K:Γd) (H:Hp):V→Value→Prop where
 | non:TyOf K H .non (.type "NoneType")
 | bl (x:Bool):TyOf K H (.bl x) (.type "bool")
 | int (i:Int):TyOf K H (.int i) (.type "int")
 | str (x:Str):TyOf K H (.str x) (.type "str")
 | flt (x:UInt64):TyOf K H (.flt x) (.type "float")
 | lst {a:Addr} {xs:List V} (e:H a=some (.lst xs)):TyOf K H (.ref a) (.type "list")
 | frz {a:Addr} {o:Obj} {xs:List V} (e:H a=some (.frz o (.lst xs))):TyOf K H (.ref a) (.type "list")
 | tup {a:Addr} {xs:List V} (e:H a=some (.tup xs)):TyOf K H (.ref a) (.type "tuple")
 | dK {a:Addr} {kvs:List (Key×V)} (e:H a=some (.dK kvs)):TyOf K H (.ref a) (.type "dict")
 | dT {a:Addr} {kvs:List (List Key×V)} (e:H a=some (.dT kvs)):TyOf K H (.ref a) (.type "dict")
 | ins {a C dx:Addr} {fs:List (Str×V)} (e:H a=some (.ins C dx fs)) (cl:Cls K C) (ha:PySem.W.findIn K (.ref C) "__class__" = some (some (.builtin "object.__class__")))
   (hn:PySem.W.specialIn K (.builtin "object.__class__") "__get__" = some (some (.builtin "getset_descriptor.__get__"))) (htk:PySem.W.takesIn K (.builtin "object.__class__")=some true)
   (hm:PySem.W.mroIn K C (.type "object")=some true):TyOf K H (.ref a) (.ref C)
theorem b7s {x:V} {u t:Value} (I:Inv X pins σ H s) (rx:RelV x u) (ty:TyOf X.K H x t) (e:PySem.W.kitOne X.K t c=some b) (h:∀ tk,Q (.bool b) { s with toks:=tk }) :
  wpAny (model X.prog X.w) A (call (.builtin "isinstance") [u,c]) Q E s:=by
 cases ty with
 | non=>cases (show u=Value.none from rx); exact PySem.W.kia_one PySem.W.kitx_none I.kIn True.intro e (fun z=>nomatch z) h
 | bl y=>cases (show u=Value.bool y from rx); exact PySem.W.kia_one PySem.W.kitx_bool I.kIn True.intro e (fun z=>nomatch z) h
 | int i=>obtain ⟨t,q⟩:=(show ∃ t,u=Value.int i t from rx); cases q; exact PySem.W.kia_one PySem.W.kitx_int I.kIn True.intro e (fun z=>nomatch z) h
 | str y=>obtain ⟨t,q⟩:=(show ∃ t,u=Value.str y t from rx); cases q; exact PySem.W.kia_one PySem.W.kitx_str I.kIn True.intro e (fun z=>nomatch z) h
 | flt y=>obtain ⟨t,q⟩:=(show ∃ t,u=Value.float y t from rx); cases q; exact PySem.W.kia_one PySem.W.kitx_float I.kIn True.intro e (fun z=>nomatch z) h
 | @lst a xs ea =>
  cases (show u=Value.ref a from rx)
  obtain ⟨_,_,n,_,h1⟩:=(show ObjOk X.prog X.w H s.heap a (.lst xs) from I.hok a _ ea)
  exact PySem.W.kia_one PySem.W.kitx_list I.kIn ⟨_,h1,rfl⟩ e (fun z=>nomatch z) h
 | @frz a ob xs ea =>
  cases (show u=Value.ref a from rx)
  obtain ⟨_,_,_,n,_,h1⟩:=(show ObjOk X.prog X.w H s.heap a (.frz ob (.lst xs)) from I.hok a _ ea)
  exact PySem.W.kia_one PySem.W.kitx_list I.kIn ⟨_,h1,rfl⟩ e (fun z=>nomatch z) h
 | @tup a xs ea =>
  cases (show u=Value.ref a from rx)
  obtain ⟨_,_,_,p⟩:=(show ObjOk X.prog X.w H s.heap a (.tup xs) from I.hok a _ ea)
  obtain ⟨o,h1,h2,_⟩:=p
  exact PySem.W.kia_one PySem.W.kitx_tuple I.kIn ⟨o,h1,h2⟩ e (fun z=>nomatch z) h
 | @dK a kvs ea =>
  cases (show u=Value.ref a from rx)
  obtain ⟨_,_,vs,_,p⟩:=(show ObjOk X.prog X.w H s.heap a (.dK kvs) from I.hok a _ ea)
  obtain ⟨o,es,ep,h1,h2,_⟩:=p
  exact PySem.W.kia_one PySem.W.kitx_dict I.kIn ⟨o,h1,h2.1⟩ e (fun z=>nomatch z) h
 | @dT a kvs ea =>
  cases (show u=Value.ref a from rx)
  obtain ⟨_,_,xs,_,o,es,ep,h1,h2,_⟩:=(show ObjOk X.prog X.w H s.heap a (.dT kvs) from I.hok a _ ea)
  exact PySem.W.kia_one PySem.W.kitx_dict I.kIn ⟨o,h1,h2.1⟩ e (fun z=>nomatch z) h
 | @ins a C dx fs ea cl ha hn htk hm =>
  cases (show u=Value.ref a from rx)
  obtain ⟨mA,O,_⟩:=c6m I.hok ea
  obtain ⟨od,J,_⟩:=O.look
  exact PySem.W.kia_one (PySem.W.kitx_own (cl.get _) cl.hd ha hn htk hm) I.kIn J e (fun z=>nomatch z) h
end
end L2
namespace L2
open PySem PySem.Spec PyProof.Rows
structure Room (k:Nat) (A:Around):Prop where
 hd:A.handled=none
 dp:A.depth + 3 * k + 5 < recursionLimit
 un:A.units + 16 * k + 200 < cLine
 gd:A.guards=some []
theorem Room.mono {j k:Nat} {A:Around} (r:Room k A) (h:j≤k):Room j A:=⟨r.hd,by have:=r.dp; lia,by have:=r.un; lia,r.gd⟩
theorem Room.deeper {k:Nat} {A:Around} (r:Room (k + 1) A) (env:Env):Room k (A.deeper env) :=
 ⟨r.hd,by have:=r.dp; show A.depth + 1 + 3 * k + 5 < _; lia,by have:=r.un; show A.units + 3 + 16 * k + 200 < _; lia,r.gd⟩
theorem Room.in1 {k:Nat} {A:Around} (r:Room (k + 1) A):Room k A.in1 :=
 ⟨r.hd,by have:=r.dp; show A.depth + 3 * k + 5 < _; lia,by have:=r.un; show A.units + 1 + 16 * k + 200 < _; lia,r.gd⟩
theorem Room.depth {k:Nat} {A:Around} (r:Room k A):A.depth < recursionLimit:=by have:=r.dp; lia
theorem Room.units {k:Nat} {A:Around} (r:Room k A):A.units + 64 < cLine:=by have:=r.un; lia
def tNil:TA:=fun _ H Q=>Q [] H
def c0a (ta:TE) (tr:TA):TA:=fun σ H Q=>ta σ H fun x H1=>tr σ H1 fun xs H2=>Q (x :: xs) H2
section
variable {X:Cx} {e:Expr} {es:List Expr} {te:TE} {t:TA} {pos:Pos}
theorem a1y:PA X [] tNil:=fun _ _ _ _ H Q I h=>Calls.spliced_nil ⟨[],H,I,.nil,h⟩
theorem a0o (ha:PE X e te) (hr:PA X es t) (hs:starEach (e :: es) X.env=(false,eval e X.env) :: starEach es X.env:=by rfl):PA X (e :: es) (c0a te t):=by
 intro pos pins s σ H Q I h
 rw [hs]
 show wpAny _ _ (spliced ((false,eval e X.env) :: backTo pos (starEach es X.env))) _ _ s
 refine Calls.spliced_cons (thn (ha pins s σ H _ I h) fun u s1 ⟨x,H1,I1,r1,q1⟩=>?_)
 exact thn (hr pos pins s1 σ H1 _ I1 q1) fun us s2 ⟨xs,H2,I2,r2,q2⟩=>⟨x :: xs,H2,I2,.cons r1 r2,q2⟩
def tTup (t:TA):TE:=fun σ H Q=>t σ H fun xs H1=>xs.length≤sizeLine∧∀ p,H1 p=none→Q (.ref p) (upd H1 p (.tup xs))
def tLst (t:TA):TE:=fun σ H Q=>t σ H fun xs H1=>xs.length≤sizeLine∧∀ p,H1 p=none→Q (.ref p) (upd H1 p (.lst xs))
theorem c9m {x1} (h:PA X es t):PE X (.Tuple es x1 pos) (tTup t):=by
 intro pins s σ H Q I hq
 refine wpAny_Tuple_spliced (thn (h pos pins s σ H _ I hq) fun us s1 ⟨xs,H1,I1,r,z,q⟩=>⟨by rw [← r.length]; exact z,?_⟩)
 have hf:H1 s1.heap.objs.size=none:=I1.hok.fresh (Nat.le_refl _)
 refine ⟨.ref s1.heap.objs.size,upd H1 s1.heap.objs.size (.tup xs),I1.laid (t':=s1.toks) (fun b u e=>Γc _ e) (Nat.le_refl _) ?_,rfl,q _ hf⟩
 exact ⟨z,us,r,⟨_,Heap.get?_push_size _ rfl,rfl,_,rfl⟩⟩
theorem c3a (h:PA X es t):PE X (.List es pos) (tLst t):=by
 intro pins s σ H Q I hq
 refine wpAny_List_spliced (thn (h pos pins s σ H _ I hq) fun us s1 ⟨xs,H1,I1,r,z,q⟩=>⟨by rw [← r.length]; exact z,?_⟩)
 have hf:H1 s1.heap.objs.size=none:=I1.hok.fresh (Nat.le_refl _)
 refine ⟨.ref s1.heap.objs.size,upd H1 s1.heap.objs.size (.lst xs),I1.laid (t':=s1.toks) (fun b u e=>Γc _ e) (Nat.le_refl _) ?_,rfl,q _ hf⟩
 exact ⟨z,us,0,r,Heap.get?_push_size _ rfl⟩
end
abbrev Sp:=List V→Hp→VK→XK→Prop
abbrev CXT:=List Env→Hp→Shared→XK→Value→Shared→Prop
structure Env0 (P:Program) (w:World) (K:Γd) (mg:Str→Option Value) (base:Heap) (A:Around) (outer:List Env) (s:Shared) (H:Hp):Prop where
 frames:A.frames=some outer
 mod:Mod K mg base
 bs:∀ b o,base.get? b=some o→s.heap.get? b=some o∧H b=none
 bsz:base.objs.size≤s.heap.objs.size
 funs:s.heap.FunFrames base outer
 frf:∀ b∈frs outer,H b=none
 hok:HOk P w H s.heap
 bare:AllBare s.gens
def CE (outer:List Env) (P:Program) (w:World) (H:Hp) (s:Shared) (Q:VK) (u:Value) (s':Shared):Prop :=
 ∃ v H',s'.os=s.os∧AllBare s'.gens∧Un (frs outer) [] H H' s.heap s'.heap∧HOk P w H' s'.heap∧RelV v u∧Q v H'
def CR (CX:CXT) (outer:List Env) (P:Program) (w:World) (H:Hp) (s:Shared) (Q:VK) (E:XK) (r:Result) (s':Shared):Prop :=
 match r with
 | .ok (.ret u)=>CE outer P w H s Q u s'
 | .ok _=>False
 | .error e=>CX outer H s E e s'
structure FnOk (P:Program) (w:World) (K:Γd) (mg:Str→Option Value) (base:Heap) (CX:CXT) (k:Nat) (f:Addr) (fd:FuncData) (ps:List Str) (sp:Sp):Prop where
 len:∀ vs H Q E,sp vs H Q E→vs.length=ps.length
 run:∀ (A:Around) (outer:List Env) (s:Shared) (H:Hp) (args:Args) (us:List Value) (vs:List V) (Q:VK) (E:XK),Room k A→Env0 P w K mg base A outer s H→BindsTo s fd args (ps.zip us)→Vals vs us→sp vs H Q E →
  codeAny (model P w) A (.call (.ref f) args) (CR CX outer P w H s Q E) s
theorem FnOk.mono {P:Program} {w:World} {K:Γd} {mg:Str→Option Value} {base:Heap} {CX:CXT} {j k:Nat} {f:Addr} {fd:FuncData} {ps:List Str} {sp:Sp} (F:FnOk P w K mg base CX j f fd ps sp) (h:j≤k) :
  FnOk P w K mg base CX k f fd ps sp:=⟨F.len,fun A outer s H args us vs Q E hr=>F.run A outer s H args us vs Q E (hr.mono h)⟩
theorem Env0.in1 {P:Program} {w:World} {K:Γd} {mg:Str→Option Value} {base:Heap} {A:Around} {outer:List Env} {s:Shared} {H:Hp} (e:Env0 P w K mg base A outer s H) :
  Env0 P w K mg base A.in1 outer s H:=⟨e.frames,e.mod,e.bs,e.bsz,e.funs,e.frf,e.hok,e.bare⟩
section
variable {X:Cx} {pins:List (Addr×Obj)} {σ:St} {H:Hp} {s s':Shared}
theorem Inv.env0 (I:Inv X pins σ H s):Env0 X.prog X.w X.K X.mg X.base X.A X.stack s H :=
 ⟨I.ok.frames,I.ok.mod,I.bs,Nat.le_trans I.ok.bsz I.sz,I.stack,I.stkFree,I.hok,I.bare⟩
theorem Inv.after {Q:VK} {u:Value} (I:Inv X pins σ H s) (h:CE X.stack X.prog X.w H s Q u s'):EP X pins σ Q u s':=by
 obtain ⟨v,H',os,bare,un,hok,r,q⟩:=h
 obtain ⟨hh,g,d,t,os'⟩:=s'
 obtain rfl:os'=s.os:=os
 exact ⟨v,H',I.call (h':=hh) (g':=g) (d':=d) (t':=t) (ch:=[]) un hok bare (fun b z=>absurd z (by simp)),r,q⟩
end
def d4j (sp:Sp) (dvs:List V) (E:XK) (t:TA):TE:=fun σ H Q=>t σ H fun vs H1=>sp (vs++dvs) H1 Q E
def Binds (K:Γd) (fd:FuncData) (ps:List Str) (ds:List Value):Prop :=
 ∀ (s:Shared) (us:List Value),K.In s.heap→(us++ds).length=ps.length→BindsTo s fd ⟨us,[]⟩ (ps.zip (us++ds))
theorem Binds.all {K:Γd} {fd:FuncData} {ps:List Str} (h:∀ us:List Value,us.length=ps.length→bindArgs fd ⟨us,[]⟩=pure (ps.zip us)):Binds K fd ps []:=fun s us _ hl=>by
 rw [List.append_nil] at hl ⊢
 exact .of_eq (h us hl)
def b9m (CX:CXT) (X:Cx) (E:XK):Prop:=∀ (pins:List (Addr×Obj)) (σ:St) (H:Hp) (s:Shared) (e:Value) (s':Shared),Inv X pins σ H s→CX X.stack H s E e s'→X.xe e s'
section
variable {X:Cx} {CX:CXT} {k:Nat} {f C:Addr} {fd:FuncData} {ps:List Str} {sp:Sp} {dvs:List V} {ds:List Value} {E:XK} {x m:Str} {p pos apos:Pos} {e o:Expr} {es:List Expr} {ta:TE} {t:TA}
theorem c8t {pins:List (Addr×Obj)} {σ:St} {H:Hp} {s:Shared} {Q:VK} {us:List Value} {vs:List V} (F:FnOk X.prog X.w X.K X.mg X.base CX k f fd ps sp) (hr:Room k X.A) (hb:Binds X.K fd ps ds) (hd:Vals dvs ds) (hx:b9m CX X E)
  (I:Inv X pins σ H s) (r:Vals vs us) (h:sp (vs++dvs) H Q E):wpAny (model X.prog X.w) X.A (call (.ref f) us) (EP X pins σ Q) X.xe s:=by
 have r2:Vals (vs++dvs) (us++ds):=r.append hd
 have hl:(us++ds).length=ps.length:=by rw [← r2.length]; exact F.len _ _ _ _ h
 refine wpAny_call (codeAny_mono (F.run X.A X.stack s H ⟨us,[]⟩ (us++ds) (vs++dvs) Q E hr I.env0 (hb s us I.kIn hl) r2 h) fun r s' hq=>?_)
 cases r with
 | error e=>exact hx pins σ H s e s' I hq
 | ok fl =>
  cases fl with
  | ret u=>exact I.after hq
  | next=>exact False.elim hq
  | brk=>exact False.elim hq
  | cont=>exact False.elim hq
theorem c5k (F:FnOk X.prog X.w X.K X.mg X.base CX k f fd ps sp) (hr:Room k X.A) (hg:Gl X x) (hm:X.mg x=some (.ref f)) (hk:PySem.W.keepIn X.K (.ref f)=true) (hb:Binds X.K fd ps ds) (hd:Vals dvs ds) (hx:b9m CX X E)
  (ha:PA X (e :: es) t) (hdb:(x == ("__debug__":Str))=false:=by decide) (he:starEach (e :: es) X.env=(false,eval e X.env) :: starEach es X.env:=by rfl) (hpl:(backTo pos (starEach es X.env)).any (·.1)=false:=by rfl) :
  PE X (.Call (.Name x p) (e :: es) [] pos) (d4j sp dvs E t):=by
 intro pins s σ H Q I h
 refine wpAny_Call_Name_kw (c6e I hg hm ?_ hdb)
 refine PySem.W.callWith_K (h₀:=X.base) I.ok.mod.kin hk (thn (ha pos pins s σ H _ I h) fun us s1 ⟨vs,H1,I1,r,q⟩=>⟨I1.kIn,?_⟩) he hpl
 exact c8t F hr hb hd hx I1 r q
structure Mk (K:Γd) (C f:Addr):Prop where
 makes:PySem.W.makesIn K C=true
 init:PySem.W.findIn K (.ref C) "__init__" = some (some (.ref f))
 fn:PySem.W.isFn K (.ref f)=true
 kp:PySem.W.keepIn K (.ref C)=true
end
section
variable {X:Cx} {CX:CXT} {k:Nat} {f C:Addr} {fd:FuncData} {ps ks:List Str} {sp:Sp} {E:XK} {x m:Str} {p pos apos kpos:Pos} {e o:Expr} {es:List Expr} {kws:List Keyword} {te ta:TE} {t tk:TA} {nm:Option Str}
structure KBinds (K:Γd) (fd:FuncData) (ps ks:List Str) (g:List Value→List Value→List Value) (gV:List V→List V→List V):Prop where
 to:∀ (s:Shared) (us ws:List Value),K.In s.heap→(g us ws).length=ps.length→BindsTo s fd ⟨us,ks.zip ws⟩ (ps.zip (g us ws))
 rel:∀ {vs:List V} {us:List Value} {zs:List V} {ws:List Value},Vals vs us→Vals zs ws→Vals (gV vs zs) (g us ws)
variable {g:List Value→List Value→List Value} {gV:List V→List V→List V}
end
structure FnScope (N P:List Str) (sc:Scope):Prop where
 kind:sc.kind=.function
 co:sc.isCoroutine=false
 gen:sc.isGenerator=false
 nd:N.Nodup
 pre:N.take P.length=P
 par:∀ x∈P,sc.names.lookup x=some .local ∨ sc.names.lookup x=some .cell
 nofree:∀ y∈sc.names,y.2≠.free
theorem b0h {kindOf:Str→Option NameKind} {x:Str}:∀ {binds:List (Str×Value)} {m:Str→Option Value},(∀ v,(x,v) ∉ binds)→bindL kindOf binds m x=m x
 | [],_,_=>rfl
 | (n,v) :: r,m,h=>by
  unfold bindL
  rw [b0h fun w hw=>h w (List.mem_cons_of_mem _ hw)]
  split
  ·have:x≠n:=by rintro rfl; exact h v List.mem_cons_self
   simp [this]
  ·rfl
theorem b0j {kindOf:Str→Option NameKind} {x:Str}:∀ {binds:List (Str×Value)} {m:Str→Option Value},(∀ v,(x,v) ∉ binds)→bindC kindOf binds m x=m x
 | [],_,_=>rfl
 | (n,v) :: r,m,h=>by
  unfold bindC
  rw [b0j fun w hw=>h w (List.mem_cons_of_mem _ hw)]
  split
  ·rfl
  ·have:x≠n:=by rintro rfl; exact h v List.mem_cons_self
   simp [this]
theorem b0i {kindOf:Str→Option NameKind} {x:Str} {v:Value}:∀ {P:List Str} {vs:List Value} {i:Nat} {m:Str→Option Value},P.Nodup→P[i]?=some x→vs[i]?=some v→kindOf x=some .local →
  bindL kindOf (P.zip vs) m x=some v
 | [],_,_,_,_,h,_,_=>by simp at h
 | _ :: _,[],_,_,_,_,h,_=>by simp at h
 | p :: P,w :: vs,0,m,nd,h1,h2,hk=>by
  simp at h1 h2; subst h1; subst h2
  show bindL kindOf ((p,w) :: P.zip vs) m p=_
  unfold bindL
  rw [b0h fun v hv=>(List.nodup_cons.mp nd).1 (List.of_mem_zip hv).1,if_pos hk]
  simp
 | p :: P,w :: vs,i + 1,m,nd,h1,h2,hk=>by
  show bindL kindOf ((p,w) :: P.zip vs) m x=_
  unfold bindL
  exact b0i (i:=i) (List.nodup_cons.mp nd).2 (by simpa using h1) (by simpa using h2) hk
theorem b0k {kindOf:Str→Option NameKind} {x:Str} {v:Value}:∀ {P:List Str} {vs:List Value} {i:Nat} {m:Str→Option Value},P.Nodup→P[i]?=some x→vs[i]?=some v→kindOf x≠some .local →
  bindC kindOf (P.zip vs) m x=some v
 | [],_,_,_,_,h,_,_=>by simp at h
 | _ :: _,[],_,_,_,_,h,_=>by simp at h
 | p :: P,w :: vs,0,m,nd,h1,h2,hk=>by
  simp at h1 h2; subst h1; subst h2
  show bindC kindOf ((p,w) :: P.zip vs) m p=_
  unfold bindC
  rw [b0j fun v hv=>(List.nodup_cons.mp nd).1 (List.of_mem_zip hv).1,if_neg hk]
  simp
 | p :: P,w :: vs,i + 1,m,nd,h1,h2,hk=>by
  show bindC kindOf ((p,w) :: P.zip vs) m x=_
  unfold bindC
  exact b0k (i:=i) (List.nodup_cons.mp nd).2 (by simpa using h1) (by simpa using h2) hk
def start (N:List Str) (vs:List V):St:=vs.map some++List.replicate (N.length - vs.length) none
def c7d (CX:CXT) (P:Program) (w:World) (K:Γd) (mg:Str→Option Value) (base:Heap) (N:List Str) (qual:Str) (scope:Scope) (f:Addr) (cd:Value) (A:Around) (outer:List Env) (s:Shared) (H:Hp) (E:XK):Cx where
 prog:=P
 w:=w
 K:=K
 mg:=mg
 base:=base
 A:=A.deeper (envOfC qual scope s.heap.objs.size f cd)
 N:=N
 s₀:=s
 H₀:=H
 env:=envOfC qual scope s.heap.objs.size f cd
 outer:=outer
 stack:=envOfC qual scope s.heap.objs.size f cd :: outer
 ex:=[]
 calm:=true
 fn:=fun _=>true
 pn:=[]
 xe:=fun e s'=>wpAny (model P w) (A.deeper (envOfC qual scope s.heap.objs.size f cd)) (leaving (envOfC qual scope s.heap.objs.size f cd) e) (fun _ s''=>CX outer H s E e s'') (fun e' s''=>CX outer H s E e' s'') s'
theorem b3q {sc:Scope} {n:Nat} {x:Str} (h:sc.names.lookup x=some .cell):∃ c,(cellsFrom n sc.names []).lookup x=some c:=by
 have q:=PySem.W.cellsFrom_some sc.names n [] (.inl h)
 exact Option.isSome_iff_exists.mp q
theorem b7v {CX:CXT} {P:Program} {w:World} {K:Γd} {mg:Str→Option Value} {base:Heap} {N ps:List Str} {qual:Str} {scope:Scope} {f:Addr} {cd:Value} {A:Around} {outer:List Env} {s s1:Shared} {H:Hp} {E:XK} {us:List Value} {vs:List V}
  (S:FnScope N ps scope) (hd:A.handled=none) (e0:Env0 P w K mg base A outer s H) (hl:vs.length=ps.length) (r:Vals vs us)
  (x:InCallC s s.heap.objs.size (bindL (envOfC qual scope s.heap.objs.size f cd).kindOf (ps.zip us) fun _=>none) (cellsFrom (s.heap.objs.size + 1) scope.names []) (bindC (envOfC qual scope s.heap.objs.size f cd).kindOf (ps.zip us) fun _=>none) s1) :
  Inv (c7d CX P w K mg base N qual scope f cd A outer s H E) [] (start N vs) H s1:=by
 have hpl:ps.length≤N.length:=by have:=congrArg List.length S.pre; rw [List.length_take] at this; lia
 obtain ⟨h1,tk,rfl,hk⟩:=x.done
 have noA:∀ b:Addr,b ∉ (c7d CX P w K mg base N qual scope f cd A outer s H E).ex:=fun b z=>absurd (show b∈([]:List Addr) from z) (by simp)
 refine ⟨⟨e0.mod,S.kind,rfl,rfl,Nat.le_refl _,fun y z c h1 h2=>?_,fun y hy=>?_,fun y c _ h=>?_,fun _=>hd,Around.frames_deeper e0.frames,.inr ⟨rfl,rfl⟩,fun b z=>absurd z (noA b),e0.bs,e0.bsz,fun b _ _=>noA b,fun b z=>absurd z (noA b),e0.funs,e0.frf⟩,
  rfl,e0.bare,Un.kept hk,⟨_,x.toInCall.ns,fun i y v h1 h2 h3=>?_⟩,fun y c h=>⟨_,x.cell y c h⟩,e0.hok.fresh (Nat.le_refl _),fun y c h=>?_,fun p hp=>absurd (show p∈([]:List (Addr×Obj)) from hp) (by simp),e0.hok.kept hk,?_⟩
 ·exact name_of_addr x.apart (PySem.mem_of_lookup h1) (PySem.mem_of_lookup h2)
 ·have hy:scope.names.lookup y=some .cell ∨ scope.names.lookup y=some .free:=hy
  rcases hy with hy | hy
  ·exact b3q hy
  ·exact absurd rfl (S.nofree _ (PySem.mem_of_lookup hy))
 ·exact Nat.le_of_lt (x.above y c (PySem.mem_of_lookup h))
 ·have hi:i < vs.length:=by
   unfold start at h2
   by_cases hi:i < vs.length
   ·exact hi
   ·rw [List.getElem?_append_right (by simpa using hi)] at h2
    rw [List.getElem?_replicate] at h2
    split at h2 <;> cases h2
  have ha:vs[i]?=some v:=by
   unfold start at h2
   rw [List.getElem?_append_left (by simpa using hi),List.getElem?_map] at h2
   cases e:vs[i]? with
   | none=>rw [e] at h2; cases h2
   | some a=>rw [e] at h2; cases h2; rfl
  obtain ⟨u,hu,rv⟩:=r.get ha
  have hp:ps[i]?=some y:=by
   rw [← S.pre,List.getElem?_take_of_lt (by lia)]; exact h1
  have ndP:ps.Nodup:=by rw [← S.pre]; exact S.nd.sublist (List.take_sublist _ _)
  refine ⟨u,rv,?_⟩
  rcases S.par y (List.mem_of_getElem? hp) with k | k
  ·exact .inl ⟨k,b0i ndP hp hu k⟩
  ·obtain ⟨c,e⟩:=b3q (n:=s.heap.objs.size + 1) k
   refine .inr ⟨.inl k,c,e,?_⟩
   have q:=x.cell y c e
   rw [b0k ndP hp hu (by show scope.names.lookup y≠_; rw [k]; decide)] at q
   exact q
 ·exact e0.hok.fresh (Nat.le_of_lt (x.above y c (PySem.mem_of_lookup h)))
 ·unfold start
  show _=N.length
  rw [List.length_append,List.length_map,List.length_replicate]
  lia
theorem d7f {CX:CXT} {P:Program} {w:World} {K:Γd} {mg:Str→Option Value} {base:Heap} {k:Nat} {f:Addr} {name qual:Str} {params:Arguments} {body:List Stmt} {scope:Scope} {dV kV doc pm cdv ct oc:Value} {an od:Option Addr}
  {osl:Array (Option Value)} {N ps:List Str} {sp:Sp} (lk:K.lookup f=some ⟨oc,od,.func (PySem.W.fnOf name qual params body scope dV kV doc pm an cdv ct),osl⟩) (hcd:PySem.W.codeIn K cdv qual=true) (S:FnScope N ps scope)
  (len:∀ vs H Q E,sp vs H Q E→vs.length=ps.length)
  (hbody:∀ (A:Around) (outer:List Env) (s:Shared) (H:Hp) (vs:List V) (Q:VK) (E:XK),Room k (A.deeper (envOfC qual scope s.heap.objs.size f cdv))→sp vs H Q E →
   ∃ t,PSs (c7d CX P w K mg base N qual scope f cdv A outer s H E) body t∧t { nx:=fun _ H'=>Q .non H',rt:=Q } (start N vs) H) :
  FnOk P w K mg base CX (k + 1) f (PySem.W.fnOf name qual params body scope dV kV doc pm an cdv ct) ps sp:=by
 refine ⟨len,fun A outer s H args us vs Q E hr e0 hb r hsp=>?_⟩
 have hl:=len _ _ _ _ hsp
 have KX:K.In s.heap:=e0.mod.kin.keeps fun b o e=>(e0.bs b o e).1
 have lim:s.heap.NoLimit:=e0.mod.nolimit.keeps fun b o e=>(e0.bs b o e).1
 have hkind:∀ y∈ps.zip us,scope.names.lookup y.1=some .local ∨ (scope.names.lookup y.1=some .cell∧((cellsFrom (s.heap.objs.size + 1) scope.names []).lookup y.1).isSome=true):=fun ⟨n,v⟩ hy=>by
  rcases S.par n (List.of_mem_zip hy).1 with q | q
  ·exact .inl q
  ·exact .inr ⟨q,PySem.W.cellsFrom_some _ _ _ (.inl q)⟩
 refine codeAny_call_function hr.depth (KX _ _ lk) rfl S.co S.gen rfl (PySem.W.codeRec_of KX hcd) (hb _ _ _ _ ?_)
 refine wpAny_newFunctionEnv_cells S.kind hkind fun env he s1 x=>?_
 subst he
 refine ⟨lim.keeps x.toInCall.keep,codeAny_func ?_⟩
 obtain ⟨t,ht,hq⟩:=hbody A outer s H vs Q E (hr.deeper _) hsp
 have I:Inv (c7d CX P w K mg base N qual scope f cdv A outer s H E) [] (start N vs) H s1:=b7v S hr.hd e0 hl r x
 refine wpAny_mono (ht [] s1 (start N vs) H _ I hq) (fun fl s' hs=>?_) fun e s' hs=>hs
 have fin:∀ {σ':St} {H':Hp} {v:V} {u:Value},Inv (c7d CX P w K mg base N qual scope f cdv A outer s H E) [] σ' H' s'→RelV v u→Q v H'→CE outer P w H s Q u s' :=
  fun {σ' H' v u} J rv q=>⟨v,H',J.os,J.bare,J.base,J.hok,rv,q⟩
 cases fl with
 | ret u =>
  obtain ⟨v,σ',H',J,rv,q⟩:=hs
  exact fin J rv q
 | next =>
  obtain ⟨σ',H',J,q⟩:=hs
  exact fin (v:=V.non) (u:=Value.none) J rfl q
 | brk =>
  obtain ⟨_,_,_,q⟩:=hs
  exact False.elim q
 | cont =>
  obtain ⟨_,_,_,q⟩:=hs
  exact False.elim q
end L2
namespace L2
open PySem PySem.Spec PyProof.Rows
section
variable {X:Cx} {x:Str} {p pos:Pos} {e:Expr} {es:List Expr} {t:TA} {id T:String} {r:List V→Hp→VK→Prop}
def tCB (r:List V→Hp→VK→Prop) (t:TA):TE:=fun σ H Q=>t σ H fun vs H1=>r vs H1 Q
theorem a5e (hc:a1l X (.builtin id) r) (hg:Gl X x) (hm:X.mg x=none) (hv:bootBuiltins x=some (.builtin id)) (ha:PA X (e :: es) t) (hn:x≠"__name__":=by decide) (hdb:(x == ("__debug__":Str))=false:=by decide)
  (he:starEach (e :: es) X.env=(false,eval e X.env) :: starEach es X.env:=by rfl) (hpl:(backTo pos (starEach es X.env)).any (·.1)=false:=by rfl):PE X (.Call (.Name x p) (e :: es) [] pos) (tCB r t):=by
 intro pins s σ H Q I h
 refine wpAny_Call_Name_kw (a2u I hg hm hv ?_ hn hdb)
 exact PyProof.Rows.callWith_builtin1 (thn (ha pos pins s σ H _ I h) fun us s1 ⟨vs,H1,I1,r1,q1⟩=>hc pins s1 σ H1 vs us Q I1 r1 q1) he hpl
theorem a9f (hc:a1l X (.type T) r) (hg:Gl X x) (hm:X.mg x=none) (hv:bootBuiltins x=some (.type T)) (ha:PA X (e :: es) t) (hn:x≠"__name__":=by decide) (hdb:(x == ("__debug__":Str))=false:=by decide)
  (he:starEach (e :: es) X.env=(false,eval e X.env) :: starEach es X.env:=by rfl) (hpl:(backTo pos (starEach es X.env)).any (·.1)=false:=by rfl):PE X (.Call (.Name x p) (e :: es) [] pos) (tCB r t):=by
 intro pins s σ H Q I h
 refine wpAny_Call_Name_kw (a2u I hg hm hv ?_ hn hdb)
 exact PyProof.Rows.callWith_type1 (thn (ha pos pins s σ H _ I h) fun us s1 ⟨vs,H1,I1,r1,q1⟩=>hc pins s1 σ H1 vs us Q I1 r1 q1) he hpl
end
end L2
namespace HT
open PySem PyProof.Rows
def lexLt:List Int→List Int→Bool
 | [],[]=>false
 | [],_ :: _=>true
 | _ :: _,[]=>false
 | x :: xs,y :: ys=>if x=y then lexLt xs ys else decide (x < y)
theorem b4h (x y:Int) (xs ys:List Int):lexLt (x :: xs) (y :: ys)=if x=y then lexLt xs ys else decide (x < y):=rfl
theorem a8b:lexLt [] []=false:=rfl
theorem a6k (y:Int) (ys:List Int):lexLt [] (y :: ys)=true:=rfl
theorem a6l (x:Int) (xs:List Int):lexLt (x :: xs) []=false:=rfl
theorem c1w (A:Around) (s:Shared) (a:Int) (t:Tok) (c:Int) (u:Tok):∃ e,SeqAt.EqAt A s (.int a t) (.int c u) e∧(e=true↔a=c) :=
 ⟨(a == c),SeqAt.EqAt.int_int a t c u,by simp⟩
theorem c0l (A:Around) (s:Shared) (a:Int) (t:Tok) (c:Int) (u:Tok) (prog:Program) (w:World) (E:Value→Shared→Prop) (Q:Value→Shared→Prop) (h:Q (.bool (decide (a < c))) s) :
  wpAny (model prog w) A (richCompare .Lt (.int a t) (.int c u)) Q E s :=
 (PyProof.Rows.lt_int h:wpAny (model prog w) A (compareOp .Lt (.int a t) (.int c u)) Q E s)
section
open PySem.SeqAt
open PySem.AutoSeq1 (wpAny_loadPart')
open PySem.MeetsSeq PySem.MeetsSeq2 PySem.MeetsSeq3
theorem a7m (l b:Addr) (items items2:Array Value) (n n2:Nat) (dd dd2:Option Addr) (sl sl2:Array (Option Value)) (ns ms:List Int) (hi:IntsAre items.toList ns) (hj:IntsAre items2.toList ms) :
  Meets (Builtin.«tuple.__lt__» ⟨[.ref l,.ref b],[]⟩)
   (fun _ R s=>s.heap.get? l=some { cls:=.type "tuple",dict:=dd,data:=.seq items n,slots:=sl }∧s.heap.get? b=some { cls:=.type "tuple",dict:=dd2,data:=.seq items2 n2,slots:=sl2 } ∧
    R (.ok (.ret (.bool (lexLt ns ms)))) s) :=
 .of_wp fun prog w A R s h=>by
  obtain ⟨hp,g,d,tk,os⟩:=s; obtain ⟨hl,hb,h⟩:=h
  have f2:=AutoSeq1.sub_tuple_tuple
  have z1:items.size=ns.length:=by rw [← hi.length]; simp
  have z2:items2.size=ms.length:=by rw [← hj.length]; simp
  wp_walk using wpAny_loadPart' hl,wpAny_loadPart' hb,wpAny_forIn_list _ (fun rest b s'=>b.1=none∧s'=⟨hp,g,d,tk,os⟩∧∃ (vs ws:List Value) (ns' ms':List Int),rest=vs.zip ws ∧
   IntsAre vs ns'∧IntsAre ws ms'∧ns'.length + items2.size=ms'.length + items.size∧R (.ok (.ret (.bool (lexLt ns' ms')))) ⟨hp,g,d,tk,os⟩) _
  case turn =>
   rintro ⟨y,x⟩ rest b s' ⟨hb',rfl,vs,ws,ns',ms',hz,hvi,hwi,hlen,hR⟩
   cases hvi with
   | nil=>rw [List.zip_nil_left] at hz; cases hz
   | cons a t hvi' =>
    cases hwi with
    | nil=>rw [List.zip_nil_right] at hz; cases hz
    | cons c u hwi' =>
     rw [List.zip_cons_cons] at hz
     injection hz with hyx hrest
     injection hyx with hy hx
     subst hy hx
     rw [b4h] at hR
     simp only [List.length_cons] at hlen
     obtain ⟨e,he,hiff⟩:=c1w A.in1 ⟨hp,g,d,tk,os⟩ a t c u
     refine Γa (he prog w _ _ ?_)
     cases e with
     | true =>
      rw [if_pos (hiff.mp rfl)] at hR
      wp_walk
      exact ⟨rfl,rfl,_,_,_,_,hrest,hvi',hwi',by lia,hR⟩
     | false =>
      rw [if_neg (fun q=>absurd (hiff.mpr q) Bool.false_ne_true)] at hR
      have hri:=c0l A.in1 ⟨hp,g,d,tk,os⟩ a t c u prog w
      wp_walk using hri
      exact ⟨_,rfl,by simpa using hR⟩
  case fin =>
   rintro ⟨b1,b2⟩ s' ⟨hb',rfl,vs,ws,ns',ms',hz,hvi,hwi,hlen,hR⟩
   simp only at hb'
   subst hb'
   have hv:lexLt ns' ms'=decide (items.size < items2.size):=by
    cases hvi with
    | nil =>
     cases hwi with
     | nil =>
      simp only [List.length_nil] at hlen
      rw [a8b]
      exact (decide_eq_false (by lia)).symm
     | cons c u hw =>
      simp only [List.length_nil,List.length_cons] at hlen
      rw [a6k]
      exact (decide_eq_true (by lia)).symm
    | cons a t hv =>
     cases hwi with
     | nil =>
      simp only [List.length_nil,List.length_cons] at hlen
      rw [a6l]
      exact (decide_eq_false (by lia)).symm
     | cons c u hw =>
      rw [List.zip_cons_cons] at hz
      cases hz
   rw [hv] at hR
   wp_walk
   exact ⟨_,rfl,by simpa [Builtin.Tuple.tupleCompareSizes] using hR⟩
  case h =>
   exact ⟨rfl,rfl,items.toList,items2.toList,ns,ms,rfl,hi,hj,by lia,h⟩
end
section
variable {prog:Program} {w:World} {A:Around} {E:Value→Shared→Prop} {s:Shared}
theorem lt_tupInts {l b:Addr} {items items2:Array Value} {ns ms:List Int} {Q:Value→Shared→Prop} (hl:IsTup s.heap l items) (hb:IsTup s.heap b items2) (hi:IntsAre items.toList ns) (hj:IntsAre items2.toList ms)
  (hu:A.units < cLine) (h:Q (.bool (lexLt ns ms)) s):wpAny (model prog w) A (compareOp .Lt (.ref l) (.ref b)) Q E s:=by
 obtain ⟨⟨cls,dd,data,sl⟩,ho,hc,n,hd⟩:=id hl
 obtain ⟨⟨cls2,dd2,data2,sl2⟩,ho2,hc2,n2,hd2⟩:=id hb
 simp only at hc hd hc2 hd2
 subst hc hd hc2 hd2
 exact richCompare_meets_room (op:=.Lt) ⟨_,ho,rfl⟩ ⟨_,ho2,rfl⟩ PySem.F.slot_tuple_lt PySem.F.entry_tuple_lt (PySem.F.args_tuple_lt_2 _ _) (a7m l b items items2 n n2 dd dd2 sl sl2 ns ms hi hj)
  ⟨ho,ho2,show Value.bool (lexLt ns ms)≠Value.notImplemented∧Q (.bool (lexLt ns ms)) s from ⟨(fun x=>nomatch x),h⟩⟩ hu
theorem cat_tup {t b:Addr} {vs ws:List Value} {Q:Value→Shared→Prop} (ht:IsTup s.heap t vs.toArray) (hb:IsTup s.heap b ws.toArray) (hv:vs≠[])
  (h1:ws=[]→Q (.ref t) s) (h2:ws≠[]→Q (.ref s.heap.objs.size) { s with heap:=s.heap.push { cls:=.type "tuple",data:=.seq (vs++ws).toArray } })
  (hsz:vs.length + ws.length≤sizeLine):wpAny (model prog w) A (binaryOp .Add (.ref t) (.ref b)) Q E s:=by
 obtain ⟨⟨cls,dd,data,sl⟩,ho,hc,n,hd⟩:=id ht
 obtain ⟨⟨cls2,dd2,data2,sl2⟩,ho2,hc2,n2,hd2⟩:=id hb
 simp only at hc hd hc2 hd2
 subst hc hd hc2 hd2
 have e:vs.toArray++ws.toArray=(vs++ws).toArray:=by simp
 by_cases hw:ws=[]
 ·exact concat_meets ⟨_,ho,rfl⟩ ⟨_,ho2,rfl⟩ noFill_tuple_add seq_tuple_add PySem.F.slot_tuple_add PySem.F.entry_tuple_add (PySem.F.args_tuple_add_2 _ _)
   (tuple_addW1 t b vs.toArray ws.toArray n n2 dd dd2 sl sl2 (by simpa using hv) (by simp [hw])) ⟨ho,ho2,h1 hw⟩
 ·refine concat_meets ⟨_,ho,rfl⟩ ⟨_,ho2,rfl⟩ noFill_tuple_add seq_tuple_add PySem.F.slot_tuple_add PySem.F.entry_tuple_add (PySem.F.args_tuple_add_2 _ _)
   (tuple_addW2 t b vs.toArray ws.toArray n n2 dd dd2 sl sl2 (by simpa using hv) (by simpa using hw) (by rw [List.size_toArray,List.size_toArray]; exact hsz)) ⟨ho,ho2,?_⟩
  rw [e]
  exact h2 hw
def sIx (n d:Nat):Option Int→Nat
 | none=>d
 | some v=>if v < 0 then (v + (n:Int)).toNat else min v.toNat n
theorem c8r (n d:Nat) (hd:d≤n) (o:Option Int):sIx n d o≤n:=by
 cases o with
 | none=>exact hd
 | some v =>
  show (if v < 0 then (v + (n:Int)).toNat else min v.toNat n)≤n
  by_cases hv:v < 0
  ·rw [if_pos hv]; lia
  ·rw [if_neg hv]; exact Nat.min_le_right _ _
theorem b9b (v:Int) (n d:Nat):(if v < 0 then max (v + (n:Int)) 0 else min v (n:Int))=((sIx n d (some v):Nat):Int):=by
 show (if v < 0 then max (v + (n:Int)) 0 else min v (n:Int))=(((if v < 0 then (v + (n:Int)).toNat else min v.toNat n):Nat):Int)
 by_cases hv:v < 0
 ·simp only [if_pos hv]; lia
 ·simp only [if_neg hv]; lia
theorem b4z (lo hi:Option Int) (n:Nat):Builtin.Slice.sliceAdjust lo hi 1 (n:Int)=(((sIx n 0 lo:Nat):Int),((sIx n n hi:Nat):Int)):=by
 have h1:¬ ((1:Int) < 0):=by lia
 unfold Builtin.Slice.sliceAdjust
 simp only [h1,if_false]
 refine Prod.ext ?_ ?_
 ·cases lo with
  | none=>rfl
  | some v=>exact b9b v n 0
 ·cases hi with
  | none=>rfl
  | some v=>exact b9b v n n
theorem b4d (i j:Nat):Builtin.Slice.slicePlaces (i:Int) (j:Int) 1=j - i:=by
 unfold Builtin.Slice.slicePlaces
 have h1:(1:Int) > 0:=by lia
 simp only [h1,if_true,Int.ediv_one]
 split <;> lia
theorem a6w {v:Value} {o:Option Int} {Q:Option Int→Shared→Prop} (p:IsPart v o) (h:Q o s):wpAny (model prog w) A (Builtin.Slice.slicePartIndex v) Q E s:=by
 cases p with
 | none=>exact slicePart_none h
 | int i t=>exact slicePart_int h
theorem sliceApplied_gen {sl:Addr} {vl vu:Value} {lo hi:Option Int} {n:Nat} {Q:Int×Int×Nat→Shared→Prop} (hs:s.heap.IsSliceOf sl vl vu .none) (pl:IsPart vl lo) (pu:IsPart vu hi)
  (h:Q (((sIx n 0 lo:Nat):Int),1,sIx n n hi - sIx n 0 lo) s):wpAny (model prog w) A (Builtin.Slice.sliceApplied (.ref sl) (pure (n:Int))) Q E s:=by
 obtain ⟨os,hos,hcs,hds⟩:=id hs
 unfold Builtin.Slice.sliceApplied Builtin.Slice.sliceFields
 refine Γa (Γa (wpAny_field hos hds (x:=vl) rfl (Γa (wpAny_field hos hds (x:=vu) rfl (Γa (wpAny_field hos hds (x:=.none) rfl (Γb ?_)))))))
 refine Γa (slicePart_none ?_)
 show wpAny _ _ (if ((1:Int) == 0)=true then _ else _) _ _ s
 rw [if_neg (by decide)]
 refine Γa (a6w pl (Γa (a6w pu (Γa (Γb ?_)))))
 show wpAny _ _ (match Builtin.Slice.sliceAdjust lo hi 1 (n:Int) with | (lo,hi)=>pure (lo,(1:Int),Builtin.Slice.slicePlaces lo hi 1)) _ _ s
 rw [b4z lo hi n]
 show wpAny _ _ (pure (((sIx n 0 lo:Nat):Int),(1:Int),Builtin.Slice.slicePlaces ((sIx n 0 lo:Nat):Int) ((sIx n n hi:Nat):Int) 1)) _ _ s
 rw [b4d]
 exact Γb h
theorem c0s (xs:Array Value) (i k:Nat):((List.range k).filterMap fun (m:Nat)=>xs[((i:Int) + (m:Int) * 1).toNat]?).toArray=((xs.toList.drop i).take k).toArray:=by
 have e:(fun (m:Nat)=>xs[((i:Int) + (m:Int) * 1).toNat]?)=fun m=>xs[i + m]?:=by
  funext m
  have:((i:Int) + (m:Int) * 1).toNat=i + m:=by lia
  rw [this]
 rw [e]
 have:=pick_run xs i k
 rw [List.filterMap_map] at this
 have e2:((fun x=>xs[x]?) ∘ fun x=>i + x)=fun m=>xs[i + m]?:=rfl
 rw [e2] at this
 rw [this]
theorem getItem_tuple_cut {t sl:Addr} {items:Array Value} {vl vu:Value} {lo hi:Option Int} {Q:Value→Shared→Prop} (ht:IsTup s.heap t items) (hs:s.heap.IsSliceOf sl vl vu .none) (pl:IsPart vl lo) (pu:IsPart vu hi)
  (hw:¬ (sIx items.size 0 lo=0∧sIx items.size items.size hi=items.size))
  (h:Q (.ref s.heap.objs.size) { s with heap:=s.heap.push { cls:=.type "tuple",data:=.seq ((items.toList.drop (sIx items.size 0 lo)).take (sIx items.size items.size hi - sIx items.size 0 lo)).toArray } })
  (hsz:items.size≤sizeLine):wpAny (model prog w) A (getItem (.ref t) (.ref sl)) Q E s:=by
 have htake:sizeOk (.seq ((items.toList.drop (sIx items.size 0 lo)).take (sIx items.size items.size hi - sIx items.size 0 lo)).toArray):=by
  show ((items.toList.drop (sIx items.size 0 lo)).take (sIx items.size items.size hi - sIx items.size 0 lo)).toArray.size≤sizeLine
  rw [List.size_toArray,List.length_take,List.length_drop,Array.length_toList]
  lia
 have hj:sIx items.size items.size hi≤items.size:=c8r _ _ (Nat.le_refl _) hi
 obtain ⟨os,hos,hcs,hds⟩:=id hs
 have hTs:s.TypeIs (.ref sl) "slice":=⟨os,hos,hcs⟩
 unfold getItem
 try with_reducible refine Γg ?_
 first | refine Γa (Γb ?_) | skip
 refine Γa (wpAny_sequenceKey ht.typeIs (by decide) ?_)
 refine Γa (wpAny_callSpecial?_slot (name:=Γe "__getitem__") ht.typeIs PyProof.Rows.slot_tuple_getitem
  (wpAny_call_entry PyProof.Rows.slot_tuple_getitem ht.typeIs entry_tuple_getitem ?_ (args_tuple_getitem _ _)))
 show wpAny _ _ (Builtin.Tuple.tupleItemsOf (.ref t) >>= _) _ _ s
 refine Γa (tupleItemsOf_ ht ?_)
 refine Γa (wpAny_typeOf hTs ?_)
 rw [if_pos (by decide)]
 refine Γa (sliceApplied_gen hs pl pu ?_)
 have hno:¬ ((((sIx items.size 0 lo:Nat):Int) == 0 && (1:Int) == 1 && (sIx items.size items.size hi - sIx items.size 0 lo) == items.size)=true):=by
  intro q
  rw [Bool.and_eq_true,Bool.and_eq_true] at q
  have q1:((sIx items.size 0 lo:Nat):Int)=0:=eq_of_beq q.1.1
  have q2:sIx items.size items.size hi - sIx items.size 0 lo=items.size:=eq_of_beq q.2
  exact hw ⟨by lia,by lia⟩
 show wpAny _ _ (if (((sIx items.size 0 lo:Nat):Int) == 0 && (1:Int) == 1 && (sIx items.size items.size hi - sIx items.size 0 lo) == items.size)=true then _ else _) _ _ s
 rw [if_neg hno,c0s]
 first
  | exact Γa (m:=Builtin.Tuple.tupleExact _) (wpAny_newObj_type (Γb ⟨_,rfl,Γb h⟩) htake)
  | exact Γa (m:=Builtin.Tuple.tupleExact _) (wpAny_newObj_type (Γa (Γb (Γb ⟨_,rfl,Γb h⟩))) htake)
  | exact Γa (Γa (m:=Builtin.Tuple.tupleExact _) (wpAny_newObj_type (Γb (Γb ⟨_,rfl,Γb h⟩)) htake))
  | exact Γa (Γa (m:=Builtin.Tuple.tupleExact _) (wpAny_newObj_type (Γb ⟨_,rfl,Γb h⟩) htake))
end
end HT
namespace L2
open PySem PySem.Spec PyProof.Rows
abbrev TO:=St→Hp→(Option Int→Hp→Prop)→Prop
def PO (X:Cx) (e:Option Expr) (t:TO):Prop :=
 ∀ (pins:List (Addr×Obj)) (s:Shared) (σ:St) (H:Hp) (Q:Option Int→Hp→Prop),Inv X pins σ H s→t σ H Q →
  wpAny (model X.prog X.w) X.A (evalPart e X.env) (fun u s'=>∃ o H',Inv X pins σ H' s'∧IsPart u o∧Q o H') X.xe s
def c4d:TO:=fun _ H Q=>Q none H
def d4c (t:TE):TO:=fun σ H Q=>t σ H fun x H1=>∃ i,x=.int i∧Q (some i) H1
theorem a3k {ns:List Int}:∀ {us:List Value},Vals (ns.map V.int) us→IntsAre us ns:=by
 induction ns with
 | nil=>intro us r; rw [List.map_nil] at r; cases r; exact .nil
 | cons n ns ih =>
  intro us r
  rw [List.map_cons] at r
  cases r with
  | cons r1 r2 =>
   obtain ⟨t,e⟩:=r1
   subst e
   exact .cons n t (ih r2)
section
variable {X:Cx} {e:Expr} {te:TE} {lo hi:Option Expr} {tl th:TO} {pos p2:Pos}
theorem c5f:PO X none c4d:=by
 intro pins s σ H Q I h
 rw [evalPart_none]
 exact Γb ⟨none,H,I,.none,h⟩
theorem c5e (h:PE X e te):PO X (some e) (d4c te):=by
 intro pins s σ H Q I hw
 rw [evalPart_some]
 refine thn (h pins s σ H _ I hw) fun u s1 ⟨x,H1,I1,r1,q1⟩=>?_
 obtain ⟨i,rfl,q⟩:=q1
 obtain ⟨t,rfl⟩:=r1
 exact ⟨some i,H1,I1,.int i t,q⟩
def SlR (X:Cx) (r:V→Option Int→Option Int→Hp→VK→Prop):Prop :=
 ∀ (pins:List (Addr×Obj)) (s:Shared) (σ:St) (H:Hp) (x:V) (v vl vu:Value) (lo hi:Option Int) (sl:Addr) (Q:VK),Inv X pins σ H s→RelV x v→s.heap.IsSliceOf sl vl vu .none→IsPart vl lo→IsPart vu hi→r x lo hi H Q →
  ∃ T id,typeLookup (.type T) "__getitem__" = pure (some (.builtin id))∧s.TypeIs v T∧wpAny (model X.prog X.w) X.A (getItem v (.ref sl)) (EP X pins σ Q) X.xe s
def tSl (r:V→Option Int→Option Int→Hp→VK→Prop) (te:TE) (tl th:TO):TE:=fun σ H Q=>te σ H fun x H1=>tl σ H1 fun l H2=>th σ H2 fun u H3=>r x l u H3 Q
theorem c0t {r:V→Option Int→Option Int→Hp→VK→Prop} (hr:SlR X r) (he:PE X e te) (hl:PO X lo tl) (hu:PO X hi th):PE X (.Subscript e (.Slice lo hi none p2) pos) (tSl r te tl th):=by
 intro pins s σ H Q I h
 refine Subscript_ (thn (he pins s σ H _ I h) fun v s1 ⟨x,H1,I1,r1,q1⟩=>?_)
 refine wpAny_Slice (thn (hl pins s1 σ H1 _ I1 q1) fun vl s2 ⟨l,H2,I2,pl,q2⟩=>thn (hu pins s2 σ H2 _ I2 q2) fun vu s3 ⟨u,H3,I3,pu,q3⟩=>?_)
 rw [evalPart_none]
 refine Γb ?_
 have I4:Inv X pins σ H3 { s3 with heap:=s3.heap.push { cls:=.type "slice",data:=.fields #[vl,vu,.none] } }:=I3.kept (t':=s3.toks) fun b ob q=>Γc _ q
 obtain ⟨T,id,hT,ht,hg⟩:=hr pins { s3 with heap:=s3.heap.push { cls:=.type "slice",data:=.fields #[vl,vu,.none] } } σ H3 x v vl vu l u s3.heap.objs.size Q I4 r1 (Heap.IsSliceOf.new ..) pl pu q3
 show wpAny (model X.prog X.w) X.A (subscriptTail e (.Slice lo hi none p2) v (.ref s3.heap.objs.size)) (EP X pins σ Q) X.xe { s3 with heap:=s3.heap.push { cls:=.type "slice",data:=.fields #[vl,vu,.none] } }
 exact tail_any (ops:=[.ref s3.heap.objs.size,v]) ht hT hg (by with_unfolding_all rfl)
def c3u (xs:List V) (lo hi:Option Int):List V:=(xs.drop (HT.sIx xs.length 0 lo)).take (HT.sIx xs.length xs.length hi - HT.sIx xs.length 0 lo)
theorem a5z (xs:List V) (lo hi:Option Int):(c3u xs lo hi).length≤xs.length:=by
 unfold c3u
 rw [List.length_take,List.length_drop]
 lia
def rSlT (K:Γd):V→Option Int→Option Int→Hp→VK→Prop:=fun x lo hi H Q=>∃ a xs,x=.ref a∧SqT K H a xs ∧
 ¬ (HT.sIx xs.length 0 lo=0∧HT.sIx xs.length xs.length hi=xs.length)∧∀ p,H p=none→Q (.ref p) (upd H p (.tup (c3u xs lo hi)))
theorem c8p:SlR X (rSlT X.K):=by
 intro pins s σ H x v vl vu lo hi sl Q I rx hs pl pu h
 obtain ⟨a,xs,rfl,hx,hw,q⟩:=h
 cases rx
 obtain ⟨its,r,ht,hz⟩:=I.tuple hx
 have hlen:its.toArray.size=xs.length:=by rw [List.size_toArray]; exact r.length.symm
 refine ⟨"tuple",_,PyProof.Rows.slot_tuple_getitem.lookup,ht.typeIs,?_⟩
 refine HT.getItem_tuple_cut ht hs pl pu (by rw [hlen]; exact hw) ?_ (by rw [hlen]; exact hz)
 rw [hlen]
 refine ⟨.ref s.heap.objs.size,_,I.laid (t':=s.toks) (o:=.tup (c3u xs lo hi)) (fun b ob q=>Γc _ q) (Nat.le_refl _) ?_,rfl,q _ (I.hok.fresh (Nat.le_refl _))⟩
 exact ⟨Nat.le_trans (a5z xs lo hi) hz,_,(r.drop (HT.sIx xs.length 0 lo)).take (HT.sIx xs.length xs.length hi - HT.sIx xs.length 0 lo),IsTup.new _ _⟩
def rLtT (K:Γd):R2:=fun x y H Q=>∃ a b ns ms,x=.ref a∧y=.ref b∧SqT K H a (ns.map V.int)∧SqT K H b (ms.map V.int)∧Q (.bl (HT.lexLt ns ms)) H
theorem d0a (hu:X.A.units < cLine):OpR X (compareOp .Lt) (rLtT X.K):=by
 intro pins s σ H x y v u Q I rx ry h
 obtain ⟨a,b,ns,ms,rfl,rfl,ha,hb,q⟩:=h
 cases rx
 cases ry
 obtain ⟨its,r1,p1,_⟩:=I.tuple ha
 obtain ⟨its2,r2,p2,_⟩:=I.tuple hb
 have i1:IntsAre its.toArray.toList ns:=a3k r1
 have i2:IntsAre its2.toArray.toList ms:=a3k r2
 exact HT.lt_tupInts p1 p2 i1 i2 hu ⟨.bl (HT.lexLt ns ms),H,I,rfl,q⟩
def d5d (K:Γd):R2:=fun x y H Q=>∃ a b xs ys,x=.ref a∧y=.ref b∧SqT K H a xs∧SqT K H b ys∧xs≠[]∧xs.length + ys.length≤sizeLine ∧
 (ys=[]→Q (.ref a) H)∧(ys≠[]→∀ p,H p=none→Q (.ref p) (upd H p (.tup (xs++ys))))
theorem Vals.nil_iff {xs:List V} {us:List Value} (r:Vals xs us):us=[]↔xs=[]:=by
 cases r with
 | nil=>simp
 | cons _ _=>simp
theorem c5r:OpR X (binaryOp .Add) (d5d X.K):=by
 intro pins s σ H x y v u Q I rx ry h
 obtain ⟨a,b,xs,ys,rfl,rfl,ha,hb,hx,hz,q1,q2⟩:=h
 cases rx
 cases ry
 obtain ⟨its,r1,p1,_⟩:=I.tuple ha
 obtain ⟨its2,r2,p2,_⟩:=I.tuple hb
 refine HT.cat_tup p1 p2 (fun z=>hx (r1.nil_iff.mp z)) (fun z=>⟨.ref a,H,I,rfl,q1 (r2.nil_iff.mp z)⟩) (fun z=>?_) (by rw [← r1.length,← r2.length]; exact hz)
 refine ⟨.ref s.heap.objs.size,_,I.laid (t':=s.toks) (o:=.tup (xs++ys)) (fun b ob q=>Γc _ q) (Nat.le_refl _) ?_,rfl,q2 (fun w=>z (r2.nil_iff.mpr w)) _ (I.hok.fresh (Nat.le_refl _))⟩
 exact ⟨by rw [List.length_append]; exact hz,_,r1.append r2,IsTup.new _ _⟩
end
end L2
namespace L2
open PySem PySem.Spec PyProof.Rows
def ixN (n:Nat) (i:Int):Option Nat:=if 0≤i then (if i < n then some i.toNat else none) else if -(n:Int)≤i then some (i + n).toNat else none
def atI {α:Type} (xs:List α) (i:Int):Option α:=(ixN xs.length i).bind fun j=>xs[j]?
theorem b7q {n:Nat} {i:Int} {j:Nat} (h:ixN n i=some j):seqIndex? i n=some j∧j < n∧-(n:Int)≤i∧i < n:=by
 unfold ixN at h
 by_cases h0:0≤i
 ·rw [if_pos h0] at h
  by_cases h1:i < n
  ·rw [if_pos h1] at h
   have e:i.toNat=j:=Option.some.inj h
   exact ⟨by rw [seqIndex_of h0 h1,e],by lia,by lia,h1⟩
  ·rw [if_neg h1] at h; cases h
 ·rw [if_neg h0] at h
  by_cases h1:-(n:Int)≤i
  ·rw [if_pos h1] at h
   have e:(i + n).toNat=j:=Option.some.inj h
   exact ⟨by rw [seqIndex_neg (by lia) h1,e],by lia,h1,by lia⟩
  ·rw [if_neg h1] at h; cases h
theorem b9g {α:Type} {xs:List α} {i:Int} {v:α} (h:atI xs i=some v):∃ j,seqIndex? i xs.length=some j∧xs[j]?=some v∧j < xs.length∧-(xs.length:Int)≤i∧i < xs.length:=by
 unfold atI at h
 cases e:ixN xs.length i with
 | none=>rw [e] at h; cases h
 | some j =>
  rw [e] at h
  obtain ⟨h1,h2,h3,h4⟩:=b7q e
  exact ⟨j,h1,h,h2,h3,h4⟩
def b9l (b:Expr):Prop:=∀ o i,subscripted b false o i=operate [o,i] (getItem o i)
def IxR (X:Cx) (r:R2):Prop :=
 ∀ (value slice:Expr) (pins:List (Addr×Obj)) (s:Shared) (σ:St) (H:Hp) (x y:V) (v u:Value) (Q:VK),Inv X pins σ H s→RelV x v→RelV y u→r x y H Q →
  subscripted slice false v u=operate [v,u] (getItem v u)→wpAny (model X.prog X.w) X.A (subscriptTail value slice v u) (EP X pins σ Q) X.xe s
def MtR (X:Cx) (id:String) (r:V→List V→Hp→VK→Prop):Prop :=
 ∀ (pins:List (Addr×Obj)) (s:Shared) (σ:St) (H:Hp) (x:V) (xs:List V) (v:Value) (us:List Value) (Q:VK),Inv X pins σ H s→RelV x v→Vals xs us→r x xs H Q →
  wpAny (model X.prog X.w) X.A (call (.builtin id) (v :: us)) (EP X pins σ Q) X.xe s
section
variable {X:Cx} {a b:Expr} {ta tb:TE} {pos:Pos}
theorem c9r {r:R2} (hr:IxR X r) (ha:PE X a ta) (hb:PE X b tb) (hs:b9l b):PE X (.Subscript a b pos) (tOp r ta tb):=by
 intro pins s σ H Q I h
 exact Subscript_ (d9q ha hb I h fun v u s2 x y H2 I2 rx ry q=>hr a b pins s2 σ H2 x y v u Q I2 rx ry q (hs _ _))
def rIxL (K:Γd):R2:=fun x y H Q=>∃ p xs i v,x=.ref p∧y=.int i∧SqL K H p xs∧atI xs i=some v∧Q v H
def rIxT (K:Γd):R2:=fun x y H Q=>∃ p xs i v,x=.ref p∧y=.int i∧SqT K H p xs∧atI xs i=some v∧Q v H
theorem c6i:IxR X (rIxL X.K):=by
 intro value slice pins s σ H x y v u Q I rx ry h hs
 obtain ⟨p,xs,i,z,rfl,rfl,hq,he,q⟩:=h
 cases rx
 obtain ⟨t,rfl⟩:=ry
 obtain ⟨its,r,pl,hz⟩:=I.list hq
 obtain ⟨j,h1,h2,h3,h4,h5⟩:=b9g he
 obtain ⟨w,ew,rw'⟩:=r.get h2
 have hl:=r.length
 have hn:=a9p
 have fin:EP X pins σ Q w s:=⟨z,H,I,rw',q⟩
 by_cases h0:0≤i
 ·have hj:i.toNat=j:=by
   rw [seqIndex_of h0 h5] at h1
   exact Option.some.inj h1
  exact item_listR pl.isList h0 (by lia) (by rw [hj]; simpa using ew) fin hs
 ·have hj:(i + (its.toArray.size:Int)).toNat=j:=by
   rw [seqIndex_neg (by lia) h4] at h1
   rw [List.size_toArray,← hl]
   exact Option.some.inj h1
  exact subscriptTail_builtinR (x:=w) pl.isList.typeIs slot_list_getitem.lookup
   (wpAny_getItem_list_neg (Q:=fun r s'=>r=w∧EP X pins σ Q r s') pl.isList (by lia) (by rw [List.size_toArray] <;> lia) (by lia) (by rw [hj]; simpa using ew) ⟨rfl,fin⟩) hs
theorem d0q:IxR X (rIxT X.K):=by
 intro value slice pins s σ H x y v u Q I rx ry h hs
 obtain ⟨p,xs,i,z,rfl,rfl,hq,he,q⟩:=h
 cases rx
 obtain ⟨t,rfl⟩:=ry
 obtain ⟨its,r,pl,hz⟩:=I.tuple hq
 obtain ⟨j,h1,h2,h3,h4,h5⟩:=b9g he
 obtain ⟨w,ew,rw'⟩:=r.get h2
 have hl:=r.length
 have hn:=a9p
 have fin:EP X pins σ Q w s:=⟨z,H,I,rw',q⟩
 exact subscriptTail_builtinR (x:=w) pl.typeIs slot_tuple_getitem.lookup
  (getItem_tuple (j:=j) (Q:=fun r s'=>r=w∧EP X pins σ Q r s') pl (by lia) (by lia) (by rw [List.size_toArray,← hl]; exact h1) (by simpa using ew) ⟨rfl,fin⟩) hs
theorem b4g (its:List Value) (n j:Nat) (u:Value):Obj.mapSeq (·.setIfInBounds j u) { cls:=.type "list",data:=.seq its.toArray n } = { cls:=.type "list",data:=.seq (its.set j u).toArray n }:=by
 simp [Obj.mapSeq]
theorem Inv.lst {pins:List (Addr×Obj)} {σ:St} {H:Hp} {s:Shared} {p:Addr} {xs:List V} (I:Inv X pins σ H s) (h:H p=some (.lst xs)) :
  ∃ (its:List Value) (n:Nat),Vals xs its∧s.heap.get? p=some { cls:=.type "list",data:=.seq its.toArray n }∧xs.length≤sizeLine:=by
 obtain ⟨z,its,n,r,e⟩:=I.hok p _ h
 exact ⟨its,n,r,e,z⟩
theorem Inv.lstUpd {pins:List (Addr×Obj)} {σ:St} {H:Hp} {s:Shared} {p:Addr} {xs ys:List V} {its its':List Value} {n n':Nat} {f:Obj→Obj} (I:Inv X pins σ H s) (h:H p=some (.lst xs))
  (ho:s.heap.get? p=some { cls:=.type "list",data:=.seq its.toArray n }) (hf:f { cls:=.type "list",data:=.seq its.toArray n } = { cls:=.type "list",data:=.seq its'.toArray n' }) (r:Vals ys its') (hz:ys.length≤sizeLine) (t:Nat) :
  Inv X pins σ (upd H p (.lst ys)) { s with heap:=s.heap.update p f,toks:=t }:=by
 have e:(s.heap.update p f).get? p=some { cls:=.type "list",data:=.seq its'.toArray n' }:=by
  rw [Heap.get?_update_self f ho (by rw [hf] <;> rfl),hf]
 refine I.write (x:=p) (e:=p) (by rw [h]; trivial) (.inl rfl) (fun b u hb q=>(Γf _ _ (Ne.symm hb)).trans q) ⟨_,e⟩ ?_
 exact ⟨hz,its',n',r,e⟩
def d5c:V→V→V→Hp→(Hp→Prop)→Prop:=fun o i v H Q=>∃ p xs k j,o=.ref p∧i=.int k∧H p=some (.lst xs)∧ixN xs.length k=some j∧Q (upd H p (.lst (xs.set j v)))
theorem c0g:PSet X d5c:=by
 intro pins s σ H o i v ov iv u Q I ro ri rv h
 obtain ⟨p,xs,k,j,rfl,rfl,hp,hj,q⟩:=h
 cases ro
 obtain ⟨t,rfl⟩:=ri
 obtain ⟨its,n,r,ho,hz⟩:=I.lst hp
 obtain ⟨h1,h2,h3,h4⟩:=b7q hj
 have hl:=r.length
 have hn:=a9p
 have I':Inv X pins σ (upd H p (.lst (xs.set j v))) { s with heap:=s.heap.update p (Obj.mapSeq (·.setIfInBounds j u)) } :=
  I.lstUpd hp ho (b4g its n j u) (r.set rv j) (by rw [List.length_set]; exact hz) s.toks
 by_cases h0:0≤k
 ·have hk:k.toNat=j:=by
   rw [seqIndex_of h0 h4] at h1
   exact Option.some.inj h1
  exact PySem.W.ki_setAt ho h0 (by lia) (by rw [List.size_toArray,← hl]; exact h4) (by rw [hk]; exact ⟨_,I',q⟩)
 ·have hk:(k + (its.toArray.size:Int)).toNat=j:=by
   rw [seqIndex_neg (by lia) h3] at h1
   rw [List.size_toArray,← hl]
   exact Option.some.inj h1
  exact PySem.W.ki_setBack ho (by lia) (by rw [List.size_toArray,← hl]; exact h3) (by lia) (by rw [hk]; exact ⟨_,I',q⟩)
theorem a9a (lo hi:Option Int) (n:Nat):(sliceBounds lo hi none n).1=((HT.sIx n 0 lo:Nat):Int)∧(sliceBounds lo hi none n).2.1=((HT.sIx n n hi:Nat):Int)∧(sliceBounds lo hi none n).2.2=1:=by
 refine ⟨?_,?_,rfl⟩
 ·cases lo with
  | none=>simp [sliceBounds,HT.sIx]
  | some i =>
   simp only [sliceBounds,HT.sIx,Option.getD_none,show (1:Int) > 0 by decide,if_true]
   by_cases h:i < 0
   ·simp only [h,if_true] <;> lia
   ·simp only [h,if_false] <;> lia
 ·cases hi with
  | none=>simp [sliceBounds,HT.sIx]
  | some i =>
   simp only [sliceBounds,HT.sIx,Option.getD_none,show (1:Int) > 0 by decide,if_true]
   by_cases h:i < 0
   ·simp only [h,if_true] <;> lia
   ·simp only [h,if_false] <;> lia
theorem a7s (its:List Value) (lo hi:Option Int):slicePick its.toArray lo hi none=((its.drop (HT.sIx its.length 0 lo)).take (HT.sIx its.length its.length hi - HT.sIx its.length 0 lo)).toArray:=by
 obtain ⟨h1,h2,h3⟩:=a9a lo hi its.toArray.size
 unfold slicePick
 rw [h1,h2,h3]
 simp only [sliceRange_one,pick_run,List.size_toArray] <;> rfl
def rSlL (K:Γd):V→Option Int→Option Int→Hp→VK→Prop:=fun x lo hi H Q=>∃ a xs,x=.ref a∧SqL K H a xs∧∀ p,H p=none→Q (.ref p) (upd H p (.lst (c3u xs lo hi)))
theorem c4n:SlR X (rSlL X.K):=by
 intro pins s σ H x v vl vu lo hi sl Q I rx hs pl pu h
 obtain ⟨a,xs,rfl,hx,q⟩:=h
 cases rx
 obtain ⟨its,r,ht,hz⟩:=I.list hx
 have hlen:=r.length
 refine ⟨"list",_,slot_list_getitem.lookup,ht.isList.typeIs,?_⟩
 refine wpAny_getItem_list_slice ht.isList hs pl pu .none (by simp) ?_ (by rw [List.size_toArray] <;> lia)
 rw [a7s,← hlen]
 refine ⟨.ref s.heap.objs.size,_,I.laid (t':=s.toks) (o:=.lst (c3u xs lo hi)) (fun b ob q=>Γc _ q) (Nat.le_refl _) ?_,rfl,q _ (I.hok.fresh (Nat.le_refl _))⟩
 exact ⟨Nat.le_trans (a5z xs lo hi) hz,_,0,(r.drop (HT.sIx xs.length 0 lo)).take (HT.sIx xs.length xs.length hi - HT.sIx xs.length 0 lo),Heap.get?_push_size _ rfl⟩
theorem b0f:a1l X (.builtin "len") (fun xs H Q=>∃ p ys,xs=[.ref p]∧(SqL X.K H p ys ∨ SqT X.K H p ys)∧Q (.int ys.length) H):=by
 intro pins s σ H xs us Q I r h
 obtain ⟨p,ys,rfl,hq,q⟩:=h
 obtain ⟨u,rfl,rx⟩:=a2w r
 cases rx
 have hn:=a9p
 rcases hq with hq | hq
 ·obtain ⟨its,r',pl,hz⟩:=I.list hq
  have hlen:=r'.length
  exact Calls.call_len_list pl.isList (by simp only [List.size_toArray] <;> lia) ⟨.int ys.length,H,I.tok _,⟨s.toks + 1,by rw [List.size_toArray,hlen]⟩,q⟩
 ·obtain ⟨its,r',pl,hz⟩:=I.tuple hq
  have hlen:=r'.length
  exact len_tuple pl (by simp only [List.size_toArray] <;> lia) ⟨.int ys.length,H,I.tok _,⟨s.toks + 1,by rw [List.size_toArray,hlen]⟩,q⟩
theorem b0e:a1l X (.type "list") (fun xs H Q=>∃ p ys,xs=[.ref p]∧(SqL X.K H p ys ∨ SqT X.K H p ys)∧∀ l,H l=none→Q (.ref l) (upd H l (.lst ys))):=by
 intro pins s σ H xs us Q I r h
 obtain ⟨p,ys,rfl,hq,q⟩:=h
 obtain ⟨u,rfl,rx⟩:=a2w r
 cases rx
 have fin:∀ (its:List Value),Vals ys its→ys.length≤sizeLine→∀ (h':Heap) (c':Nat),(∀ b o',s.heap.get? b=some o'→h'.get? b=some o') →
   h'.get? s.heap.objs.size=some { cls:=.type "list",dict:=none,data:=.seq its.toArray c',slots:=#[] }→EP X pins σ Q (.ref s.heap.objs.size) { s with heap:=h' }:=fun its r' hz h' c' kp e =>
  ⟨.ref s.heap.objs.size,_,I.laid (t':=s.toks) kp (Nat.le_refl _) (show ObjOk X.prog X.w _ h' _ (.lst ys) from ⟨hz,its,c',r',e⟩),rfl,q _ (I.hok.fresh (Nat.le_refl _))⟩
 rcases hq with hq | hq
 ·obtain ⟨its,r',pl,hz⟩:=I.list hq
  have hlen:=r'.length
  obtain ⟨o,ho,hc,n,hd⟩:=pl.isList
  exact call_list_seq p (.inl rfl) ho hc hd (fun h' c' kp e=>fin its r' hz h' c' kp e) (by simp only [List.size_toArray] <;> lia)
 ·obtain ⟨its,r',pl,hz⟩:=I.tuple hq
  have hlen:=r'.length
  obtain ⟨o,ho,hc,n,hd⟩:=pl
  exact call_list_seq p (.inr rfl) ho hc hd (fun h' c' kp e=>fin its r' hz h' c' kp e) (by simp only [List.size_toArray] <;> lia)
theorem a2t:a1l X (.type "tuple") (fun xs H Q=>∃ p ys,xs=[.ref p]∧((SqL X.K H p ys∧∀ l,H l=none→Q (.ref l) (upd H l (.tup ys))) ∨ (SqT X.K H p ys∧Q (.ref p) H))):=by
 intro pins s σ H xs us Q I r h
 obtain ⟨p,ys,rfl,h⟩:=h
 obtain ⟨u,rfl,rx⟩:=a2w r
 cases rx
 rcases h with ⟨hq,q⟩ | ⟨hq,q⟩
 ·obtain ⟨its,r',pl,hz⟩:=I.list hq
  have hlen:=r'.length
  refine call_tuple_list pl.isList (fun h' kp=>?_) (by simp only [List.size_toArray] <;> lia)
  have I1:Inv X pins σ H { s with heap:=h' }:=I.kept (t':=s.toks) kp
  have I2:Inv X pins σ (upd H h'.objs.size (.tup ys)) { s with heap:=h'.push { cls:=.type "tuple",data:=.seq its.toArray } } :=
   I1.laid (t':=s.toks) (fun b o e=>Γc _ e) (Nat.le_refl _) (show ObjOk X.prog X.w _ _ _ (.tup ys) from ⟨hz,its,r',IsTup.new _ _⟩)
  exact ⟨.ref h'.objs.size,_,I2,rfl,q _ (I1.hok.fresh (Nat.le_refl _))⟩
 ·obtain ⟨its,r',pl,hz⟩:=I.tuple hq
  exact call_tuple_same pl ⟨.ref p,H,I,rfl,q⟩
def tyV (K:Γd) (T:String) (x:V) (H:Hp):Prop:=match x with
 | .str _=>T = "str"
 | .int _=>T = "int"
 | .ref p=>(T = "list"∧∃ xs,SqL K H p xs) ∨ (T = "tuple"∧∃ o,K.lookup p=some o∧o.cls=.type "tuple"∧o.dict=none) ∨
   (T = "dict"∧((∃ kvs,H p=some (.dK kvs)) ∨ ∃ kvs,H p=some (.dT kvs))) ∨ (T = "set"∧∃ S n,H p=some (.set S n))
 | _=>False
theorem c8c {pins:List (Addr×Obj)} {σ:St} {H:Hp} {s:Shared} {T:String} {x:V} {v:Value} (I:Inv X pins σ H s) (r:RelV x v) (ty:tyV X.K T x H) :
  s.TypeIs v T∧∀ a,v=.ref a→∃ ob,s.heap.get? a=some ob∧ob.dict=none:=by
 cases x with
 | str z =>
  obtain ⟨t,rfl⟩:=r
  cases (show T = "str" from ty)
  exact ⟨typeIs_str s z t,fun _ e=>nomatch e⟩
 | int i =>
  obtain ⟨t,rfl⟩:=r
  cases (show T = "int" from ty)
  exact ⟨typeIs_int s i t,fun _ e=>nomatch e⟩
 | ref p =>
  cases r
  rcases ty with ⟨rfl,xs,hq⟩ | ⟨rfl,o,hk,hc,hd⟩ | ⟨rfl,hk⟩ | ⟨rfl,S,n,hk⟩
  ·obtain ⟨its,_,pl,_⟩:=I.list hq
   refine ⟨pl.isList.typeIs,fun a e=>?_⟩
   cases e
   obtain ⟨o,n,e,c,hd,_⟩:=pl
   exact ⟨o,e,hd⟩
  ·refine ⟨⟨o,I.kIn p o hk,hc⟩,fun a e=>?_⟩
   cases e
   exact ⟨o,I.kIn _ o hk,hd⟩
  ·have z:∃ o,s.heap.get? p=some o∧o.ExactDict:=by
    rcases hk with ⟨kvs,hk⟩ | ⟨kvs,hk⟩
    ·obtain ⟨_,_,_,_,o,_,_,e,ex,_⟩:=I.hok p _ hk
     exact ⟨o,e,ex⟩
    ·obtain ⟨_,_,_,_,o,_,_,e,ex,_⟩:=I.hok p _ hk
     exact ⟨o,e,ex⟩
   obtain ⟨o,e,ex⟩:=z
   refine ⟨⟨o,e,ex.1⟩,fun a e2=>?_⟩
   cases e2
   exact ⟨o,e,ex.2.1⟩
  ·obtain ⟨o,_,_,_,e,ex,_⟩:=I.hok p _ hk
   refine ⟨⟨o,e,ex.1⟩,fun a e2=>?_⟩
   cases e2
   exact ⟨o,e,ex.2.1⟩
 | _=>exact False.elim ty
def tBM (K:Γd) (T:String) (r:V→List V→Hp→VK→Prop) (to:TE) (t:TA):TE:=fun σ H Q=>to σ H fun x H1=>tyV K T x H1∧t σ H1 fun xs H2=>r x xs H2 Q
variable {o e:Expr} {es:List Expr} {to:TE} {t:TA} {name:Str} {apos cpos:Pos} {T id:String} {r:V→List V→Hp→VK→Prop}
theorem d5v (pa:PlainAttrs T) (slot:Slot T name id) (hty:typeOf (.builtin id)=pure (.type "method_descriptor")) (hm:MtR X id r) (ho:PE X o to) (ha:PA X (e :: es) t)
  (hbase:attributeBase o name X.env (eval o X.env)=eval o X.env:=by rfl)
  (hfew:((backTo cpos (starEach (e :: es) X.env)).all (fun x=>!x.1) && (backToKw cpos (keywordEach [] X.env)).all (fun x=>x.1.isSome)
   && decide ((e :: es).length + ([]:List Keyword).length + (if ([]:List Keyword).isEmpty then 0 else 1) < 30))=true:=by rfl)
  (hline:(apos.endLine == cpos.line)=true:=by rfl) (hs:starEach (e :: es) X.env=(false,eval e X.env) :: starEach es X.env:=by rfl) (hplain:(backTo cpos (starEach es X.env)).any (·.1)=false:=by rfl) :
  PE X (.Call (.Attribute o name apos) (e :: es) [] cpos) (tBM X.K T r to t):=by
 intro pins s σ H Q I h
 refine wpAny_Call_method_late hbase hfew hline rfl (thn (ho pins s σ H _ I h) fun v s1 ⟨x,H1,I1,r1,ty,q1⟩=>?_)
 obtain ⟨h1,h2⟩:=c8c I1 r1 ty
 refine ⟨T,id,pa,slot,hty,h1,h2,?_⟩
 have hA:=ha cpos pins s1 σ H1 _ I1 q1
 rw [hs] at hA ⊢
 refine Calls.callWith_builtin (by show (false || (backTo cpos (starEach es X.env)).any (·.1))=false; rw [hplain] <;> rfl) (Calls.evalArgs_plain ?_)
 exact thn hA fun us s2 ⟨vs,H2,I2,r2,q2⟩=>hm pins s2 σ H2 x vs v us Q I2 r1 r2 q2
/- xs.append(e),list.index on a module's tuple .. are MtR facts of 06m -/
end
end L2
namespace L2
open PySem PySem.Spec PyProof.Rows
def MtM (X:Cx) (id:String) (r:V→List V→Hp→VK→Prop):Prop :=
 ∀ (pins:List (Addr×Obj)) (s:Shared) (σ:St) (H:Hp) (x:V) (xs:List V) (v:Value) (us:List Value) (Q:VK),Inv X pins σ H s→RelV x v→Vals xs us→r x xs H Q →
  wpAny (model X.prog X.w) X.A (call (.builtin id) (v :: us)) (EP X pins σ Q) X.xe s
theorem Vals.one:∀ {x:V} {us:List Value},Vals [x] us→∃ u,us=[u]∧RelV x u
 | _,_,.cons r .nil=>⟨_,rfl,r⟩
theorem Vals.dropLast {xs:List V} {us:List Value} (h:Vals xs us):Vals xs.dropLast us.dropLast:=by
 induction h with
 | nil=>exact .nil
 | cons r t ih =>
  cases t with
  | nil=>exact .nil
  | cons q t'=>exact .cons r ih
theorem Vals.eraseIdx:∀ {xs:List V} {us:List Value} (i:Nat),Vals xs us→Vals (xs.eraseIdx i) (us.eraseIdx i)
 | _,_,_,.nil=>.nil
 | _,_,0,.cons _ t=>t
 | _,_,i + 1,.cons r t=>.cons r (Vals.eraseIdx i t)
theorem Vals.reverse {xs:List V} {us:List Value} (h:Vals xs us):Vals xs.reverse us.reverse:=by
 induction h with
 | nil=>exact .nil
 | cons r t ih=>rw [List.reverse_cons,List.reverse_cons]; exact Vals.append ih (.cons r .nil)
theorem Vals.rep {xs:List V} {us:List Value} (h:Vals xs us):∀ k:Nat,Vals (List.replicate k xs).flatten (List.replicate k us).flatten
 | 0=>.nil
 | k + 1=>by
  rw [List.replicate_succ,List.replicate_succ,List.flatten_cons,List.flatten_cons]
  exact Vals.append h (Vals.rep h k)
theorem a9v (its:List Value):∀ (k:Nat) (acc:List Value),
  List.foldl (fun x1 x2=>x1++x2) acc.toArray (List.replicate k its.toArray)=(acc++(List.replicate k its).flatten).toArray
 | 0,acc=>by simp
 | k + 1,acc=>by
  have e:acc.toArray++its.toArray=(acc++its).toArray:=by simp
  have e2:(acc++its)++(List.replicate k its).flatten=acc++(List.replicate (k + 1) its).flatten:=by
   rw [List.replicate_succ,List.flatten_cons,List.append_assoc]
  rw [← e2,← a9v its k (acc++its),← e,List.replicate_succ,List.foldl_cons]
section
variable {X:Cx} {pins:List (Addr×Obj)} {σ:St} {H:Hp} {s:Shared} {l b:Addr} {xs ys zs:List V}
theorem Inv.lset {its its':List Value} {n:Nat} {f:Array Value→Array Value} {t':Nat} (I:Inv X pins σ H s) (hH:H l=some (.lst xs))
  (e:s.heap.get? l=some { cls:=.type "list",data:=.seq its.toArray n }) (hf:f its.toArray=its'.toArray) (hv:Vals ys its') (hz:ys.length≤sizeLine) :
  Inv X pins σ (upd H l (.lst ys)) { s with heap:=s.heap.update l (Obj.mapSeq f),toks:=t' }:=by
 have q:=PySem.IsL.update e f
 rw [hf] at q
 refine I.write (x:=l) (e:=l) (by rw [hH]; exact trivial) (.inl rfl) (fun b' u hb hu=>(Γf s.heap (Obj.mapSeq f) (Ne.symm hb)).trans hu) ⟨_,q⟩ ?_
 exact ⟨hz,its',_,hv,q⟩
theorem Inv.lnew {its:List Value} {t':Nat} (I:Inv X pins σ H s) (hv:Vals ys its) (hz:ys.length≤sizeLine) :
  Inv X pins σ (upd H s.heap.objs.size (.lst ys)) { s with heap:=s.heap.push { cls:=.type "list",data:=.seq its.toArray },toks:=t' } :=
 I.laid (fun _ _ q=>Γc _ q) (Nat.le_refl _) ⟨hz,its,0,hv,Heap.get?_push_size _ rfl⟩
theorem Inv.fresh (I:Inv X pins σ H s):H s.heap.objs.size=none:=I.hok.fresh (Nat.le_refl _)
theorem Inv.lstM (I:Inv X pins σ H s) (hH:H l=some (.lst xs)):xs.length≤sizeLine∧∃ (its:List Value) (n:Nat),Vals xs its∧xs.length=its.length∧s.heap.get? l=some { cls:=.type "list",data:=.seq its.toArray n }:=by
 obtain ⟨z,its,n,r,e⟩:=I.hok l _ hH
 exact ⟨z,its,n,r,r.length,e⟩
theorem c1a {n:Nat} (h:n≤sizeLine):Builtin.List.listTooLong n=false:=by
 unfold Builtin.List.listTooLong
 exact decide_eq_false (by lia)
end
section
variable {X:Cx}
def c4t:V→List V→Hp→VK→Prop:=fun x vs H Q=>∃ l xs y,x=.ref l∧vs=[y]∧H l=some (.lst xs)∧xs.length < sizeLine∧Q .non (upd H l (.lst (xs++[y])))
theorem a9l:MtM X "list.append" c4t:=by
 intro pins s σ H x vs v us Q I rx rv h
 obtain ⟨l,xs,y,rfl,rfl,hH,hz,q⟩:=h
 cases rx
 obtain ⟨u,rfl,ru⟩:=rv.one
 obtain ⟨z,its,n,r,hl,e⟩:=I.lstM hH
 refine call_meets F.slot_list_append ⟨_,e,rfl⟩ F.entry_list_append (F.args_list_append_2 _ _) (PySem.list_append l its.toArray n u (by rw [List.size_toArray]; lia)) ⟨e,?_⟩
 refine ⟨.non,_,I.lset (its':=its++[u]) hH e (by simp) (r.append (.cons ru .nil)) ?_,rfl,q⟩
 rw [List.length_append,List.length_singleton]
 lia
def rCat:R2:=fun x y H Q=>∃ l b xs zs,x=.ref l∧y=.ref b∧H l=some (.lst xs)∧H b=some (.lst zs)∧xs.length + zs.length≤sizeLine∧∀ p,H p=none→Q (.ref p) (upd H p (.lst (xs++zs)))
theorem d0c:OpR X (binaryOp .Add) rCat:=by
 intro pins s σ H x y v u Q I rx ry h
 obtain ⟨l,b,xs,zs,rfl,rfl,hH,hB,hz,q⟩:=h
 cases rx
 cases ry
 obtain ⟨z,its,n,r,hl,e⟩:=I.lstM hH
 obtain ⟨z2,its2,n2,r2,hl2,e2⟩:=I.lstM hB
 refine PySem.P.add_list e e2 ?_ (by rw [List.size_toArray,List.size_toArray]; lia)
 have ea:its.toArray++its2.toArray=(its++its2).toArray:=by simp
 rw [ea]
 exact ⟨.ref _,_,I.lnew (t':=s.toks) (r.append r2) (by rw [List.length_append]; lia),rfl,q _ I.fresh⟩
def rRep:R2:=fun x y H Q=>∃ l k xs,x=.ref l∧y=.int k∧H l=some (.lst xs)∧-(2 ^ 63)≤k∧k < 2 ^ 63∧xs.length * k.toNat≤sizeLine ∧
 ∀ p,H p=none→Q (.ref p) (upd H p (.lst (List.replicate k.toNat xs).flatten))
theorem c6a {α:Type} (xs:List α) (k:Nat):(List.replicate k xs).flatten.length=k * xs.length:=by
 induction k with
 | zero=>simp
 | succ k ih=>rw [List.replicate_succ,List.flatten_cons,List.length_append,ih,Nat.succ_mul,Nat.add_comm]
theorem c9w:OpR X (binaryOp .Mult) rRep:=by
 intro pins s σ H x y v u Q I rx ry h
 obtain ⟨l,k,xs,rfl,rfl,hH,h1,h2,hz,q⟩:=h
 cases rx
 obtain ⟨t,rfl⟩:=ry
 obtain ⟨z,its,n,r,hl,e⟩:=I.lstM hH
 have hlen:its.toArray.size * k.toNat≤sizeLine:=by rw [List.size_toArray,← hl]; exact hz
 have hcap:¬ its.toArray.size * k.toNat > (2 ^ 63 - 1) / 8:=by
  have:(sizeLine:Nat)≤(2 ^ 63 - 1) / 8:=by decide
  lia
 have hfit:¬ (!Builtin.List.listFitsIndex k)=true:=by
  rw [fitsIndex_both h1 h2]
  exact Bool.false_ne_true
 have hlong:¬ Builtin.List.listTooLong (its.toArray.size * k.toNat)=true:=by
  rw [c1a hlen]
  exact Bool.false_ne_true
 have hnew:List.foldl (fun x1 x2=>x1++x2) #[] (List.replicate (if its.toArray.isEmpty=true then 0 else k.toNat) its.toArray)=(List.replicate k.toNat its).flatten.toArray:=by
  have f0:∀ m:Nat,List.foldl (fun x1 x2=>x1++x2) #[] (List.replicate m its.toArray)=(List.replicate m its).flatten.toArray:=fun m=>by
   have:=a9v its m []
   rw [List.nil_append] at this
   exact this
  rw [f0]
  cases its with
  | nil=>simp
  | cons a r'=>rw [if_neg (by simp)]
 refine wpAny_binaryOp_repeat_ref (T:="list") (U:="int") (by decide) ⟨_,e,rfl⟩ (fun s'=>typeIs_int s' k t) noFill_list_mul F.fills_int_mul F.slot_int_rmul repeat_list F.slot_int_index.lookup
  (call_meets F.slot_int_rmul (typeIs_int s k t) F.entry_int_rmul (F.args_int_rmul_2 _ _) (int___rmul___int_list k t l its.toArray n)
   ⟨e,rfl,⟨_,e,rfl⟩,call_meets F.slot_list_mul ⟨_,e,rfl⟩ F.entry_list_mul (F.args_list_mul_2 _ _) (AutoListH.list___mul___list_int_3 l its.toArray n k t hfit hcap hlong) ⟨e,?_⟩⟩)
 rw [hnew]
 exact ⟨.ref _,_,I.lnew (t':=s.toks) (r.rep k.toNat) (by rw [c6a,Nat.mul_comm]; exact hz),rfl,q _ I.fresh⟩
end
section
variable {prog:Program} {w:World} {A:Around} {E:Value→Shared→Prop} {s:Shared}
set_option maxRecDepth 100000 in
end
section
variable {X:Cx}
end
end L2
namespace Att
open PySem PySem.W PySem.Calls PyProof.Rows
theorem a5u {P:Params} {h:Heap}:∀ (ns:List Int) (vs:List Value),WellAll P h vs (ns.map WData.int)→IntsAre vs ns:=by
 intro ns
 induction ns with
 | nil =>
  intro vs w
  rw [List.map_nil] at w
  cases w
  exact .nil
 | cons n ns ih =>
  intro vs w
  rw [List.map_cons] at w
  cases w with
  | cons a b =>
   cases a
   exact .cons _ _ (ih _ b)
theorem b6d {l:OpenLaw} {n:Nat} (hn:l.most=some n) {P:Params} {h:Heap} {args:List WData} {vals:List Value}
  (hpre:l.row.toRowW.claim.pre args=true) (hwl:WellAll P h vals args) :
  ∃ a vs ns,vals=[Value.ref a]∧args=[WData.list (ns.map WData.int)]∧h.get? a=some { cls:=.type "list",data:=.seq vs.toArray }∧IntsAre vs ns∧ns.length≤n:=by
 have hsh:WShape.hasAll [] args [.list .int]=true:=(pre_splitW hpre).1
 have hc:l.pre.holds [] { args:=args } = true:=(pre_splitW hpre).2
 obtain ⟨d,r,rfl,h1,h2⟩:=hasAllW_cons hsh
 obtain rfl:=hasAllW_nil h2
 obtain ⟨xs,rfl,h3⟩:=hasW_list h1
 obtain ⟨ns,rfl⟩:=items_int h3
 have hlen:ns.length≤n:=by
  unfold OpenLaw.pre at hc
  have h4:(WTm.not (.lt (.lit (.int (n:Int))) (.len (.arg 0)))).holds [] { args:=[.list (ns.map .int)] } = true:=by
   have h4:=(holds_andW hc).1
   rw [hn] at h4
   exact h4
  have h5:=condW_of h4 (w_not (w_lt w_lit (w_len_list (w_arg rfl))))
  rw [List.length_map] at h5
  refine Nat.le_of_not_lt fun q=>?_
  have q':(n:Int) < ((ns.length:Nat):Int):=by lia
  first
   | (rw [decide_eq_true q'] at h5; exact absurd h5 (by decide))
   | (simp at h5; lia)
 cases hwl with
 | cons w1 w2 =>
  cases w2
  cases w1 with
  | list ho hall=>exact ⟨_,_,ns,rfl,rfl,ho,a5u ns _ hall,hlen⟩
theorem b6q (l:OpenLaw) (args:List WData):l.row.toRowW.claim.post args (.bool true) args=true :=
 postW_of (r:=l.row.toRowW) (X:=(true == true))
  (show WShape.has [] (.bool true) .bool=true by first | rfl | decide | simp [WShape.has,WShape.arms,WShape.armsAll])
  (show (WTm.eq .res (.lit (.bool true))).value [] { args:=args,res:=some (.bool true),after:=args } = some (.bool (true == true)) from w_eq_bool (w_res rfl) w_lit) rfl
theorem attach_call {l:OpenLaw} {n:Nat} {q:Program} {loose:List Str} {XP:(Str→Option Value)→Heap→Prop} {YP:World→Heap→Prop} {d:DefRec}
  (hn:l.most=some n) (hdf:d.params.defaults=[])
  (call:∀ (w:World) (s₀ s₁:Shared) (mg mb:Str→Option Value) (fa:Addr) (o:Obj) (pm cd doc:Value) (a:Addr) (vs:List Value) (ns:List Int),
   Ground q loose [] XP w s₀ mg mb s₁.heap→YP w s₁.heap →
   s₁.heap.get? fa=some o→o.data=.func (docDef d.name d.params d.body d.scope pm cd doc)→s₁.heap.CodeRec cd d.name→mg d.name=some (.ref fa) →
   s₁.heap.get? a=some { cls:=.type "list",data:=.seq vs.toArray }→IntsAre vs ns→ns.length≤n→s₁.gens = #[] →
   codeAny (model l.prog w) callerA (.call (.ref fa) ⟨[.ref a],[]⟩) (fun r s'=>r=.ok (.ret (.bool true))∧OldK s₁.heap s'.heap∧s'.os=s₁.os∧AllBare s'.gens) s₁) :
  WalkO q loose XP YP l.row.toRowW d [] (fun f vs=>PySem.call f vs):=by
 intro w s₀ s₁ mg mb G Y fa o pm cd doc dV kV ho hd hcd hD hmg hg args vals as hpre hlay hrd hwl hlo
 obtain rfl:dV=.none:=Dflts.none hD hdf
 obtain rfl:kV=.none:=Dflts.noKw hD
 obtain ⟨a,vs,ns,rfl,rfl,hobj,hints,hlen⟩:=b6d hn hpre hwl
 refine enter_call (codeAny_mono (call w s₀ s₁ mg mb fa o pm cd doc a vs ns G Y ho (fd_plain hd) hcd hmg hobj hints hlen hg) fun r s' hq=>?_)
 obtain ⟨rfl,h2,h3,h4⟩:=hq
 exact ⟨.inl ⟨.bool true,.bool true,[],rfl,fun _=>rfl,.bool true,b6q l _,fun _=>⟨List.Pairwise.nil,fun _ hm=>(nomatch hm)⟩⟩,h2,h3,h4⟩
section
variable {prog:Program} {w:World} {A:Around} {E:Value→Shared→Prop} {s:Shared} {K:Frag}
theorem d9i {R:Result→Shared→Prop} {name qual:Str} {params:Arguments} {body:List Stmt} {scope:Scope} {dV kV doc pm cdv ct oc:Value} {an od:Option Addr} {osl:Array (Option Value)} {f:Addr} {args:Args} {binds:List (Str×Value)}
  (X:K.In s.heap) (hlim:s.heap.NoLimit) (ho:K.lookup f=some ⟨oc,od,.func (fnOf name qual params body scope dV kV doc pm an cdv ct),osl⟩) (hcd:codeIn K cdv qual=true) (hroom:A.depth < recursionLimit)
  (hbind:BindsTo s (fnOf name qual params body scope dV kV doc pm an cdv ct) args binds)
  (hkind:(binds.all fun y=>scope.names.lookup y.1 == some .local || scope.names.lookup y.1 == some .cell)=true)
  (h:∀ s₁,InCallC s s.heap.objs.size (bindL (envOfC qual scope s.heap.objs.size f cdv).kindOf binds fun _=>none) (cellsFrom (s.heap.objs.size + 1) scope.names [])
    (bindC (envOfC qual scope s.heap.objs.size f cdv).kindOf binds fun _=>none) s₁ →
   wpAny (model prog w) (A.deeper (envOfC qual scope s.heap.objs.size f cdv)) (execs body (envOfC qual scope s.heap.objs.size f cdv))
    (fun fl s'=>R (.ok (.ret (match fl with | .ret v=>v | _=>.none))) s')
    (fun e s'=>wpAny (model prog w) (A.deeper (envOfC qual scope s.heap.objs.size f cdv)) (leaving (envOfC qual scope s.heap.objs.size f cdv) e) (fun _ s''=>R (.error e) s'') (fun e' s''=>R (.error e') s'') s') s₁)
  (hco:scope.isCoroutine=false) (hgen:scope.isGenerator=false) (hk:scope.kind=.function):codeAny (model prog w) A (.call (.ref f) args) R s:=by
 refine codeAny_call_function hroom (X _ _ ho) rfl hco hgen rfl (codeRec_of X hcd) (hbind _ _ _ _ ?_)
 refine wpAny_newFunctionEnv_cells hk (kindsX hkind _) fun env he s₁ x=>?_
 subst he
 exact ⟨hlim.keeps x.toInCall.keep,codeAny_func (h s₁ x)⟩
def ledger (h:Heap) (L d:Addr):List (Addr×Obj):=(List.range h.objs.size).filterMap fun a=>if a=L ∨ a=d then none else (h.get? a).map fun o=>(a,o)
end
end Att
namespace L2
open PySem PySem.Spec PyProof.Rows
theorem a8v:∀ {vs:List Value} {ns:List Int},IntsAre vs ns→Vals (ns.map V.int) vs
 | _,_,.nil=>.nil
 | _,_,.cons n t h=>.cons ⟨t,rfl⟩ (a8v h)
def d2f (H:Hp):Prop:=∀ b,H b=none ∨ ∃ o xs,H b=some (.frz o (.lst xs))
theorem b3b {P:Program} {w:World} {K:Γd} {mg mb:Str→Option Value} {CX:CXT} {k:Nat} {fa a:Addr} {fd:FuncData} {x:Str} {sp:Sp} {s₁:Shared} {vs:List Value} {ns:List Int}
  (KX:K.In s₁.heap) (hns:s₁.heap.Ns mainGlobals mg) (hb:s₁.heap.Ns builtinsNs mb) (hbb:∀ x:Str,x≠"__name__"→mb x=bootBuiltins x) (hlim:s₁.heap.NoLimit) (hg:s₁.gens = #[])
  (ha:s₁.heap.get? a=some { cls:=.type "list",data:=.seq vs.toArray }) (hi:IntsAre vs ns) (hl:ns.length≤sizeLine) (hr:Room k callerA)
  (F:∀ base:Heap,K.In base→base.Ns mainGlobals mg→FnOk P w K mg base CX k fa fd [x] sp) (hbind:∀ (s:Shared) (u:Value),BindsTo s fd ⟨[u],[]⟩ [(x,u)])
  (hsp:∀ H:Hp,d2f H→SqL K H a (ns.map V.int)→sp [.ref a] H (fun v _=>v=.bl true) fun _ _ _=>False)
  (hCX:∀ H e s',CX [] H s₁ (fun _ _ _=>False) e s'→False) :
  codeAny (model P w) callerA (.call (.ref fa) ⟨[.ref a],[]⟩) (fun r s'=>r=.ok (.ret (.bool true))∧OldK s₁.heap s'.heap∧s'.os=s₁.os∧AllBare s'.gens) s₁:=by
 have rv:=a8v hi
 have lenV:=hi.length
 -- from an abstract heap in which nothing but the script may be tracked
 have core:∀ H:Hp,d2f H→SqL K H a (ns.map V.int)→HOk P w H s₁.heap→(∀ b,H b≠none→b=a)→(H a≠none→K.lookup a=none) →
   codeAny (model P w) callerA (.call (.ref fa) ⟨[.ref a],[]⟩) (fun r s'=>r=.ok (.ret (.bool true))∧OldK s₁.heap s'.heap∧s'.os=s₁.os∧AllBare s'.gens) s₁:=by
  intro H hO hS hok hA hK
  have base_of:∀ {b:Addr} {o:Obj},s₁.heap.get? b=some o→H b=none→(c1p s₁.heap H).get? b=some o:=fun e n=>c1o e n
  have noA:∀ {b:Addr} {o:Obj} {es:Array DictEntry} {ep:Nat},s₁.heap.get? b=some o→o.data=.dict es ep→H b=none:=fun {b o es ep} e d=>by
   cases q:H b with
   | none=>rfl
   | some u =>
    have e':b=a:=hA b (by rw [q]; simp)
    subst e'
    rw [ha] at e; cases e
    have d':Data.seq vs.toArray _=Data.dict es ep:=d
    cases d'
  have nsK:∀ {b:Addr} {m:Str→Option Value},s₁.heap.Ns b m→(c1p s₁.heap H).Ns b m:=fun {b m} ⟨o,es,ep,e,d,r⟩=>⟨o,es,ep,base_of e (noA e d),d,r⟩
  have hKb:K.In (c1p s₁.heap H):=fun b o e=>base_of (KX b o e) (by
   cases q:H b with
   | none=>rfl
   | some u =>
    have e':b=a:=hA b (by rw [q]; simp)
    subst e'
    rw [hK (by rw [q]; simp)] at e; cases e)
  have hM:Mod K mg (c1p s₁.heap H):=⟨hKb,nsK hns,⟨mb,nsK hb,hbb⟩,let ⟨mc,h1,h2⟩:=hlim; ⟨mc,nsK h1,h2⟩⟩
  have e0:Env0 P w K mg (c1p s₁.heap H) callerA [] s₁ H:=⟨rfl,hM,fun b o e=>c5u e,Nat.le_of_eq (b7x _ _),trivial,fun b hb=>absurd (show b∈([]:List Addr) from hb) (by simp),hok,.of_eq hg⟩
  refine codeAny_mono ((F _ hKb (nsK hns)).run callerA [] s₁ H ⟨[.ref a],[]⟩ [.ref a] [.ref a] _ _ hr e0 (hbind s₁ (.ref a)) (.cons rfl .nil) (hsp H hO hS)) fun r s' h=>?_
  cases r with
  | error e=>exact (hCX H e s' h).elim
  | ok fl =>
   cases fl with
   | next=>exact False.elim h
   | brk=>exact False.elim h
   | cont=>exact False.elim h
   | ret u =>
    obtain ⟨v,H',os,bare,un,hok',r',q⟩:=h
    have q':v=.bl true:=q
    subst q'
    obtain rfl:u=Value.bool true:=r'
    refine ⟨rfl,OldK.of_keep fun b o e=>?_,os,bare⟩
    cases q:H b with
    | none=>exact un.keep b o e q (by intro z; exact absurd (show b∈([]:List Addr) from z) (by simp)) (by simp)
    | some u =>
     rcases hO b with z | ⟨ob,xs,z⟩
     ·rw [q] at z; cases z
     ·have z2:=un.frzs b ob _ z
      obtain ⟨e1,_⟩:=hok b _ z
      obtain ⟨e2,_⟩:=hok' b _ z2
      rw [e] at e1; cases e1
      exact e2
 cases hk:K.lookup a with
 | some o =>
  -- the script is one of the module's own objects
  have e:=KX a o hk
  rw [ha] at e
  cases e
  refine core (fun _=>none) (fun _=>.inl rfl) (.inr ⟨_,vs.toArray,_,hk,rfl,rfl,rfl,by rw [List.size_toArray,lenV]; exact hl,by simpa using rv⟩) (fun b u z=>by have z':(none:Option HO)=some u:=z; cases z') (fun b z=>absurd rfl z) fun z=>absurd rfl z
 | none =>
  refine core (fun b=>if b=a then some (.frz { cls:=.type "list",data:=.seq vs.toArray } (.lst (ns.map V.int))) else none) (fun b=>?_) (.inl (.inr ⟨{ cls:=.type "list",data:=.seq vs.toArray },if_pos rfl⟩)) (fun b u z=>?_) (fun b z=>?_) fun _=>hk
  ·by_cases hb:b=a
   ·exact .inr ⟨_,_,if_pos hb⟩
   ·exact .inl (if_neg hb)
  ·by_cases hb:b=a
   ·have z':=(if_pos hb).symm.trans z
    cases z'
    subst hb
    exact ⟨ha,by rw [List.length_map]; exact hl,vs,_,rv,ha⟩
   ·have z':=(if_neg hb).symm.trans z
    cases z'
  ·by_cases hb:b=a
   ·exact hb
   ·exact absurd (if_neg hb) z
end L2
namespace L2
open PySem PySem.Spec PyProof.Rows
abbrev KOf {K:Γd} {h:Heap} (_:K.In h):Γd:=K
theorem walk_of {l:PySem.W.OpenLaw} {n k:Nat} {q:Program} {loose:List Str} {XP:(Str→Option Value)→Heap→Prop} {YP:World→Heap→Prop} {d:DefRec} {K:Params→Γd} {CX:World→CXT} {sp:World→Sp} {x:Str}
  (hn:l.most=some n) (hn2:n≤sizeLine) (hdf:d.params.defaults=[]) (hr:Room k callerA)
  (hY:∀ (w:World) (h:Heap),YP w h→(K w.params).In h)
  (F:∀ (w:World) (mg:Str→Option Value) (fa:Addr) (h:Heap),(K w.params).In h→h.Ns mainGlobals mg→mg d.name=some (.ref fa) →
   ∃ fd:FuncData,(∀ (s:Shared) (u:Value),BindsTo s fd ⟨[u],[]⟩ [(x,u)]) ∧
    ∀ base:Heap,(K w.params).In base→base.Ns mainGlobals mg→FnOk l.prog w (K w.params) mg base (CX w) k fa fd [x] (sp w))
  (hsp:∀ (w:World) (H:Hp) (a:Addr) (ns:List Int),ns.length≤n→d2f H→SqL (K w.params) H a (ns.map V.int)→sp w [.ref a] H (fun v _=>v=.bl true) fun _ _ _=>False)
  (hCX:∀ (w:World) (H:Hp) (s:Shared) (e:Value) (s':Shared),CX w [] H s (fun _ _ _=>False) e s'→False) :
  PySem.W.WalkO q loose XP YP l.row.toRowW d [] (fun f vs=>PySem.call f vs):=by
 refine Att.attach_call hn hdf fun w s₀ s₁ mg mb fa o pm cd doc a vs ns G Y ho hd hcd hmg hobj hints hlen hg=>?_
 have KX:=hY w _ Y
 obtain ⟨fd,hb,hF⟩:=F w mg fa _ KX G.T.g hmg
 exact b3b KX G.T.g G.T.b G.T.builtins G.T.nolimit hg hobj hints (Nat.le_trans hlen hn2) hr hF hb (fun H hO hS=>hsp w H a ns hlen hO hS) fun H e s'=>hCX w H s₁ e s'
end L2
/- THE LAST THEOREM (shape; LID, My.* are yours):
   My.Adr: a structure of the addresses that your layer names (classes, functions); My.Txt K t: a structure (Prop) of the equations over K;
   My.txt_mk : {K} {implicit addresses ..} (e1 : nsIn K mainGlobals "law" = some (some (.ref f))) (e2 : K.lookup f = some ⟨oc, od, .func (fnOf "law" "law" params body scope dV kV doc pm an cdv ct), sl⟩) (e3 : codeIn K cdv "law" = true) .. : ∃ t, My.Txt K t
set_option maxRecDepth 100000 in
set_option maxHeartbeats 0 in
theorem PySem.Challenge.cw_LID_holds:PySem.Challenge.rw_LID.Holds:=by
 w_on; o_law; k_head; (case hw=>w_witness2)
 k_fill
 refine L2.walk_of (l:=PySem.Challenge.rw_LID) (n:=63) (k:=40) (x:="script") (CX:=fun w=>..) (sp:=fun _=>My.sp_law) rfl (by decide) rfl ⟨rfl,by decide,by decide⟩ (fun w h Y=>PySem.W.kIn_of Y) ?F ?S ?C
 case F =>
  intro w mg fa h KX G hmg
  have T:∃ t,My.Txt (L2.KOf KX) t:=by
   dsimp only [L2.KOf]                          -- K must stand as «<heap const> w.params» for k_is
   refine' My.txt_mk ?e1 ?e2 ?e3 ..
   (case e1=>PySem.W.k_is)                    -- in the order: a name -> its address -> its object -> its parts
   (case e2=>PySem.W.k_is)
   ..
  obtain ⟨t,T⟩:=T
  have e0:=hmg.symm.trans (PySem.W.mg_of KX G T.law)
  cases e0                                       -- fa is the law's own address
  exact ⟨_,fun s u=>.of_eq rfl,fun base kb nb=>My.law_fn T kb nb⟩     -- if «.of_eq rfl» comes too early: refine' ⟨_,?b,fun base kb nb=>My.law_fn T kb nb⟩; exact fun s u=>.of_eq rfl
 case S=>exact fun w H a ns hl hO hS=>..
 case C=>exact ..
(the tactic k_is has no namespace: write k_is) -/
namespace L2
open PySem PySem.Spec PyProof.Rows
def a4t (s:Stmt):Arguments:=match s with
 | .FunctionDef _ a _ _ _ _ _ _ _ _=>a
 | _=>{ posonlyargs:=[],args:=[],vararg:=none,kwonlyargs:=[],kw_defaults:=[],kwarg:=none,defaults:=[] }
def a2f (s:Stmt):List Stmt:=match s with
 | .FunctionDef _ _ b _ _ _ _ _ _ _=>b
 | _=>[]
def a0r (s:Stmt):Scope:=match s with
 | .FunctionDef _ _ _ _ _ _ sc _ _ _=>sc
 | _=>{ kind:=.function,names:=[],isGenerator:=false,isCoroutine:=false }
abbrev CX0:CXT:=fun _ _ _ _ _ _=>False
abbrev E0:XK:=fun _ _ _=>False
theorem d5x {X:Cx}:b9m CX0 X E0:=fun _ _ _ _ _ _ _ h=>h.elim
structure Fun (K:Γd) (x qual:Str) (st:Stmt) (f:Addr) (fd:FuncData):Prop where
 ex:∃ (oc:Value) (od:Option Addr) (kV doc pm:Value) (an:Option Addr) (cdv ct:Value) (osl:Array (Option Value)),
  fd=PySem.W.fnOf x qual (a4t st) (a2f st) (a0r st) .none kV doc pm an cdv ct∧K.lookup f=some ⟨oc,od,.func fd,osl⟩∧PySem.W.codeIn K cdv qual=true
 kp:PySem.W.keepIn K (.ref f)=true
section
variable {P:Program} {w:World} {K:Γd} {mg:Str→Option Value} {base:Heap}
theorem Fun.ok {x qual:Str} {st:Stmt} {f:Addr} {fd:FuncData} {N ps:List Str} {k:Nat} {sp:Sp} (F:Fun K x qual st f fd) (S:FnScope N ps (a0r st)) (len:∀ vs H Q E,sp vs H Q E→vs.length=ps.length)
  (hbody:∀ (cdv:Value) (A:Around) (outer:List Env) (s:Shared) (H:Hp) (vs:List V) (Q:VK) (E:XK),Room k (A.deeper (envOfC qual (a0r st) s.heap.objs.size f cdv))→sp vs H Q E →
   ∃ t,PSs (c7d CX0 P w K mg base N qual (a0r st) f cdv A outer s H E).nox (a2f st) t∧t { nx:=fun _ H'=>Q .non H',rt:=Q } (start N vs) H):FnOk P w K mg base CX0 (k + 1) f fd ps sp:=by
 obtain ⟨oc,od,kV,doc,pm,an,cdv,ct,osl,rfl,lk,hcd⟩:=F.ex
 refine d7f lk hcd S len fun A outer s H vs Q E hr hsp=>?_
 obtain ⟨t,h,q⟩:=hbody cdv A outer s H vs Q E hr hsp
 exact ⟨t,h.nox,q⟩
theorem Fun.binds {x qual:Str} {st:Stmt} {f:Addr} {fd:FuncData} {ps:List Str} (F:Fun K x qual st f fd)
  (h:∀ (kV doc pm:Value) (an:Option Addr) (cdv ct:Value) (us:List Value),us.length=ps.length→bindArgs (PySem.W.fnOf x qual (a4t st) (a2f st) (a0r st) .none kV doc pm an cdv ct) ⟨us,[]⟩=pure (ps.zip us)):Binds K fd ps []:=by
 obtain ⟨oc,od,kV,doc,pm,an,cdv,ct,osl,rfl,lk,hcd⟩:=F.ex
 exact .all (h kV doc pm an cdv ct)
theorem d0u {x qual:Str} {st:Stmt} {f:Addr} {oc:Value} {od an:Option Addr} {osl:Array (Option Value)} {kV doc pm cdv ct:Value} (l:K.lookup f=some ⟨oc,od,.func (PySem.W.fnOf x qual (a4t st) (a2f st) (a0r st) .none kV doc pm an cdv ct),osl⟩)
  (c:PySem.W.codeIn K cdv qual=true) (k:PySem.W.keepIn K (.ref f)=true):Fun K x qual st f (PySem.W.fnOf x qual (a4t st) (a2f st) (a0r st) .none kV doc pm an cdv ct):=⟨⟨oc,od,kV,doc,pm,an,cdv,ct,osl,rfl,l,c⟩,k⟩
end
section
variable {X:Cx}
theorem pv (i:Nat) {x:Str} {pos:Pos} (hN:X.N[i]?=some x:=by rfl) (hv:Vis X.env.scope x:=by first | exact Or.inl rfl | exact Or.inr (Or.inl rfl) | exact Or.inr (Or.inr rfl)) (hd:(x == ("__debug__":Str))=false:=by decide)
  (hcd:(x == ("__classdict__":Str))=false:=by decide):PE X (.Name x pos) (c7x i):=b2o hN hv hd hcd
end
theorem ite2 {c A B:Prop} [Decidable c] (h1:c→A) (h2:¬ c→B):if c then A else B:=by
 by_cases h:c
 ·rw [if_pos h]
  exact h1 h
 ·rw [if_neg h]
  exact h2 h
def Same (H H':Hp):Prop:=∀ b o,H b=some o→H' b=some o
theorem Same.refl (H:Hp):Same H H:=fun _ _ h=>h
theorem Same.trans {H H1 H2:Hp} (a:Same H H1) (b:Same H1 H2):Same H H2:=fun c o h=>b c o (a c o h)
theorem Same.free {H H':Hp} (e:Same H H') {l:Addr} (h:H' l=Option.none):H l=Option.none:=by
 cases q:H l with
 | none=>rfl
 | some o =>
  rw [e l o q] at h
  cases h
theorem Same.seq {K:Γd} {H H':Hp} {a:Addr} {xs:List V} (e:Same H H') (h:SqL K H a xs):SqL K H' a xs:=by
 rcases h with (h | ⟨o,h⟩) | h
 ·exact .inl (.inl (e _ _ h))
 ·exact .inl (.inr ⟨o,e _ _ h⟩)
 ·exact .inr h
end L2
end
section
namespace L2
open PySem PySem.Spec PyProof.Rows
section
variable {κ:Type} [DecidableEq κ]
def b0m (kvs:List (κ×V)) (k:κ):Option V:=(kvs.find? fun kv=>decide (kv.1=k)).map (·.2)
def a6i (kvs:List (κ×V)) (k:κ) (v:V):List (κ×V) :=
 if (kvs.any fun kv=>decide (kv.1=k))=true then kvs.map (fun kv=>if kv.1=k then (kv.1,v) else kv) else kvs++[(k,v)]
def d1i (kvs:List (κ×V)) (k:κ):List (κ×V):=kvs.filter fun kv=>decide (kv.1≠k)
theorem a3w {p:κ×V} {r:List (κ×V)} {k:κ} (e:p.1=k):b0m (p :: r) k=some p.2:=by simp [b0m,List.find?_cons,e]
theorem a3x {p:κ×V} {r:List (κ×V)} {k:κ} (e:¬ p.1=k):b0m (p :: r) k=b0m r k:=by simp [b0m,List.find?_cons,e]
theorem a5d (k:κ):∀ kvs:List (κ×V),(kvs.any fun kv=>decide (kv.1=k))=(b0m kvs k).isSome
 | []=>rfl
 | p :: r=>by
  rw [List.any_cons]
  by_cases e:p.1=k
  ·simp only [a3w e,decide_eq_true e,Bool.true_or,Option.isSome_some]
  ·rw [a3x e,decide_eq_false e,Bool.false_or]; exact a5d k r
theorem a3q (kvs:List (κ×V)) (k:κ) (v:V):(a6i kvs k v).length≤kvs.length + 1:=by
 unfold a6i
 split
 ·rw [List.length_map]; lia
 ·rw [List.length_append,List.length_cons,List.length_nil]; lia
theorem RelO.isSome_eq {o:Option V} {u:Option Value} (r:RelO o u):o.isSome=u.isSome:=by
 cases o with
 | none=>cases u with
  | none=>rfl
  | some _=>exact (show False from r).elim
 | some _=>cases u with
  | none=>exact (show False from r).elim
  | some _=>rfl
theorem RelO.getD {o:Option V} {u:Option Value} {d:V} {d':Value} (r:RelO o u) (rd:RelV d d'):RelV (o.getD d) (u.getD d'):=by
 cases o with
 | none=>cases u with
  | none=>exact rd
  | some _=>exact (show False from r).elim
 | some _=>cases u with
  | none=>exact (show False from r).elim
  | some _=>exact r
theorem KV.val {kvs:List (κ×V)} {vs:List (κ×Value)} (r:KV kvs vs) (k:κ):RelO (b0m kvs k) (valueAt vs k):=by
 unfold KV at r
 induction r with
 | nil=>exact True.intro
 | @cons p q ps qs h t ih =>
  obtain ⟨h1,h2⟩:=h
  by_cases e:p.1=k
  ·have e':q.1=k:=h1.symm.trans e
   have b:valueAt (q :: qs) k=some q.2:=by simp [valueAt,List.find?_cons,e']
   rw [a3w e,b]; exact h2
  ·have e':¬ q.1=k:=fun z=>e (h1.trans z)
   have b:valueAt (q :: qs) k=valueAt qs k:=by simp [valueAt,List.find?_cons,e']
   rw [a3x e,b]; exact ih
theorem KV.any {kvs:List (κ×V)} {vs:List (κ×Value)} (r:KV kvs vs) (k:κ):(kvs.any fun kv=>decide (kv.1=k))=vs.any fun kv=>decide (kv.1=k):=by
 unfold KV at r
 induction r with
 | nil=>rfl
 | cons h t ih=>rw [List.any_cons,List.any_cons,ih,h.1]
theorem KV.repl {kvs:List (κ×V)} {vs:List (κ×Value)} (r:KV kvs vs) (k:κ) {y:V} {u:Value} (ry:RelV y u) :
  KV (kvs.map fun kv=>if kv.1=k then (kv.1,y) else kv) (vs.map fun kv=>if kv.1=k then (kv.1,u) else kv):=by
 unfold KV at r ⊢
 induction r with
 | nil=>exact .nil
 | @cons p q ps qs h t ih =>
  rw [List.map_cons,List.map_cons]
  refine .cons ?_ ih
  obtain ⟨h1,h2⟩:=h
  by_cases e:p.1=k
  ·rw [if_pos e,if_pos (h1.symm.trans e)]; exact ⟨h1,ry⟩
  ·rw [if_neg e,if_neg (fun z=>e (h1.trans z))]; exact ⟨h1,h2⟩
theorem KV.put {kvs:List (κ×V)} {vs:List (κ×Value)} (r:KV kvs vs) (k:κ) {y:V} {u:Value} (ry:RelV y u):KV (a6i kvs k y) (stored vs k u):=by
 unfold a6i stored
 rw [r.any k]
 by_cases e:(vs.any fun kv=>decide (kv.1=k))=true
 ·rw [if_pos e,if_pos e]; exact r.repl k ry
 ·rw [if_neg e,if_neg e]; exact Paired.snoc r ⟨rfl,ry⟩
theorem KV.drop {kvs:List (κ×V)} {vs:List (κ×Value)} (r:KV kvs vs) (k:κ):KV (d1i kvs k) (without vs k):=by
 unfold KV at r ⊢
 unfold d1i without
 induction r with
 | nil=>exact .nil
 | @cons p q ps qs h t ih =>
  obtain ⟨h1,h2⟩:=h
  rw [List.filter_cons,List.filter_cons]
  by_cases e:p.1=k
  ·have a:¬ decide (p.1≠k)=true:=by simp [e]
   have b:¬ decide (q.1≠k)=true:=by simp [h1.symm.trans e]
   rw [if_neg a,if_neg b]; exact ih
  ·have e':¬ q.1=k:=fun z=>e (h1.trans z)
   have a:decide (p.1≠k)=true:=by simp [e]
   have b:decide (q.1≠k)=true:=by simp [e']
   rw [if_pos a,if_pos b]; exact .cons ⟨h1,h2⟩ ih
theorem KV.length {kvs:List (κ×V)} {vs:List (κ×Value)} (r:KV kvs vs):kvs.length=vs.length:=Paired.length r
end
theorem c1i {P:Program} {w:World} {k:Key} {u:Value} (r:RelV (kV k) u):(a1h P w).is k u=true:=by
 cases k with
 | inl i=>obtain ⟨t,e⟩:=(show ∃ t,u=Value.int i t from r); subst e; exact b1b P w i t
 | inr x=>obtain ⟨t,e⟩:=(show ∃ t,u=Value.str x t from r); subst e; exact b1a P w x t
theorem a9u {P:Program} {w:World}:∀ {ks:List Key} {us:List Value},Vals (ks.map kV) us→ItemsAre (a1h P w) ks us
 | [],_,r=>by rw [List.map_nil] at r; cases r; exact .nil
 | k :: ks,_,r=>by
  rw [List.map_cons] at r
  cases r with
  | cons h t=>exact .cons (c1i h) (a9u t)
abbrev KT (H:Hp):List (List Key×V)→List (List Key×Addr×Value)→Prop:=Paired fun p q=>p.1=q.1∧H q.2.1=some (.tup (p.1.map kV))∧RelV p.2 q.2.2
theorem KT.val {H:Hp} {kvs:List (List Key×V)} {xs:List (List Key×Addr×Value)} (r:KT H kvs xs) (k:List Key):RelO (b0m kvs k) ((atKey xs k).map (·.2)):=by
 induction r with
 | nil=>exact True.intro
 | @cons p q ps qs h t ih =>
  obtain ⟨h1,_,h2⟩:=h
  by_cases e:p.1=k
  ·have e':q.1=k:=h1.symm.trans e
   have b:atKey (q :: qs) k=some q.2:=by simp [atKey,List.find?_cons,e']
   rw [a3w e,b]; exact h2
  ·have e':¬ q.1=k:=fun z=>e (h1.trans z)
   have b:atKey (q :: qs) k=atKey qs k:=by simp [atKey,List.find?_cons,e']
   rw [a3x e,b]; exact ih
theorem KT.repl {H:Hp} {kvs:List (List Key×V)} {xs:List (List Key×Addr×Value)} (r:KT H kvs xs) (k:List Key) {y:V} {u:Value} (ry:RelV y u) :
  KT H (kvs.map fun kv=>if kv.1=k then (kv.1,y) else kv) (xs.map (putAt k u)):=by
 induction r with
 | nil=>exact .nil
 | @cons p q ps qs h t ih =>
  rw [List.map_cons,List.map_cons]
  refine .cons ?_ ih
  obtain ⟨h1,h2,h3⟩:=h
  unfold putAt
  by_cases e:p.1=k
  ·rw [if_pos e,if_pos (h1.symm.trans e)]; exact ⟨h1,h2,ry⟩
  ·rw [if_neg e,if_neg (fun z=>e (h1.trans z))]; exact ⟨h1,h2,h3⟩
theorem KT.put {H:Hp} {kvs:List (List Key×V)} {xs:List (List Key×Addr×Value)} (r:KT H kvs xs) (k:List Key) {b:Addr} {y:V} {u:Value} (hb:H b=some (.tup (k.map kV))) (ry:RelV y u) :
  KT H (a6i kvs k y) (storedH xs k b u):=by
 have e:(kvs.any fun kv=>decide (kv.1=k))=(atKey xs k).isSome:=by
  rw [a5d,(r.val k).isSome_eq,Option.isSome_map]
 unfold a6i storedH
 rw [e]
 by_cases q:(atKey xs k).isSome=true
 ·rw [if_pos q,if_pos q]; exact r.repl k ry
 ·rw [if_neg q,if_neg q]; exact Paired.snoc r ⟨rfl,hb,ry⟩
theorem KT.keeps {H H':Hp} {kvs:List (List Key×V)} {xs:List (List Key×Addr×Value)} (r:KT H kvs xs) (ht:∀ b ys,H b=some (.tup ys)→H' b=some (.tup ys)):KT H' kvs xs :=
 Paired.mapP r fun _ _ z=>⟨z.1,ht _ _ z.2.1,z.2.2⟩
section
variable {P:Program} {w:World} {H:Hp} {h:Heap} {a:Addr}
theorem c8w {u:HO} (ok:HOk P w H h) (e:Rd H a u):ObjOk P w H h a u:=e.ok ok
theorem c2d {kvs:List (Key×V)} (ok:HOk P w H h) (e:Rd H a (.dK kvs)):kvs.length≤sizeLine∧(a == sysModules)=false∧∃ vs,KV kvs vs∧h.DictOf (a1h P w) a vs :=
 show ObjOk P w H h a (.dK kvs) from c8w ok e
theorem d9h {kvs:List (Key×V)} (ok:HOk P w H h) (e:H a=some (.dK kvs)):kvs.length≤sizeLine∧(a == sysModules)=false∧∃ vs,KV kvs vs∧h.DictOf (a1h P w) a vs:=c2d ok (.inl e)
theorem a9s {ks:List Key} (ok:HOk P w H h) (e:H a=some (.tup (ks.map kV))):(tupleKind (a1h P w)).is h ks a:=by
 obtain ⟨_,its,r,o,h1,h2,n,h3⟩:=(show ObjOk P w H h a (.tup (ks.map kV)) from ok a _ e)
 exact ⟨o,its.toArray,n,h1,h2,h3,by simpa using a9u r⟩
theorem c2a {kvs:List (List Key×V)} (ok:HOk P w H h) (e:Rd H a (.dT kvs)):kvs.length≤sizeLine∧(a == sysModules)=false ∧
  ∃ xs,KT H kvs xs∧h.DictOfH (tupleKind (a1h P w)) a xs:=by
 obtain ⟨z,y,xs,r,o,es,ep,h1,h2,h3,h4,h5⟩:=(show ObjOk P w H h a (.dT kvs) from c8w ok e)
 refine ⟨z,y,xs,r,o,es,ep,h1,h2,h3,h4,fun x hx=>?_,h5⟩
 have all:∀ {l:List (List Key×V)} {m:List (List Key×Addr×Value)},KT H l m→∀ x∈m,(tupleKind (a1h P w)).is h x.1 x.2.1:=by
  intro l m q
  induction q with
  | nil=>intro x hx; exact nomatch hx
  | @cons p q ps qs hq t ih =>
   intro x hx
   rcases List.mem_cons.mp hx with e | hx
   ·subst e
    exact a9s ok (by rw [← hq.1]; exact hq.2.1)
   ·exact ih x hx
 exact all r x hx
theorem d1h {kvs:List (List Key×V)} (ok:HOk P w H h) (e:H a=some (.dT kvs)):kvs.length≤sizeLine∧(a == sysModules)=false ∧
  ∃ xs,KT H kvs xs∧h.DictOfH (tupleKind (a1h P w)) a xs:=c2a ok (.inl e)
end
def DGet (H:Hp) (a:Addr) (y:V) (r:Option V):Prop :=
 (∃ kvs k,Rd H a (.dK kvs)∧y=kV k∧r=b0m kvs k) ∨ ∃ kvs k b,Rd H a (.dT kvs)∧y=.ref b∧H b=some (.tup (k.map kV))∧r=b0m kvs k
def DPut (H:Hp) (a:Addr) (y v:V) (H':Hp):Prop :=
 (∃ kvs k,H a=some (.dK kvs)∧y=kV k∧kvs.length < sizeLine∧H'=upd H a (.dK (a6i kvs k v))) ∨
 ∃ kvs k b,H a=some (.dT kvs)∧y=.ref b∧H b=some (.tup (k.map kV))∧kvs.length < sizeLine∧H'=upd H a (.dT (a6i kvs k v))
theorem DGet.k {H:Hp} {a:Addr} {kvs:List (Key×V)} {k:Key} (e:H a=some (.dK kvs)):DGet H a (kV k) (b0m kvs k):=.inl ⟨kvs,k,.inl e,rfl,rfl⟩
theorem DGet.t {H:Hp} {a b:Addr} {kvs:List (List Key×V)} {k:List Key} (e:H a=some (.dT kvs)) (eb:H b=some (.tup (k.map kV))):DGet H a (.ref b) (b0m kvs k):=.inr ⟨kvs,k,b,.inl e,rfl,eb,rfl⟩
theorem DPut.k {H:Hp} {a:Addr} {kvs:List (Key×V)} {k:Key} {v:V} (e:H a=some (.dK kvs)) (hl:kvs.length < sizeLine):DPut H a (kV k) v (upd H a (.dK (a6i kvs k v))):=.inl ⟨kvs,k,e,rfl,hl,rfl⟩
theorem DPut.t {H:Hp} {a b:Addr} {kvs:List (List Key×V)} {k:List Key} {v:V} (e:H a=some (.dT kvs)) (eb:H b=some (.tup (k.map kV))) (hl:kvs.length < sizeLine) :
  DPut H a (.ref b) v (upd H a (.dT (a6i kvs k v))):=.inr ⟨kvs,k,b,e,rfl,eb,hl,rfl⟩
section
variable {X:Cx} {pins:List (Addr×Obj)} {σ:St} {H:Hp} {s:Shared} {a:Addr} {y v:V} {u r:Value} {o:Option V} {A:Around} {E:Value→Shared→Prop}
theorem Inv.big (I:Inv X pins σ H s):sysModules < s.heap.objs.size:=by
 have h:mainGlobals < s.heap.objs.size:=(I.mod.glob.keeps I.bk).lt
 exact Nat.lt_trans (by decide) h
theorem b8r {Q:Value→Shared→Prop} (hu:A.units + 1 < cLine) (I:Inv X pins σ H s) (g:DGet H a y (some v)) (ry:RelV y u) (h:∀ w' s',Inv X pins σ H s'→RelV v w'→Q w' s') :
  wpAny (model X.prog X.w) A (getItem (.ref a) u) Q E s:=by
 rcases g with ⟨kvs,k,e,ey,l⟩ | ⟨kvs,k,b,e,ey,eb,l⟩
 ·subst ey
  obtain ⟨z,hd,vs,rel,dd⟩:=c2d I.hok e
  obtain ⟨w',hw,rw'⟩:=RelO.some_of (v:=v) (o:=valueAt vs k) (by rw [l]; exact rel.val k)
  exact wpAny_getItem_of (c1i ry) dd.mapOf hw (h w' _ (I.tok _) rw')
 ·subst ey
  cases (show u=Value.ref b from ry)
  obtain ⟨z,hd,xs,rel,dd⟩:=c2a I.hok e
  obtain ⟨w',hw,rw'⟩:=RelO.some_of (v:=v) (o:=(atKey xs k).map (·.2)) (by rw [l]; exact rel.val k)
  obtain ⟨p,hp,hp2⟩:=Option.map_eq_some_iff.mp hw
  refine wpAny_getItem_heap (tupleKind_room_in1 hu) (a9s I.hok eb) dd hp ?_
  rw [hp2]
  exact h w' _ (I.tok _) rw'
theorem d_in {Q:Value→Shared→Prop} (hu:A.units + 1 < cLine) (I:Inv X pins σ H s) (g:DGet H a y o) (ry:RelV y u) (h:∀ s',Inv X pins σ H s'→Q (.bool o.isSome) s') :
  wpAny (model X.prog X.w) A (compareOp .In u (.ref a)) Q E s:=by
 rcases g with ⟨kvs,k,e,ey,l⟩ | ⟨kvs,k,b,e,ey,eb,l⟩
 ·subst ey
  obtain ⟨z,hd,vs,rel,dd⟩:=c2d I.hok e
  refine wpAny_in_of (c1i ry) hd dd.mapOf ?_
  rw [← (rel.val k).isSome_eq,← l]
  exact h _ (I.tok _)
 ·subst ey
  cases (show u=Value.ref b from ry)
  obtain ⟨z,hd,xs,rel,dd⟩:=c2a I.hok e
  refine wpAny_in_heap (tupleKind_room_in1 hu) (a9s I.hok eb) hd dd ?_
  have q:=(rel.val k).isSome_eq
  rw [Option.isSome_map] at q
  rw [← q,← l]
  exact h _ (I.tok _)
theorem b1o {h':Heap} {t':Nat} {ob:HO} (I:Inv X pins σ H s) (mu:Mut (H a)) (hs:Heap.SameBut a s.heap h') (he:∃ q,h'.get? a=some q) (new:ObjOk X.prog X.w (upd H a ob) h' a ob) :
  Inv X pins σ (upd H a ob) { s with heap:=h',toks:=t' } :=
 I.write (x:=a) (e:=a) mu (.inl rfl) (fun b q hb z=>(hs.2 b hb).trans z) he new
theorem d1k {P:Program} {w:World} {H':Hp} {h':Heap} {kvs:List (Key×V)} {vs:List (Key×Value)} (z:kvs.length≤sizeLine) (hd:(a == sysModules)=false) (rel:KV kvs vs) (dd:h'.DictOf (a1h P w) a vs) :
  ObjOk P w H' h' a (.dK kvs):=⟨z,hd,vs,rel,dd⟩
theorem b8q {H':Hp} {Q:Unit→Shared→Prop} (hu:A.units + 1 < cLine) (I:Inv X pins σ H s) (g:DPut H a y v H') (ry:RelV y u) (rv:RelV v r) (h:∀ s',Inv X pins σ H' s'→Q () s') :
  wpAny (model X.prog X.w) A (setItem (.ref a) u r) Q E s:=by
 rcases g with ⟨kvs,k,e,ey,l,eH⟩ | ⟨kvs,k,b,e,ey,eb,l,eH⟩
 ·subst ey eH
  obtain ⟨z,hd,vs,rel,dd⟩:=d9h I.hok e
  have hz:vs.length≤sizeLine:=by rw [← rel.length]; exact z
  have hl:(a6i kvs k v).length≤sizeLine:=by have:=a3q kvs k v; lia
  refine wpAny_setItem_pairs (hsz:=hz) (c1i ry) dd fun h' dd' hs=>h _ ?_
  have he:∃ q,h'.get? a=some q:=let ⟨q,_,_,hq,_⟩:=dd'; ⟨q,hq⟩
  exact b1o I (by rw [e]; exact True.intro) hs he (d1k hl hd (rel.put k rv) dd')
 ·subst ey eH
  cases (show u=Value.ref b from ry)
  obtain ⟨z,hd,xs,rel,dd⟩:=d1h I.hok e
  have hz:xs.length≤sizeLine:=by rw [← Paired.length rel]; exact z
  have hl:(a6i kvs k v).length≤sizeLine:=by have:=a3q kvs k v; lia
  refine wpAny_setItem_heap (hsz:=hz) (tupleKind_room_in1 hu) (a9s I.hok eb) dd fun h' dd' hs=>h _ ?_
  obtain ⟨q,es,ep,hq,h2,h3,h4,_,h5⟩:=dd'
  refine b1o I (by rw [e]; exact True.intro) hs ⟨q,hq⟩ ⟨hl,hd,_,(rel.put k eb rv).keeps fun c ys ec=>?_,q,es,ep,hq,h2,h3,h4,h5⟩
  rw [a0e (d0g ec e (fun z=>nomatch z))]
  exact ec
end
section
variable {X:Cx} {pins:List (Addr×Obj)} {σ:St} {H:Hp} {s:Shared} {a:Addr} {kvs:List (Key×V)} {k:Key} {u:Value} {A:Around} {E:Value→Shared→Prop}
end
def NoSl (i:Expr):Prop:=∀ ov iv,subscripted i false ov iv=operate [ov,iv] (getItem ov iv)
theorem c4h {prog:Program} {w:World} {A:Around} {E:Value→Shared→Prop} {s:Shared} {env:Env} {value slice:Expr} {pos:Pos} {T id:String} {Q:Value→Shared→Prop}
  (hl:typeLookup (.type T) "__getitem__" = pure (some (.builtin id))) (hs:NoSl slice)
  (h:wpAny (model prog w) A (eval value env) (fun o s₁=>wpAny (model prog w) A (eval slice env) (fun i s₂=>s₂.TypeIs o T∧wpAny (model prog w) A (getItem o i) Q E s₂) E s₁) E s) :
  wpAny (model prog w) A (eval (.Subscript value slice pos) env) Q E s:=by
 refine Subscript_ (wpAny_mono h (fun o s₁ h₁=>wpAny_mono h₁ (fun i s₂ h₂=>?_) fun _ _ x=>x) fun _ _ x=>x)
 obtain ⟨hT,h₂⟩:=h₂
 unfold subscriptTail
 refine Γa ?_
 rw [getitemInPython_of_ne hT.not_modules]
 refine Γa (wpAny_specialOf hT hl ?_)
 have fin:wpAny (model prog w) A (subscripted slice false o i) (fun r s₃=>wpAny (model prog w) A (letTemporaryGo value o r >>= fun _=>pure r) Q E s₃) E s₂:=by
  rw [hs o i]
  exact wpAny_operating (wpAny_mono h₂ (fun r s₃ h₃=>Γa (wpAny_letTemporaryGo (Γb h₃))) fun _ _ x=>x)
 first
  | exact Γb (Γa fin)
  | exact Γa (Γb (Γa fin))
  | exact Γa fin
theorem b1m {X:Cx} {pins:List (Addr×Obj)} {σ:St} {H:Hp} {s:Shared} {a:Addr} {y:V} {o:Option V} (I:Inv X pins σ H s) (g:DGet H a y o):s.TypeIs (.ref a) "dict":=by
 rcases g with ⟨kvs,k,e,_,_⟩ | ⟨kvs,k,b,e,_,_,_⟩
 ·obtain ⟨_,_,vs,_,dd⟩:=c2d I.hok e
  exact dd.typeIs
 ·obtain ⟨_,_,xs,_,dd⟩:=c2a I.hok e
  exact dd.typeIs
def d4i (td ty:TE):TE:=fun σ H Q=>td σ H fun x H1=>ty σ H1 fun y H2=>∃ a v,x=.ref a∧DGet H2 a y (some v)∧Q v H2
def d4y (td ty tv:TE):TS:=fun D σ H=>tv σ H fun v H1=>td σ H1 fun x H2=>ty σ H2 fun y H3=>∃ a H4,x=.ref a∧DPut H3 a y v H4∧D.nx σ H4
section
variable {X:Cx} {o i e value:Expr} {pos pos' tpos:Pos} {td ty tv:TE}
theorem b6x (hu:X.A.units + 1 < cLine) (ho:PE X o td) (hi:PE X i ty) (hs:NoSl i):PE X (.Subscript o i pos) (d4i td ty):=by
 intro pins s σ H Q I h
 refine c4h PySem.F.slot_dict_getitem.lookup hs (thn (ho pins s σ H _ I h) fun u s1 ⟨x,H1,I1,rx,q1⟩=>thn (hi pins s1 σ H1 _ I1 q1) fun iv s2 ⟨y,H2,I2,ry,a,v,ex,g,q2⟩=>?_)
 subst ex
 obtain rfl:u=Value.ref a:=rx
 exact ⟨b1m I2 g,b8r hu I2 g ry fun w' s3 I3 rw'=>⟨v,H2,I3,rw',q2⟩⟩
theorem c5c (hu:X.A.units + 1 < cLine) (ho:PE X o td) (hi:PE X i ty) (hv:PE X value tv) (hs:swapsWith value (some (.Subscript o i pos')) pos.line X.env=pure false) :
  PS X (.Assign [.Subscript o i pos'] value pos) (d4y td ty tv):=by
 intro pins s σ H D I h
 refine wpAny_Assign_Subscript (thn (hv pins s σ H _ I h) fun r s1 ⟨v,H1,I1,rv,q1⟩=>thn (ho pins s1 σ H1 _ I1 q1) fun u s2 ⟨x,H2,I2,rx,q2⟩=>thn (hi pins s2 σ H2 _ I2 q2) fun iv s3 ⟨y,H3,I3,ry,a,H4,ex,g,q3⟩=>?_) hs
 subst ex
 obtain rfl:u=Value.ref a:=rx
 exact b8q hu I3 g ry rv fun s4 I4=>⟨σ,H4,I4,q3⟩
end
theorem b3l {P:Program} {w:World} {H:Hp} (h:Heap) (hb:sysModules < h.objs.size):ObjOk P w H (h.push { cls:=.type "dict",data:=.dict #[] }) h.objs.size (.dT []) :=
 ⟨Nat.zero_le _,beq_eq_false_iff_ne.mpr (Ne.symm (Nat.ne_of_lt hb)),[],.nil,_,#[],0,Heap.get?_push_size _ rfl,⟨rfl,rfl,rfl⟩,rfl,rfl,List.nodup_nil⟩
def c8g:TE:=fun _ H Q=>∀ p,H p=none→Q (.ref p) (upd H p (.dT []))
section
variable {X:Cx} {pos:Pos}
theorem c0v:PE X (.Dict [] [] pos) c8g:=fun pins s σ H Q I h =>
 wpAny_Dict_empty ⟨.ref s.heap.objs.size,_,I.laid (a:=s.heap.objs.size) (o:=.dT []) (t':=s.toks) (fun _ _ q=>Γc _ q) (Nat.le_refl _) (b3l s.heap I.big),rfl,h _ (I.hok.fresh (Nat.le_refl _))⟩
end
structure M1 (X:Cx) (o:Expr) (m:Str) (apos:Pos) (e:Expr) (cpos:Pos):Prop where
 base:attributeBase o m X.env (eval o X.env)=eval o X.env
 few:((backTo cpos (starEach [e] X.env)).all (fun x=>!x.1) && (backToKw cpos (keywordEach [] X.env)).all (fun x=>x.1.isSome)
  && decide (([e]:List Expr).length + ([]:List Keyword).length + (if ([]:List Keyword).isEmpty then 0 else 1) < 30))=true
 line:(apos.endLine == cpos.line)=true
 trees:backTo cpos (starEach [e] X.env)=[(false,eval e X.env)]
structure M2 (X:Cx) (o:Expr) (m:Str) (apos:Pos) (e f:Expr) (cpos:Pos):Prop where
 base:attributeBase o m X.env (eval o X.env)=eval o X.env
 few:((backTo cpos (starEach [e,f] X.env)).all (fun x=>!x.1) && (backToKw cpos (keywordEach [] X.env)).all (fun x=>x.1.isSome)
  && decide (([e,f]:List Expr).length + ([]:List Keyword).length + (if ([]:List Keyword).isEmpty then 0 else 1) < 30))=true
 line:(apos.endLine == cpos.line)=true
 trees:backTo cpos (starEach [e,f] X.env)=[(false,eval e X.env),(false,eval f X.env)]
section
variable {X:Cx} {pins:List (Addr×Obj)} {σ:St} {H:Hp} {s:Shared} {a:Addr} {y d:V} {u r:Value} {o:Option V} {A:Around} {E:Value→Shared→Prop}
end
section
variable {X:Cx} {o e f:Expr} {apos cpos:Pos} {td ty tx:TE}
end
section
variable {X:Cx} {pins:List (Addr×Obj)} {σ:St} {H:Hp} {s:Shared} {a:Addr} {kvs:List (Key×V)} {A:Around} {E:Value→Shared→Prop}
end
section
variable {X:Cx} {pins:List (Addr×Obj)} {σ:St} {H:Hp} {s:Shared} {a:Addr} {y:V} {u:Value} {A:Around} {E:Value→Shared→Prop}
end
end L2
namespace L2
open PySem PySem.Spec PyProof.Rows
section
variable {κ:Type} [DecidableEq κ]
end
end L2
end
section
namespace HT
open PySem PyProof.Rows
def lexLe:List Int→List Int→Bool
 | [],[]=>true
 | [],_ :: _=>true
 | _ :: _,[]=>false
 | x :: xs,y :: ys=>if x=y then lexLe xs ys else decide (x≤y)
theorem b4i (x y:Int) (xs ys:List Int):lexLe (x :: xs) (y :: ys)=if x=y then lexLe xs ys else decide (x≤y):=rfl
theorem a8c:lexLe [] []=true:=rfl
theorem a6m (y:Int) (ys:List Int):lexLe [] (y :: ys)=true:=rfl
theorem a6n (x:Int) (xs:List Int):lexLe (x :: xs) []=false:=rfl
theorem b8f (A:Around) (s:Shared) (a:Int) (t:Tok) (c:Int) (u:Tok):∃ e,SeqAt.EqAt A s (.int a t) (.int c u) e∧(e=true↔a=c) :=
 ⟨(a == c),SeqAt.EqAt.int_int a t c u,by simp⟩
theorem c0m (A:Around) (s:Shared) (a:Int) (t:Tok) (c:Int) (u:Tok) (prog:Program) (w:World) (E:Value→Shared→Prop) (Q:Value→Shared→Prop) (h:Q (.bool (decide (a≤c))) s) :
  wpAny (model prog w) A (richCompare .LtE (.int a t) (.int c u)) Q E s :=
 (PyProof.Rows.le_int h:wpAny (model prog w) A (compareOp .LtE (.int a t) (.int c u)) Q E s)
section
open PySem.SeqAt
open PySem.AutoSeq1 (wpAny_loadPart')
open PySem.MeetsSeq PySem.MeetsSeq2 PySem.MeetsSeq3
theorem a7n (l b:Addr) (items items2:Array Value) (n n2:Nat) (dd dd2:Option Addr) (sl sl2:Array (Option Value)) (ns ms:List Int) (hi:IntsAre items.toList ns) (hj:IntsAre items2.toList ms) :
  Meets (Builtin.«tuple.__le__» ⟨[.ref l,.ref b],[]⟩)
   (fun _ R s=>s.heap.get? l=some { cls:=.type "tuple",dict:=dd,data:=.seq items n,slots:=sl }∧s.heap.get? b=some { cls:=.type "tuple",dict:=dd2,data:=.seq items2 n2,slots:=sl2 } ∧
    R (.ok (.ret (.bool (lexLe ns ms)))) s) :=
 .of_wp fun prog w A R s h=>by
  obtain ⟨hp,g,d,tk,os⟩:=s; obtain ⟨hl,hb,h⟩:=h
  have f2:=AutoSeq1.sub_tuple_tuple
  have z1:items.size=ns.length:=by rw [← hi.length]; simp
  have z2:items2.size=ms.length:=by rw [← hj.length]; simp
  wp_walk using wpAny_loadPart' hl,wpAny_loadPart' hb,wpAny_forIn_list _ (fun rest b s'=>b.1=none∧s'=⟨hp,g,d,tk,os⟩∧∃ (vs ws:List Value) (ns' ms':List Int),rest=vs.zip ws ∧
   IntsAre vs ns'∧IntsAre ws ms'∧ns'.length + items2.size=ms'.length + items.size∧R (.ok (.ret (.bool (lexLe ns' ms')))) ⟨hp,g,d,tk,os⟩) _
  case turn =>
   rintro ⟨y,x⟩ rest b s' ⟨hb',rfl,vs,ws,ns',ms',hz,hvi,hwi,hlen,hR⟩
   cases hvi with
   | nil=>rw [List.zip_nil_left] at hz; cases hz
   | cons a t hvi' =>
    cases hwi with
    | nil=>rw [List.zip_nil_right] at hz; cases hz
    | cons c u hwi' =>
     rw [List.zip_cons_cons] at hz
     injection hz with hyx hrest
     injection hyx with hy hx
     subst hy hx
     rw [b4i] at hR
     simp only [List.length_cons] at hlen
     obtain ⟨e,he,hiff⟩:=b8f A.in1 ⟨hp,g,d,tk,os⟩ a t c u
     refine Γa (he prog w _ _ ?_)
     cases e with
     | true =>
      rw [if_pos (hiff.mp rfl)] at hR
      wp_walk
      exact ⟨rfl,rfl,_,_,_,_,hrest,hvi',hwi',by lia,hR⟩
     | false =>
      rw [if_neg (fun q=>absurd (hiff.mpr q) Bool.false_ne_true)] at hR
      have hri:=c0m A.in1 ⟨hp,g,d,tk,os⟩ a t c u prog w
      wp_walk using hri
      exact ⟨_,rfl,by simpa using hR⟩
  case fin =>
   rintro ⟨b1,b2⟩ s' ⟨hb',rfl,vs,ws,ns',ms',hz,hvi,hwi,hlen,hR⟩
   simp only at hb'
   subst hb'
   have hv:lexLe ns' ms'=decide (items.size≤items2.size):=by
    cases hvi with
    | nil =>
     cases hwi with
     | nil =>
      simp only [List.length_nil] at hlen
      rw [a8c]
      exact (decide_eq_true (by lia)).symm
     | cons c u hw =>
      simp only [List.length_nil,List.length_cons] at hlen
      rw [a6m]
      exact (decide_eq_true (by lia)).symm
    | cons a t hv =>
     cases hwi with
     | nil =>
      simp only [List.length_nil,List.length_cons] at hlen
      rw [a6n]
      exact (decide_eq_false (by lia)).symm
     | cons c u hw =>
      rw [List.zip_cons_cons] at hz
      cases hz
   rw [hv] at hR
   wp_walk
   exact ⟨_,rfl,by simpa [Builtin.Tuple.tupleCompareSizes] using hR⟩
  case h =>
   exact ⟨rfl,rfl,items.toList,items2.toList,ns,ms,rfl,hi,hj,by lia,h⟩
end
section
variable {prog:Program} {w:World} {A:Around} {E:Value→Shared→Prop} {s:Shared}
theorem le_tupInts {l b:Addr} {items items2:Array Value} {ns ms:List Int} {Q:Value→Shared→Prop} (hl:IsTup s.heap l items) (hb:IsTup s.heap b items2) (hi:IntsAre items.toList ns) (hj:IntsAre items2.toList ms)
  (hu:A.units < cLine) (h:Q (.bool (lexLe ns ms)) s):wpAny (model prog w) A (compareOp .LtE (.ref l) (.ref b)) Q E s:=by
 obtain ⟨⟨cls,dd,data,sl⟩,ho,hc,n,hd⟩:=id hl
 obtain ⟨⟨cls2,dd2,data2,sl2⟩,ho2,hc2,n2,hd2⟩:=id hb
 simp only at hc hd hc2 hd2
 subst hc hd hc2 hd2
 exact richCompare_meets_room (op:=.LtE) ⟨_,ho,rfl⟩ ⟨_,ho2,rfl⟩ PySem.F.slot_tuple_le PySem.F.entry_tuple_le (PySem.F.args_tuple_le_2 _ _) (a7n l b items items2 n n2 dd dd2 sl sl2 ns ms hi hj)
  ⟨ho,ho2,show Value.bool (lexLe ns ms)≠Value.notImplemented∧Q (.bool (lexLe ns ms)) s from ⟨(fun x=>nomatch x),h⟩⟩ hu
end
end HT
namespace L2
open PySem PySem.Spec PyProof.Rows
section
variable {X:Cx}
def rLeT (K:Γd):R2:=fun x y H Q=>∃ a b ns ms,x=.ref a∧y=.ref b∧SqT K H a (ns.map V.int)∧SqT K H b (ms.map V.int)∧Q (.bl (HT.lexLe ns ms)) H
theorem d0b (hu:X.A.units < cLine):OpR X (compareOp .LtE) (rLeT X.K):=by
 intro pins s σ H x y v u Q I rx ry h
 obtain ⟨a,b,ns,ms,rfl,rfl,ha,hb,q⟩:=h
 cases rx
 cases ry
 obtain ⟨its,r1,p1,_⟩:=I.tuple ha
 obtain ⟨its2,r2,p2,_⟩:=I.tuple hb
 have i1:IntsAre its.toArray.toList ns:=a3k r1
 have i2:IntsAre its2.toArray.toList ms:=a3k r2
 exact HT.le_tupInts p1 p2 i1 i2 hu ⟨.bl (HT.lexLe ns ms),H,I,rfl,q⟩
end
end L2
end
set_option maxHeartbeats 4000000
section
namespace L2
open PySem PySem.Spec PyProof.Rows
open AutoSeq1 (wpAny_loadPart')
section
variable {X:Cx}
theorem c0y:OpR X (binaryOp .Add) (fun x y H Q=>∃ a b ys,x=.ref a∧y=.ref b∧SqT X.K H a []∧SqT X.K H b ys∧Q (.ref b) H):=by
 intro pins s σ H x y v u Q I rx ry h
 obtain ⟨a,b,ys,rfl,rfl,ha,hb,q⟩:=h
 cases rx; cases ry
 obtain ⟨its,r1,⟨⟨oc,od,odt,os⟩,e1,ec,n,ed⟩,_⟩:=I.tuple ha
 obtain ⟨its2,r2,⟨⟨oc2,od2,odt2,os2⟩,e2,ec2,n2,ed2⟩,_⟩:=I.tuple hb
 simp only at ec ed ec2 ed2
 subst ec ed ec2 ed2
 cases r1
 exact concat_meets ⟨_,e1,rfl⟩ ⟨_,e2,rfl⟩ noFill_tuple_add seq_tuple_add F.slot_tuple_add F.entry_tuple_add (F.args_tuple_add_2 _ _) (tuple_addW0 a b #[] its2.toArray n n2 od od2 os os2 rfl) ⟨e1,e2,.ref b,H,I,rfl,q⟩
theorem c0d:SlR X (fun x lo hi H Q=>∃ a xs,x=.ref a∧SqT X.K H a xs∧HT.sIx xs.length 0 lo=0∧HT.sIx xs.length xs.length hi=xs.length∧Q (.ref a) H):=by
 intro pins s σ H x v vl vu lo hi sl Q I rx hs pl pu h
 obtain ⟨t,xs,rfl,hx,h1,h2,q⟩:=h
 cases rx
 obtain ⟨its,r,ht,hz⟩:=I.tuple hx
 have hlen:its.toArray.size=xs.length:=by rw [List.size_toArray]; exact r.length.symm
 refine ⟨"tuple",_,PyProof.Rows.slot_tuple_getitem.lookup,ht.typeIs,?_⟩
 obtain ⟨os,eo,co,do'⟩:=id hs
 have ty:s.TypeIs (.ref sl) "slice":=⟨os,eo,co⟩
 rw [← hlen] at h1 h2
 unfold getItem
 try with_reducible refine Γg ?_
 first | refine Γa (Γb ?_) | skip
 refine Γa (wpAny_sequenceKey ht.typeIs (by decide) (Γa (wpAny_callSpecial?_slot (name:=Γe "__getitem__") ht.typeIs PyProof.Rows.slot_tuple_getitem (wpAny_call_entry PyProof.Rows.slot_tuple_getitem ht.typeIs entry_tuple_getitem ?_ (args_tuple_getitem _ _)))))
 show wpAny _ _ (Builtin.Tuple.tupleItemsOf (.ref t) >>= _) _ _ s; refine Γa (tupleItemsOf_ ht (Γa (wpAny_typeOf ty ?_)))
 rw [if_pos (by decide)]; refine Γa (HT.sliceApplied_gen hs pl pu ?_)
 show wpAny _ _ (if (((HT.sIx its.toArray.size 0 lo:Nat):Int) == 0 && (1:Int) == 1 && (HT.sIx its.toArray.size its.toArray.size hi - HT.sIx its.toArray.size 0 lo) == its.toArray.size)=true then _ else _) _ _ s
 rw [if_pos (by rw [h1,h2]; simp)]
 refine Γa (m:=Builtin.Tuple.tupleIsExact (.ref t)) ?_
 unfold Builtin.Tuple.tupleIsExact
 refine Γa (wpAny_typeOf ht.typeIs (Γb ?_))
 rw [if_pos (by decide)]
 exact Γa (wpAny_rule (Γb ⟨_,rfl,Γb ⟨.ref t,H,I,rfl,q⟩⟩))
end
def Kept (h0 h:Heap) (N:Nat):Prop:=∀ b o,b < N→h0.get? b=some o→h.get? b=some o
def c7v (P:Program) (w:World) (A:Around) (I:Nat→Value→Prop) (bt:Nat→Nat→Bool) (h0:Heap) (N:Nat):Prop :=
 ∀ i j u v (s:Shared) (Q:Value→Shared→Prop) (E:Value→Shared→Prop),Kept h0 s.heap N→I i u→I j v→Q (.bool (bt i j)) s→wpAny (model P w) A (richCompare .Lt u v) Q E s
section
variable {P:Program} {w:World} {A:Around} {R:Result→Shared→Prop} {it S N:Addr} {fp wr:List Addr} {n:Nat} {V:Nat→Value→Prop} {St:Nat→Heap→Prop} {bt:Nat→Nat→Bool} {h0:Heap}
theorem b4j (W:Walks P w A.in1 it fp wr n V St) (C:c7v P w A.in1 V bt h0 N) (sf:S ∉ fp) (nw:∀ b∈wr,N≤b) (nS:N≤S) :
  ∀ (k j:Nat) (s:Shared) (best:Value) (c:Nat),n - (j + 1)=k→j + 1≤n→St (j + 1) s.heap→V (argBest bt j) best→Kept h0 s.heap N→s.heap.get? S=some { cls:=.type "list",dict:=none,data:=.seq #[best,best] c,slots:=#[] } →
  (∀ v h' tk,V (argBest bt (n - 1)) v→(∀ b o,b ∉ wr→b≠S→s.heap.get? b=some o→h'.get? b=some o)→R (.ok (.ret v)) { s with heap:=h',toks:=tk })→codeAny (model P w) A (.builtin "min.loop" ⟨[.ref it,.none,.ref S],[]⟩) R s:=by
 have sw:S ∉ wr:=fun h=>sf (W.sub _ h)
 have nm:(toString "min"++toString ".loop":String) = "min.loop":=by decide
 have low:∀ {b:Addr},b < N→b ∉ wr∧b≠S:=fun {b} hb=>⟨fun z=>absurd (nw b z) (Nat.not_le.mpr hb),fun z=>absurd nS (by rw [← z]; exact Nat.not_le.mpr hb)⟩
 intro k
 induction k with
 | zero =>
  intro j s best c hk hj hst hV kp hS hR
  have en:j + 1=n:=by lia
  refine codeAny_builtin F.entry_min_loop ?_; rw [Around.under_plainId F.plain_min_loop _]
  show wpAny _ A.in1 (seqItems? (.ref S) >>= _) _ _ s; refine Γa (wpAny_seqItems hS rfl ?_)
  show wpAny _ A.in1 (tryCatch (pyNext (.ref it)) _ >>= _) _ _ s; refine Γa (wpAny_tryCatch (W.done s _ _ (en ▸ hst) fun g tk kk=>?_))
  have S1:=kk S _ sw hS
  show wpAny _ A.in1 (updateSeq S (fun _=>#[]) >>= _) _ _ _; refine Γa (wpAny_updateSeq S1 rfl (Γa (wpAny_letGo (Γb ?_))))
  exact hR best _ tk (by rw [← en]; exact hV) fun b o c1 c2 e=>(Γf _ _ (Ne.symm c2)).trans (kk b o c1 e)
 | succ k ih =>
  intro j s best c hk hj hst hV kp hS hR
  have lt:j + 1 < n:=by lia
  refine codeAny_builtin F.entry_min_loop ?_; rw [Around.under_plainId F.plain_min_loop _]
  show wpAny _ A.in1 (seqItems? (.ref S) >>= _) _ _ s; refine Γa (wpAny_seqItems hS rfl ?_)
  show wpAny _ A.in1 (tryCatch (pyNext (.ref it)) _ >>= _) _ _ s; refine Γa (wpAny_tryCatch (W.item (j + 1) s _ _ lt hst fun v g tk vP st1 kk=>?_))
  have S1:=kk S _ sw hS
  have kp1:Kept h0 g N:=fun b o hb e=>kk b o (low hb).1 (kp b o hb e)
  show wpAny _ A.in1 (tryCatch (holding [v,v] (richCompare .Lt v best >>= _)) _ >>= _) _ _ _
  refine Γa (wpAny_tryCatch (Γg (Γa (C (j + 1) (argBest bt j) v best _ _ _ kp1 vP hV (Γa (Γg (wpAny_truthy_bool (Γa (wpAny_letGo (Γb ?_))))))))))
  cases hb:bt (j + 1) (argBest bt j) with
  | true =>
   simp only [if_true]; refine Γa (wpAny_updateSeq S1 rfl (Γa (wpAny_letGo ?_))); rw [nm]
   refine Γb ⟨plainId_quiet F.plain_min_loop _,ih (j + 1) _ v _ (by lia) lt (W.frame _ _ _ st1 fun b bf o e=>(Γf _ _ (fun h:S=b=>sf (by rw [h]; exact bf))).trans e) (by simp only [argBest,hb,if_true]; exact vP)
    (fun b o l e=>(Γf _ _ (Ne.symm (low l).2)).trans (kp1 b o l e)) (Heap.get?_update_self _ S1 rfl) fun v' g' tk' p' k'=>?_⟩
   exact hR v' g' tk' p' fun b o c1 c2 e=>k' b o c1 c2 ((Γf _ _ (Ne.symm c2)).trans (kk b o c1 e))
  | false =>
   simp only [Bool.false_eq_true,if_false]; refine Γa (wpAny_letGo ?_); rw [nm]
   refine Γb ⟨plainId_quiet F.plain_min_loop _,ih (j + 1) _ best c (by lia) lt st1 (by simp only [argBest,hb,Bool.false_eq_true,if_false]; exact hV) kp1 S1 fun v' g' tk' p' k'=>?_⟩
   exact hR v' g' tk' p' fun b o c1 c2 e=>k' b o c1 c2 (kk b o c1 e)
theorem b1g (W:Walks P w A.in1 it fp wr n V St) (C:c7v P w A.in1 V bt h0 N) (sf:S ∉ fp) (nw:∀ b∈wr,N≤b) (nS:N≤S) (hn:0 < n) {s:Shared} {c:Nat} (hst:St 0 s.heap) (kp:Kept h0 s.heap N)
  (hS:s.heap.get? S=some { cls:=.type "list",dict:=none,data:=.seq #[] c,slots:=#[] })
  (hR:∀ v h' tk,V (argBest bt (n - 1)) v→(∀ b o,b ∉ wr→b≠S→s.heap.get? b=some o→h'.get? b=some o)→R (.ok (.ret v)) { s with heap:=h',toks:=tk }):codeAny (model P w) A (.builtin "min.loop" ⟨[.ref it,.none,.ref S],[]⟩) R s:=by
 have sw:S ∉ wr:=fun h=>sf (W.sub _ h)
 have nm:(toString "min"++toString ".loop":String) = "min.loop":=by decide
 have low:∀ {b:Addr},b < N→b ∉ wr∧b≠S:=fun {b} hb=>⟨fun z=>absurd (nw b z) (Nat.not_le.mpr hb),fun z=>absurd nS (by rw [← z]; exact Nat.not_le.mpr hb)⟩
 refine codeAny_builtin F.entry_min_loop ?_; rw [Around.under_plainId F.plain_min_loop _]
 show wpAny _ A.in1 (seqItems? (.ref S) >>= _) _ _ s; refine Γa (wpAny_seqItems hS rfl ?_)
 show wpAny _ A.in1 (tryCatch (pyNext (.ref it)) _ >>= _) _ _ s; refine Γa (wpAny_tryCatch (W.item 0 s _ _ hn hst fun v g tk vP st1 kk=>?_))
 have S1:=kk S _ sw hS
 show wpAny _ A.in1 (updateSeq S (fun _=>#[v,v]) >>= _) _ _ _; refine Γa (wpAny_updateSeq S1 rfl ?_); rw [nm]
 refine Γb ⟨plainId_quiet F.plain_min_loop _,b4j W C sf nw nS _ 0 _ v _ rfl hn (W.frame _ _ _ st1 fun b bf o e=>(Γf _ _ (fun h:S=b=>sf (by rw [h]; exact bf))).trans e) vP
  (fun b o l e=>(Γf _ _ (Ne.symm (low l).2)).trans (kk b o (low l).1 (kp b o l e))) (Heap.get?_update_self _ S1 rfl) fun v' g' tk' p' k'=>?_⟩
 exact hR v' g' tk' p' fun b o c1 c2 e=>k' b o c1 c2 ((Γf _ _ (Ne.symm c2)).trans (kk b o c1 e))
end
section
variable {P:Program} {w:World} {A:Around} {E:Value→Shared→Prop} {s:Shared}
theorem a7j {l:Addr} {xs:Array Value} {bt:Nat→Nat→Bool} {Q:Value→Shared→Prop} (hh:A.in1.handled=none) (hl:s.heap.IsList l xs) (hn:0 < xs.size) (C:c7v P w A.in1 (fun i v=>xs[i]?=some v) bt s.heap s.heap.objs.size)
  (K:∀ v h' tk,xs[argBest bt (xs.size - 1)]?=some v→(∀ b o,s.heap.get? b=some o→h'.get? b=some o)→Q v { s with heap:=h',toks:=tk }):wpAny (model P w) A (call (.builtin "min") [.ref l]) Q E s:=by
 have nm:(toString "min"++toString ".loop":String) = "min.loop":=by decide
 have ll:l < s.heap.objs.size:=by obtain ⟨_,e,_⟩:=hl; exact Heap.lt_size e
 refine call_function_tree F.kind_min F.plain_min F.entry_min (F.args_min1 _) ?_
 show wpAny _ A.in1 (Builtin.Builtins.bindParams "min" ["key","default"] 0 ⟨[],[]⟩ >>= _) _ _ s
 refine Γa (wpAny_of_eq (show Builtin.Builtins.bindParams "min" ["key","default"] 0 ⟨[],[]⟩=pure [none,none] from rfl) (Γa (Γb (Γa (wpAny_pyIter_list hl ?_)))))
 have W:=Walks.list (prog:=P) (w:=w) hh s.heap.objs.size l (Nat.ne_of_lt ll) xs
 refine Γa (wpAny_newObj_type ?_)
 rw [nm]
 have z1:(s.heap.push { cls:=.type "list_iterator",data:=.fields #[.ref l,.int 0 0] }).objs.size=s.heap.objs.size + 1:=Heap.size_push ..
 refine Γb ⟨plainId_quiet F.plain_min_loop _,b1g (S:=(s.heap.push { cls:=.type "list_iterator",data:=.fields #[.ref l,.int 0 0] }).objs.size) W C ?_ ?_ ?_ hn ⟨⟨_,Γc _ (Heap.get?_push_size _ rfl),rfl,rfl⟩,(hl.push _).push _⟩
  (fun b o hb e=>Γc _ (Γc _ e)) (Heap.get?_push_size _ rfl) fun v h' tk hv hk=>?_⟩
 ·rw [z1]; intro z; simp only [List.mem_cons,List.not_mem_nil,or_false] at z; rcases z with z | z
  ·exact absurd z (Nat.ne_of_gt (Nat.lt_succ_self _))
  ·exact absurd z (Nat.ne_of_gt (Nat.lt_succ_of_lt ll))
 ·intro b hb; simp at hb; rw [hb]; exact Nat.le_refl _
 ·rw [z1]; exact Nat.le_succ _
 ·refine K v h' tk hv fun b o e=>hk b o (by simp; exact Nat.ne_of_lt (Heap.lt_size e)) ?_ (Γc _ (Γc _ e))
  rw [z1]; exact Nat.ne_of_lt (Nat.lt_succ_of_lt (Heap.lt_size e))
end
end L2
end
section
namespace L2
open PySem PySem.Spec PyProof.Rows
theorem b3h {α β:Type} {f g:α→Option β} {l:List α} (h:∀ x∈l,f x=g x):l.filterMap f=l.filterMap g:=by
 induction l with
 | nil=>rfl
 | cons a l ih =>
  rw [List.filterMap_cons,List.filterMap_cons,h a (List.mem_cons_self ..),ih fun x hx=>h x (List.mem_cons_of_mem _ hx)]
theorem b0q {α:Type} (m:List α):(List.range m.length).filterMap (fun k=>m.reverse[m.length - 1 - k]?)=m:=by
 induction m with
 | nil=>rfl
 | cons a m ih =>
  rw [List.length_cons,List.range_succ_eq_map,List.filterMap_cons,List.filterMap_map]
  have e0:(a :: m).reverse[m.length + 1 - 1 - 0]?=some a:=by
   rw [List.reverse_cons,List.getElem?_append_right (by simp)]; simp
  rw [e0]
  refine congrArg (a :: ·) ?_
  refine Eq.trans ?_ ih
  refine b3h fun k hk=>?_
  have hk:k < m.length:=by simpa using hk
  show (a :: m).reverse[m.length + 1 - 1 - (k + 1)]?=_
  rw [List.reverse_cons,List.getElem?_append_left (by simp; lia)]
  congr 1
  lia
theorem b0p (xs:Array Value):((List.range xs.size).filterMap fun (m:Nat)=>xs[(((xs.size:Int) - 1) + (m:Int) * (-1)).toNat]?).toArray=xs.toList.reverse.toArray:=by
 have:=b0q xs.toList.reverse
 rw [List.reverse_reverse,List.length_reverse,Array.length_toList] at this
 rw [← this]
 congr 1
 refine b3h fun k hk=>?_
 have hk:k < xs.size:=by simpa using hk
 rw [Array.getElem?_toList]
 congr 1
 lia
section
variable {prog:Program} {w:World} {A:Around} {E:Value→Shared→Prop} {s:Shared}
theorem a6e {sl:Addr} {t:Tok} {n:Nat} {Q:Int×Int×Nat→Shared→Prop} (hs:s.heap.IsSliceOf sl .none .none (.int (-1) t))
  (h:Q ((n:Int) - 1,-1,n) s):wpAny (model prog w) A (Builtin.Slice.sliceApplied (.ref sl) (pure (n:Int))) Q E s:=by
 obtain ⟨os,hos,hcs,hds⟩:=id hs
 unfold Builtin.Slice.sliceApplied Builtin.Slice.sliceFields
 refine Γa (Γa (wpAny_field hos hds (x:=.none) rfl (Γa (wpAny_field hos hds (x:=.none) rfl (Γa (wpAny_field hos hds (x:=.int (-1) t) rfl (Γb ?_)))))))
 refine Γa (slicePart_int ?_)
 show wpAny _ _ (if ((-1:Int) == 0)=true then _ else _) _ _ s
 rw [if_neg (by decide)]
 refine Γa (slicePart_none (Γa (slicePart_none (Γa (Γb ?_)))))
 show wpAny _ _ (pure ((n:Int) - 1,(-1:Int),Builtin.Slice.slicePlaces ((n:Int) - 1) (-1) (-1))) _ _ s
 have e:Builtin.Slice.slicePlaces ((n:Int) - 1) (-1) (-1)=n:=by
  unfold Builtin.Slice.slicePlaces
  rw [if_neg (by decide)]
  split
  ·rw [show (- -1:Int)=1 by decide,Int.ediv_one]; lia
  ·lia
 rw [e]
 exact Γb h
theorem b0r {t sl:Addr} {items:Array Value} {tk:Tok} {Q:Value→Shared→Prop} (ht:IsTup s.heap t items) (hs:s.heap.IsSliceOf sl .none .none (.int (-1) tk))
  (h:Q (.ref s.heap.objs.size) { s with heap:=s.heap.push { cls:=.type "tuple",data:=.seq items.toList.reverse.toArray } })
  (hsz:items.size≤sizeLine):wpAny (model prog w) A (getItem (.ref t) (.ref sl)) Q E s:=by
 have htake:sizeOk (.seq items.toList.reverse.toArray):=by
  show items.toList.reverse.toArray.size≤sizeLine
  rw [List.size_toArray,List.length_reverse,Array.length_toList]
  exact hsz
 obtain ⟨os,hos,hcs,hds⟩:=id hs
 have hTs:s.TypeIs (.ref sl) "slice":=⟨os,hos,hcs⟩
 unfold getItem
 try with_reducible refine Γg ?_
 first | refine Γa (Γb ?_) | skip
 refine Γa (wpAny_sequenceKey ht.typeIs (by decide) (Γa (wpAny_callSpecial?_slot (name:=Γe "__getitem__") ht.typeIs PyProof.Rows.slot_tuple_getitem (wpAny_call_entry PyProof.Rows.slot_tuple_getitem ht.typeIs entry_tuple_getitem ?_ (args_tuple_getitem _ _)))))
 show wpAny _ _ (Builtin.Tuple.tupleItemsOf (.ref t) >>= _) _ _ s; refine Γa (tupleItemsOf_ ht (Γa (wpAny_typeOf hTs ?_)))
 rw [if_pos (by decide)]; refine Γa (a6e hs ?_)
 show wpAny _ _ (if (((items.size:Int) - 1) == 0 && (-1:Int) == 1 && items.size == items.size)=true then _ else _) _ _ s
 rw [if_neg (by simp),b0p]
 first
  | exact Γa (m:=Builtin.Tuple.tupleExact _) (wpAny_newObj_type (Γb ⟨_,rfl,Γb h⟩) htake)
  | exact Γa (m:=Builtin.Tuple.tupleExact _) (wpAny_newObj_type (Γa (Γb (Γb ⟨_,rfl,Γb h⟩))) htake)
  | exact Γa (Γa (m:=Builtin.Tuple.tupleExact _) (wpAny_newObj_type (Γb (Γb ⟨_,rfl,Γb h⟩)) htake))
  | exact Γa (Γa (m:=Builtin.Tuple.tupleExact _) (wpAny_newObj_type (Γb ⟨_,rfl,Γb h⟩) htake))
end
section
variable {X:Cx} {a e k:Expr} {ta te tk:TE} {pos p2:Pos}
theorem b6w (he:PE X e te) (hk:PE X k tk):PE X (.Subscript e (.Slice none none (some k) p2) pos) (fun σ H Q=>te σ H fun x H1=>tk σ H1 fun y H2=>y=.int (-1)∧∃ a xs,x=.ref a∧SqT X.K H2 a xs∧∀ p,H2 p=none→Q (.ref p) (upd H2 p (.tup xs.reverse))):=by
 intro pins s σ H Q I h
 refine Subscript_ (thn (he pins s σ H _ I h) fun v s1 ⟨x,H1,I1,r1,q1⟩=>?_)
 refine wpAny_Slice ?_
 rw [evalPart_none]
 refine Γb (Γb ?_)
 rw [evalPart_some]
 refine thn (hk pins s1 σ H1 _ I1 q1) fun vk s2 ⟨y,H2,I2,pk,q2⟩=>?_
 obtain ⟨rfl,a,xs,rfl,hx,q⟩:=q2
 obtain ⟨tk,rfl⟩:=pk
 cases r1
 have I3:Inv X pins σ H2 { s2 with heap:=s2.heap.push { cls:=.type "slice",data:=.fields #[.none,.none,.int (-1) tk] } }:=I2.kept (t':=s2.toks) fun b ob q=>Γc _ q
 obtain ⟨its,r,ht,hz⟩:=I3.tuple hx
 have hlen:its.toArray.size=xs.length:=by rw [List.size_toArray]; exact r.length.symm
 refine tail_any (ops:=[.ref a,.ref s2.heap.objs.size]) ht.typeIs PyProof.Rows.slot_tuple_getitem.lookup (b0r ht (Heap.IsSliceOf.new ..) ?_ (by rw [hlen]; exact hz)) (by with_unfolding_all rfl)
 refine ⟨.ref _,_,I3.laid (t':=s2.toks) (o:=.tup xs.reverse) (fun b ob q=>Γc _ q) (Nat.le_refl _) ?_,rfl,q _ (I3.hok.fresh (Nat.le_refl _))⟩
 exact ⟨by rw [List.length_reverse]; exact hz,_,r.reverse,IsTup.new _ _⟩
theorem RelV.bool_iff {x:V} {v:Value} {b:Bool} (r:RelV x v):(v == Value.bool b)=decide (x=.bl b):=by
 cases x with
 | non=>cases r; rfl
 | bl c=>cases r; cases c <;> cases b <;> rfl
 | int _=>obtain ⟨t,rfl⟩:=r; rfl
 | str _=>obtain ⟨t,rfl⟩:=r; rfl
 | byt _=>obtain ⟨t,rfl⟩:=r; rfl
 | flt _=>obtain ⟨t,rfl⟩:=r; rfl
 | ref _=>cases r; rfl
 | ty _=>cases r; rfl
theorem a6o {M:Model} {A:Around} {E:Value→Shared→Prop} {s:Shared} {Q:Value→Shared→Prop} {x:V} {v:Value} {b:Bool} (r:RelV x v) (h:Q (.bool (!decide (x=.bl b))) s):wpAny M A (compareOp .IsNot v (.bool b)) Q E s:=by
 rw [← r.bool_iff] at h
 cases x with
 | bl c=>cases r; exact Γb h
 | non=>cases r; exact Γb h
 | ref _=>cases r; exact Γb h
 | ty _=>cases r; exact Γb h
 | _=>obtain ⟨t,rfl⟩:=r; exact Γb h
theorem c5o {b:Bool} {j pos'} (ha:PE X a ta):PC X .IsNot a (.Constant (.bool b) j pos') (fun σ H Q=>ta σ H fun x H1=>Q (.bl (!decide (x=.bl b))) H1):=by
 intro pins s σ H Q I h
 refine thn (ha pins s σ H _ I h) fun v s1 ⟨x,H1,I1,r1,q1⟩=>?_
 exact Constant_bool (a6o r1 ⟨.bl _,H1,I1,rfl,q1⟩)
end
end L2
end
section
namespace L2
open PySem PySem.Spec PyProof.Rows
def b1s (cells:List (Str×Addr)):List (Str×NameKind)→List (Str×Addr)→List (Str×Addr)
 | [],acc=>acc
 | (n,k) :: r,acc=>if (k == NameKind.free)=true then b1s cells r ((n,(cells.lookup n).getD 0) :: acc) else b1s cells r acc
theorem b3p {env:Env}:∀ (names:List (Str×NameKind)) (acc:List (Str×Addr)),(∀ p∈names,p.2=.free→∃ c,env.cells.lookup p.1=some c) →
  (forIn names acc fun (x:Str×NameKind) (cs:List (Str×Addr))=>if (x.2 == NameKind.free)=true then cellOf env x.1 >>= fun c=>pure (ForInStep.yield ((x.1,c) :: cs)) else pure (ForInStep.yield cs):Sem (List (Str×Addr)))=pure (b1s env.cells names acc)
 | [],acc,_=>rfl
 | (n,k) :: r,acc,h=>by
  have ih:=b3p (env:=env) r
  rw [List.forIn_cons]
  unfold b1s
  by_cases hk:(k == NameKind.free)=true
  ·obtain ⟨c,hc⟩:=h (n,k) List.mem_cons_self (by simpa using hk)
   have hcell:cellOf env n=pure c:=by
    have hc':env.cells.lookup n=some c:=hc
    unfold cellOf; rw [hc']
   have hc':env.cells.lookup n=some c:=hc
   simp only [hk,if_true,hcell,hc',Option.getD_some,pure_bind]
   exact ih _ fun p hp=>h p (List.mem_cons_of_mem _ hp)
  ·simp only [hk,if_false,pure_bind,Bool.false_eq_true]
   exact ih _ fun p hp=>h p (List.mem_cons_of_mem _ hp)
theorem a4u {scope:Scope} {env:Env} (h:∀ p∈scope.names,p.2=.free→∃ c,env.cells.lookup p.1=some c):closureFor scope env=pure (b1s env.cells scope.names []):=by
 have q:=b3p (env:=env) scope.names [] h
 unfold closureFor
 first
  | exact (by rw [q]; rfl)
  | (simp only [bind_pure]; exact q)
theorem a3s {cells:List (Str×Addr)} {x:Str} {c:Addr}:∀ (names:List (Str×NameKind)) (acc:List (Str×Addr)),(∀ p∈names,p.2=.free→∃ c,cells.lookup p.1=some c)→(∀ y d,acc.lookup y=some d→cells.lookup y=some d) →
  (b1s cells names acc).lookup x=some c→cells.lookup x=some c
 | [],acc,_,ha,h=>ha x c h
 | (n,k) :: r,acc,hn,ha,h=>by
  unfold b1s at h
  split at h
  ·rename_i hk
   refine a3s r _ (fun p hp=>hn p (List.mem_cons_of_mem _ hp)) (fun y d hy=>?_) h
   rw [List.lookup_cons] at hy
   obtain ⟨c',hc'⟩:=hn (n,k) List.mem_cons_self (by simpa using hk)
   have hc'':cells.lookup n=some c':=hc'
   split at hy
   ·rename_i hyn
    have e:y=n:=by simpa using hyn
    subst e
    rw [hc''] at hy ⊢
    exact hy
   ·exact ha y d hy
  ·exact a3s r _ (fun p hp=>hn p (List.mem_cons_of_mem _ hp)) ha h
theorem a5h {cells:List (Str×Addr)} {x:Str}:∀ (names:List (Str×NameKind)) (acc:List (Str×Addr)),((x,NameKind.free)∈names ∨ ∃ c,acc.lookup x=some c)→∃ c,(b1s cells names acc).lookup x=some c
 | [],acc,h=>by
  rcases h with h | h
  ·simp at h
  ·exact h
 | (n,k) :: r,acc,h=>by
  unfold b1s
  split
  ·refine a5h r _ ?_
   by_cases hx:x=n
   ·subst hx
    exact .inr ⟨(cells.lookup x).getD 0,by rw [List.lookup_cons]; simp⟩
   ·rcases h with h | ⟨c,h⟩
    ·rcases List.mem_cons.mp h with h | h
     ·cases h; exact absurd rfl hx
     ·exact .inl h
    ·refine .inr ⟨c,?_⟩
     rw [List.lookup_cons]
     have:(x == n)=false:=by simpa using hx
     rw [this]
     exact h
  ·rename_i hk
   refine a5h r _ ?_
   rcases h with h | h
   ·rcases List.mem_cons.mp h with h | h
    ·cases h; simp at hk
    ·exact .inl h
   ·exact .inr h
theorem a3c {env : Env} {x : Str} : ∀ {names : List (Str × NameKind)}, (∀ p ∈ names, p.2 ≠ .cell) →
    ((names.map fun (n, k) => if (k == NameKind.free && env.scope.kind == .function && env.kindOf n == some .cell) then (n, NameKind.cell) else (n, k)).lookup x = some .cell ∨
     (names.map fun (n, k) => if (k == NameKind.free && env.scope.kind == .function && env.kindOf n == some .cell) then (n, NameKind.cell) else (n, k)).lookup x = some .free) → (x, NameKind.free) ∈ names
  | [], _, h => by rcases h with h | h <;> simp at h
  | (n, k) :: r, hc, h => by
    have ih := @a3c env x r fun p hp => hc p (List.mem_cons_of_mem _ hp)
    rw [List.map_cons] at h
    by_cases hk : (k == NameKind.free && env.scope.kind == .function && env.kindOf n == some .cell) = true
    · simp only [hk, if_true] at h
      cases hx : x == n with
      | true =>
        have e : x = n := by simpa using hx
        have : k = .free := by simp only [Bool.and_eq_true] at hk; simpa using hk.1.1
        rw [e, this]; exact List.mem_cons_self
      | false =>
        simp only [List.lookup_cons, hx] at h
        exact List.mem_cons_of_mem _ (ih h)
    · simp only [hk, if_false, Bool.false_eq_true] at h
      cases hx : x == n with
      | true =>
        have e : x = n := by simpa using hx
        simp only [List.lookup_cons, hx] at h
        rcases h with h | h
        · exact absurd (Option.some.inj h) (hc (n, k) List.mem_cons_self)
        · rw [e, ← Option.some.inj h]; exact List.mem_cons_self
      | false =>
        simp only [List.lookup_cons, hx] at h
        exact List.mem_cons_of_mem _ (ih h)
def d2t (x:Str):Str:=Γe "#"++x
def a7y (own:List Str) (x:Str):Str:=if own.contains x then d2t x else x
def cxC (X:Cx) (scope:Scope) (own:List Str) (fp:List Addr) (C:Addr) (s:Shared) (H:Hp):Cx :=
 { X with N:=X.N.map (a7y own)++own,s₀:=s,H₀:=H,env:=compEnvC scope (b1s X.env.cells scope.names []) C X.env,outer:=X.stack,stack:=X.stack,ex:=fp,fn:=fun _=>false,pn:=[],xe:=fun _ _=>False }
structure CScope (X:Cx) (scope:Scope) (own:List Str):Prop where
 kind:scope.kind=.function
 nocell:∀ p∈scope.names,p.2≠.cell
 names:∀ p∈scope.names,p.2=.local→scope.names.lookup p.1=some .local
 free:∀ p∈scope.names,p.2=.free→X.env.kindOf p.1=some .cell ∨ X.env.kindOf p.1=some .free
 apart:∀ x∈X.N,own.contains x=false→scope.names.lookup x≠some .local
 hid:∀ x∈X.N,own.contains x=true→scope.names.lookup (d2t x)=none
section
variable {X:Cx}
theorem a4a {env:Env} {x:Str}:∀ {names:List (Str×NameKind)},
  (names.map fun (n,k)=>if (k == NameKind.free && env.scope.kind == .function && env.kindOf n == some .cell) then (n,NameKind.cell) else (n,k)).lookup x=some .local→names.lookup x=some .local
 | [],h=>by simp at h
 | (n,k) :: r,h=>by
  have ih:=@a4a env x r
  rw [List.map_cons] at h
  rw [List.lookup_cons]
  by_cases hk:(k == NameKind.free && env.scope.kind == .function && env.kindOf n == some .cell)=true
  ·simp only [hk,if_true] at h
   cases hx:x == n with
   | true=>simp [List.lookup_cons,hx] at h
   | false =>
    simp only [List.lookup_cons,hx] at h
    exact ih h
  ·simp only [hk,if_false,Bool.false_eq_true] at h
   cases hx:x == n with
   | true=>simpa [List.lookup_cons,hx] using h
   | false =>
    simp only [List.lookup_cons,hx] at h
    exact ih h
theorem a9c {env:Env} {scope:Scope} {x:Str} (h:scope.names.lookup x=none):(relabel scope env).names.lookup x=none:=by
 unfold relabel
 simp only
 generalize scope.names=l at h
 induction l with
 | nil=>rfl
 | cons p r ih =>
  obtain ⟨n,k⟩:=p
  rw [List.lookup_cons] at h
  cases e:(x == n) with
  | true=>rw [e] at h; cases h
  | false =>
   rw [e] at h
   rw [List.map_cons]
   split
   ·rw [List.lookup_cons,e]; exact ih h
   ·rw [List.lookup_cons,e]; exact ih h
theorem b3c {scope:Scope} {own:List Str} {fp:List Addr} {pins:List (Addr×Obj)} {σ:St} {H:Hp} {s:Shared} {h4:Heap} {t4:Nat} (I:Inv X pins σ H s) (SC:CScope X scope own) (hc:X.calm=true)
  (hf:∀ b∈fp,b1w X pins H b) (hfo:∀ b∈fp,∃ o,s.heap.get? b=some o)
  (hns:h4.Ns s.heap.objs.size (fun _=>none)) (hk:∀ b o,s.heap.get? b=some o→h4.get? b=some o) :
  Inv (cxC X scope own fp s.heap.objs.size s H) [] (σ++List.replicate own.length none) H { s with heap:=h4,toks:=t4 }:=by
 have fr:∀ p∈scope.names,p.2=.free→∃ c,X.env.cells.lookup p.1=some c:=fun p hp hq=>I.ok.has p.1 (SC.free p hp hq)
 have cl:∀ {x:Str} {c:Addr},(b1s X.env.cells scope.names []).lookup x=some c→X.env.cells.lookup x=some c:=fun h=>a3s scope.names [] fr (fun y d hy=>by simp at hy) h
 have clt:∀ {x:Str} {c:Addr},X.env.cells.lookup x=some c→c < s.heap.objs.size:=fun h=>by obtain ⟨v,q⟩:=I.cell _ _ h; exact q.lt
 refine ⟨⟨I.ok.mod,SC.kind,I.ok.glob,I.ok.blt,Nat.le_refl _,fun x y c h1 h2=>I.ok.inj x y c (cl h1) (cl h2),fun x hx=>?_,fun x c h=>absurd h (by simp [cxC]),fun _=>I.ok.hd hc,I.ok.frames,.inl rfl,fun b hb=>?_,
   fun b o e=>I.bs b o e,Nat.le_trans I.ok.bsz I.sz,fun b o e hb=>?_,fun b hb hz=>?_,I.stack,I.stkFree⟩,
  rfl,I.bare,Un.kept hk,⟨_,hns,fun i x v e1 e2 e3=>?_⟩,fun x c h=>?_,I.fresh,fun x c h=>I.freeC x c (cl h),fun p hp=>absurd (show p∈([]:List (Addr×Obj)) from hp) (by simp),I.hok.kept hk,?_⟩
 ·have hx:(relabel scope X.env).names.lookup x=some .cell ∨ (relabel scope X.env).names.lookup x=some .free:=hx
  exact a5h scope.names [] (.inl (a3c SC.nocell hx))
 ·have hb:b∈fp:=hb
  obtain ⟨o,ho⟩:=hfo b hb
  exact ⟨Nat.ne_of_lt (Heap.lt_size ho),fun x c h=>(hf b hb).2.2.2.2.1 x c (cl h)⟩
 ·have hb:b∈fp:=hb
  have e:X.base.get? b=some o:=e
  rcases (hf b hb).2.2.2.1 with z | z
  ·exact I.ok.noex b o e z
  ·exact absurd (Nat.lt_of_lt_of_le (Heap.lt_size e) (Nat.le_trans I.ok.bsz z)) (Nat.lt_irrefl _)
 ·have hb:b∈fp:=hb
  have hz:b∈frs X.stack:=hz
  rcases List.mem_cons.mp (I.stkSub b hz) with z | z
  ·exact (hf b hb).2.1 z
  ·exact (hf b hb).2.2.1 z
 ·have e1:(X.N.map (a7y own)++own)[i]?=some x:=e1
  have e3:Vis (relabel scope X.env) x:=e3
  have hi:i < σ.length:=by
   by_cases hi:i < σ.length
   ·exact hi
   ·rw [List.getElem?_append_right (by lia),List.getElem?_replicate] at e2
    split at e2 <;> cases e2
  rw [List.getElem?_append_left hi] at e2
  rw [List.getElem?_append_left (by rw [List.length_map,← I.len]; exact hi),List.getElem?_map] at e1
  obtain ⟨y,e1,ey⟩:=Option.map_eq_some_iff.mp e1
  have hny:own.contains y=false:=by
   cases hy:own.contains y with
   | false=>rfl
   | true =>
    exfalso
    have hh:=SC.hid y (List.mem_of_getElem? e1) hy
    have ex:x=d2t y:=by rw [← ey]; unfold a7y; rw [if_pos hy]
    rw [← ex] at hh
    have e4:(relabel scope X.env).names.lookup x=none:=a9c hh
    rcases e3 with z | z | z <;> (rw [e4] at z; cases z)
  have ex:x=y:=by rw [← ey]; unfold a7y; rw [if_neg (by rw [hny]; exact Bool.false_ne_true)]
  rw [← ex] at e1 hny
  have hnl:(relabel scope X.env).names.lookup x≠some .local:=fun z=>SC.apart x (List.mem_of_getElem? e1) hny (a4a z)
  have hv:(relabel scope X.env).names.lookup x=some .cell ∨ (relabel scope X.env).names.lookup x=some .free:=by
   rcases e3 with z | z | z
   ·exact absurd z hnl
   ·exact .inl z
   ·exact .inr z
  have hm:=a3c SC.nocell hv
  have hkx:=SC.free (x,.free) hm rfl
  obtain ⟨m,hn,hl⟩:=I.loc
  have hkx':X.env.scope.names.lookup x=some .cell ∨ X.env.scope.names.lookup x=some .free:=hkx
  obtain ⟨u,r,l⟩:=hl i x v e1 e2 (hkx'.elim (fun z=>.inr (.inl z)) fun z=>.inr (.inr z))
  refine ⟨u,r,.inr ⟨hv,?_⟩⟩
  obtain ⟨c,hcl⟩:=a5h (cells:=X.env.cells) scope.names [] (.inl hm)
  refine ⟨c,hcl,?_⟩
  rcases l with ⟨z,_⟩ | ⟨z,c',hc',q⟩
  ·rcases hkx with y | y <;> (rw [z] at y; cases y)
  ·have:=cl hcl
   rw [hc'] at this; cases this
   obtain ⟨o,ho,hd⟩:=q
   exact ⟨o,hk _ _ ho,hd⟩
 ·obtain ⟨v,o,ho,hd⟩:=I.cell x c (cl h)
  exact ⟨v,o,hk _ _ ho,hd⟩
 ·show (σ++List.replicate own.length none).length=(X.N.map (a7y own)++own).length
  rw [List.length_append,List.length_append,List.length_map,List.length_replicate,I.len]
end
def a7p (ifs:List Expr) (env:Env):Sem Bool :=
 forIn ifs true fun c r=>if r=true then do let ok ← isTrue c env (eval c env); pure (ForInStep.yield ok) else pure (ForInStep.yield r)
def PTs (X:Cx) (ifs:List Expr) (t:TT):Prop :=
 ∀ (pins:List (Addr×Obj)) (s:Shared) (σ:St) (H:Hp) (Q:Bool→Hp→Prop),Inv X pins σ H s→t σ H Q→wpAny (model X.prog X.w) X.A (a7p ifs X.env) (TP X pins σ Q) X.xe s
theorem a5i {M:Model} {A:Around} {E:Value→Shared→Prop} {env:Env} {Q:Bool→Shared→Prop} {s:Shared} (h:Q false s):∀ ifs:List Expr,
  wpAny M A (forIn ifs false fun c r=>if r=true then do let ok ← isTrue c env (eval c env); pure (ForInStep.yield ok) else pure (ForInStep.yield r)) Q E s
 | []=>Γb h
 | c :: r=>by
  rw [List.forIn_cons]
  simp only [Bool.false_eq_true,if_false]
  exact Γa (Γb (a5i h r))
section
variable {X:Cx}
def d4a:TT:=fun _ H Q=>Q true H
theorem b6m:PTs X [] d4a:=fun _ _ _ H _ I h=>Γb ⟨H,I,h⟩
theorem c0o {c:Expr} {r:List Expr} {t u:TT} (h1:PT X c t) (h2:PTs X r u):PTs X (c :: r) (fun σ H Q=>t σ H fun b H1=>if b=true then u σ H1 Q else Q false H1):=by
 intro pins s σ H Q I h
 unfold a7p
 rw [List.forIn_cons]
 simp only [if_true]
 refine Γa (Γa (thn (h1 pins s σ H _ I h) fun b s1 ⟨H1,I1,q1⟩=>Γb ?_))
 cases b with
 | true =>
  rw [if_pos rfl] at q1
  exact h2 pins s1 σ H1 Q I1 q1
 | false =>
  rw [if_neg Bool.false_ne_true] at q1
  exact a5i ⟨H1,I1,q1⟩ r
end
section
variable {prog:Program} {w:World} {A:Around} {R:Result→Shared→Prop} {s:Shared}
theorem b4u {elt target iter:Expr} {ifs:List Expr} {scope:Scope} {pos:Pos} {it acc:Value} {env:Env} (I:Nat→Shared→Prop)
  (turn:∀ n s,I n s→wpAny (model prog w) A (pyNext it) (fun r s1=>match r with
   | none=>R (.ok .next) s1
   | some v=>wpAny (model prog w) A (letOwnedTupleGo target it v) (fun _ s2=>wpAny (model prog w) A (assign target env v) (fun _ s3=>wpAny (model prog w) A (a7p ifs env) (fun ok s4 =>
     if ok=true then wpAny (model prog w) A (eval elt env) (fun x s5=>wpAny (model prog w) A (call (.builtin "list.append") [acc,x]) (fun _ s6=>∃ m,m < n∧I m s6) (fun _ _=>False) s5) (fun _ _=>False) s4
     else ∃ m,m < n∧I m s4) (fun _ _=>False) s3) (fun _ _=>False) s2) (fun _ _=>False) s1) (fun _ _=>False) s)
  (n:Nat) (h:I n s):codeAny (model prog w) A (.compLoop (.ListComp elt [⟨target,iter,ifs,0⟩] scope pos) 0 it acc env) R s:=by
 refine codeAny_loop rfl I (fun n s hI=>?_) n h
 show wpAny _ A ((compTurn (.ListComp elt [⟨target,iter,ifs,0⟩] scope pos) 0 it acc env).onRaise (fun x=>do noteFrame x env; theTreesLotGoes x)) _ _ s
 refine wpAny_noted ?_
 rw [compTurn_list]
 have no:∀ (e:Value) (s':Shared),(fun (_:Value) (_:Shared)=>False) e s'→notedBy (model prog w) A env (fun e s'=>R (.error e) s') e s':=fun _ _ z=>z.elim
 refine Γa (wpAny_standAt (Γa (wpAny_mono (turn n s hI) (fun r s1 h1=>?_) no)))
 cases r with
 | none=>exact Γb h1
 | some v =>
  refine Γa (wpAny_mono h1 (fun _ s2 h2=>Γa (wpAny_mono h2 (fun _ s3 h3=>Γa (wpAny_mono h3 (fun ok s4 h4=>?_) no)) no)) no)
  cases ok with
  | true =>
   rw [if_pos rfl] at h4
   simp only [if_true]
   exact Γa (Γa (wpAny_mono h4 (fun x s5 h5=>Γa (wpAny_mono h5 (fun _ s6 h6=>Γb (Γb ⟨rfl,h6⟩)) no)) no))
  | false =>
   rw [if_neg Bool.false_ne_true] at h4
   simp only [Bool.false_eq_true,if_false]
   first
    | exact Γb ⟨rfl,h4⟩
    | exact Γa (Γb (Γb ⟨rfl,h4⟩))
end
def Wk (σ σ2:St):Prop:=σ2.length=σ.length∧∀ (j:Nat) (v:V),σ[j]?=some (some v)→σ2[j]?=some (some v)
def c4f (wi:TI) (g:TG) (tt:TT) (te:TE) (own:Nat):TE:=fun σ H Q=>wi σ H fun J H1=>∀ acc,H1 acc=none→∃ W:Nat→Nat→Hp→Prop,(∃ m,W 0 m (upd H1 acc (.lst [])))∧∀ i m H,W i m H →
 (J.stop i H∧Q (.ref acc) H) ∨ (J.go i H∧∀ x H',J.yld i H x H'→g x (σ++List.replicate own none) H' fun σ2 H2=>Wk (σ++List.replicate own none) σ2∧tt σ2 H2 fun b H3 =>
  if b=true then te σ2 H3 fun v H4=>∃ ys,H4 acc=some (.lst ys)∧ys.length < sizeLine∧∃ m',m' < m∧W (i + 1) m' (upd H4 acc (.lst (ys++[v]))) else ∃ m',m' < m∧W (i + 1) m' H3)
section
variable {X:Cx} {elt tg iter:Expr} {ifs:List Expr} {scope:Scope} {own:List Str} {pos:Pos} {wi:TI} {g:TG} {tt:TT} {te:TE}
theorem b3o {pins:List (Addr×Obj)} {σ:St} {H2:Hp} {s2:Shared} {Q:VK} {it:Addr} {fp:List Addr} {tn:Nat→Heap→Prop} {J:It} {RR:Value→Addr→Result→Shared→Prop}
  (hc:X.calm=true) (SC:CScope X scope own)
  (hblock:∀ C s H,PG (cxC X scope own fp C s H) tg g∧PTs (cxC X scope own fp C s H) ifs tt∧PE (cxC X scope own fp C s H) elt te)
  (I2:Inv X pins σ H2 s2) (T:Turn X.prog X.w X.K tg J fp it tn) (st2:tn 0 s2.heap) (f2:∀ b∈fp,b1w X pins H2 b)
  (h:∀ acc,H2 acc=none→∃ W:Nat→Nat→Hp→Prop,(∃ m,W 0 m (upd H2 acc (.lst [])))∧∀ i m H,W i m H →
   (J.stop i H∧Q (.ref acc) H) ∨ (J.go i H∧∀ x H',J.yld i H x H'→g x (σ++List.replicate own.length none) H' fun σ2 H2=>Wk (σ++List.replicate own.length none) σ2∧tt σ2 H2 fun b H3 =>
    if b=true then te σ2 H3 fun v H4=>∃ ys,H4 acc=some (.lst ys)∧ys.length < sizeLine∧∃ m',m' < m∧W (i + 1) m' (upd H4 acc (.lst (ys++[v]))) else ∃ m',m' < m∧W (i + 1) m' H3))
  (hRR:∀ acc C H' m s',Inv X pins σ H' s'→s'.heap.Ns C m→C≠X.env.locals→(∀ x c,X.env.cells.lookup x=some c→c≠C)→s2.heap.objs.size≤C→H' C=none→Q (.ref acc) H'→RR (.ref acc) C (.ok .next) s') {E:Value→Shared→Prop} :
  wpAny (model X.prog X.w) X.A (newList []) (fun acc s3=>wpAny (model X.prog X.w) X.A (newFunctionEnv scope X.env.globals (b1s X.env.cells scope.names []) [] X.env.qual none .none (some X.env)) (fun cenv s4 =>
   codeAny (model X.prog X.w) X.A (.compStart (.ListComp elt [⟨tg,iter,ifs,0⟩] scope pos) 0 (.ref it) acc { cenv with scope:=relabel scope X.env }) (RR acc cenv.locals) s4) E s3) E s2:=by
 have hacc:=I2.fresh
 have I3:Inv X pins σ (upd H2 s2.heap.objs.size (.lst [])) { s2 with heap:=s2.heap.push { cls:=.type "list",data:=.seq ([]:List Value).toArray },toks:=s2.toks }:=I2.lnew .nil (Nat.zero_le _)
 refine wpAny_newObj_type ?_
 obtain ⟨W,⟨m0,w0⟩,turn⟩:=h _ hacc
 generalize hs3:({ s2 with heap:=s2.heap.push { cls:=.type "list",data:=.seq ([]:List Value).toArray },toks:=s2.toks }:Shared)=s3 at I3
 have keep23:∀ b o,s2.heap.get? b=some o→s3.heap.get? b=some o:=fun b o e=>by rw [← hs3]; exact Γc _ e
 have hf3:∀ b∈fp,b1w X pins (upd H2 s2.heap.objs.size (.lst [])) b:=fun b hb=>by
  obtain ⟨o,ho,_⟩:=T.obj _ _ st2 b hb
  exact ⟨by rw [a0e (Nat.ne_of_lt (Heap.lt_size ho))]; exact (f2 b hb).1,(f2 b hb).2⟩
 have st3:tn 0 s3.heap:=T.keep _ _ _ st2 fun b hb o e=>keep23 b o e
 refine wpAny_newFunctionEnv SC.nocell (by intro y hy; simp at hy) (fun h4 hns hsb=>?_) SC.kind
 have hns':h4.Ns s3.heap.objs.size (fun _=>none):=by simpa using hns
 have keep34:∀ b o,s3.heap.get? b=some o→h4.get? b=some o:=fun b o e=>hsb.extBut b o (Nat.ne_of_lt (Heap.lt_size e)) (Γc _ e)
 have I4:=b3c (t4:=s3.toks + ([]:List (Str×Value)).length) I3 SC hc hf3 (fun b hb=>by obtain ⟨o,ho,_⟩:=T.obj _ _ st3 b hb; exact ⟨o,ho⟩) hns' keep34
 have st4:tn 0 h4:=T.keep _ _ _ st3 fun b hb o e=>keep34 b o e
 obtain ⟨hg,ht,he⟩:=hblock s3.heap.objs.size s3 (upd H2 s2.heap.objs.size (.lst []))
 have e5:(cxC X scope own fp s3.heap.objs.size s3 (upd H2 s2.heap.objs.size (.lst []))).env=compEnvC scope (b1s X.env.cells scope.names []) s3.heap.objs.size X.env:=rfl
 generalize hY:cxC X scope own fp s3.heap.objs.size s3 (upd H2 s2.heap.objs.size (.lst []))=Y at hg ht he I4 e5
 have fpY:∀ {H':Hp},(∀ b∈fp,H' b=none)→∀ b∈fp,b1w Y [] H' b:=fun hn b hb=>by
  obtain ⟨o,ho,_⟩:=T.obj _ _ st3 b hb
  refine ⟨hn b hb,?_,?_,?_,?_,?_⟩
  ·rw [← hY]; exact Nat.ne_of_lt (Heap.lt_size ho)
  ·have:=I4.ok.exfs b (by rw [← hY]; exact hb)
   exact this
  ·exact .inl (by rw [← hY]; exact hb)
  ·exact fun x c h=>(I4.ok.exf b (by rw [← hY]; exact hb)).2 x c h
  ·intro p hp; rw [← hY] at hp; exact absurd (show p∈([]:List (Addr×Obj)) from hp) (by simp)
 have hYp:Y.prog=X.prog∧Y.w=X.w∧Y.K=X.K∧Y.calm=true∧Y.A=X.A∧Y.xe=(fun _ _=>False)∧Y.s₀=s3∧Y.H₀=upd H2 s2.heap.objs.size (.lst [])∧Y.outer=X.stack∧Y.ex=fp:=by rw [← hY]; exact ⟨rfl,rfl,rfl,hc,rfl,rfl,rfl,rfl,rfl,rfl⟩
 obtain ⟨y1,y2,y3,y4,y5,y6,y7,y8,y9,y10⟩:=hYp
 have loop:∀ s5:Shared,s5 = { s3 with heap:=h4,toks:=s3.toks + ([]:List (Str×Value)).length } →
   codeAny (model X.prog X.w) X.A (.compLoop (.ListComp elt [⟨tg,iter,ifs,0⟩] scope pos) 0 (.ref it) (.ref s2.heap.objs.size) Y.env) (RR (.ref s2.heap.objs.size) s3.heap.objs.size) s5:=by
  rintro s5 rfl
  refine b4u (fun n s'=>∃ i H',Inv Y [] (σ++List.replicate own.length none) H' s'∧tn i s'.heap∧(∀ b∈fp,H' b=none)∧W i n H') ?_ m0 ⟨0,_,I4,st4,fun b hb=>(hf3 b hb).1,w0⟩
  rintro n s6 ⟨i,H6,I6,st6,fr6,w6⟩
  rcases turn i n H6 w6 with ⟨stop,q⟩ | ⟨go,step⟩
  ·have d:=T.done Y y1 y2 y3 y4 i [] s6 _ H6 (fun _ _=>False) I6 (fpY fr6) st6 stop
   rw [y5] at d
   refine thn d fun r s7 ⟨hr,I7⟩=>?_
   subst hr
   obtain ⟨m,hn,_⟩:=I7.loc
   have hL:Y.env.locals=s3.heap.objs.size:=by rw [e5]; rfl
   rw [hL] at hn
   have b7:=I7.base
   rw [y7,y8,y10] at b7
   have b7':Un (frs X.stack) fp (upd H2 s2.heap.objs.size (.lst [])) H6 s3.heap s7.heap:=by
    have z:Y.fs=frs X.stack:=by show frs Y.outer=_; rw [y9]
    rw [z] at b7
    exact b7
   have hok7:=I7.hok
   rw [y1,y2] at hok7
   have os7:=I7.os
   rw [y7] at os7
   have I8:Inv X pins σ H6 s7:=I3.call' os7 b7' hok7 I7.bare fun b hb=>⟨(hf3 b hb).2.2.2.1,(hf3 b hb).2.1,(hf3 b hb).2.2.2.2.1,(hf3 b hb).2.2.2.2.2⟩
   have hfree:=I7.free
   rw [hL] at hfree
   refine hRR _ _ H6 m s7 I8 hn (Nat.ne_of_gt I3.lt) (fun x c h z=>?_) ?_ hfree q
   ·obtain ⟨v,y⟩:=I3.cell x c h
    exact absurd y.lt (by rw [z]; exact Nat.lt_irrefl _)
   ·rw [← hs3,Heap.size_push]; exact Nat.le_succ _
  ·have d:=T.item Y y1 y2 y3 y4 i [] s6 _ H6 (fun _ _=>False) I6 (fpY fr6) st6 go
   rw [y5] at d
   refine thn d fun r s7 ⟨u,hr,h7⟩=>?_
   subst hr
   refine thn h7 fun _ s8 ⟨x,H8,I8,r8,y8',st8,fr8⟩=>?_
   have I8':=I8.pinned (fpY fr8) (T.obj _ _ st8)
   have pinK:∀ {σ':St} {H':Hp} {s':Shared},Inv Y ([]++a5m fp s8.heap) σ' H' s'→tn (i + 1) s'.heap∧∀ b∈fp,H' b=none:=fun {σ' H' s'} I' =>
    ⟨T.keep _ _ _ st8 fun b hb o e=>(I'.pin (b,o) (List.mem_append_right _ (List.mem_append_right _ (a2d hb e)))).1,fun b hb=>by
     obtain ⟨o,e,_⟩:=T.obj _ _ st8 b hb
     exact (I'.pin (b,o) (List.mem_append_right _ (List.mem_append_right _ (a2d hb e)))).2.1⟩
   have dg:=hg _ s8 _ H8 x u _ I8' r8 (step x H8 y8')
   rw [y1,y2,y5,y6] at dg
   refine thn dg fun _ s9 ⟨σ9,H9,I9,wk,q9⟩=>?_
   have dt:=ht _ s9 σ9 H9 _ I9 q9
   rw [y1,y2,y5,y6] at dt
   refine thn dt fun ok s10 ⟨H10,I10,q10⟩=>?_
   cases ok with
   | true =>
    rw [if_pos rfl] at q10 ⊢
    have de:=he _ s10 σ9 H10 _ I10 q10
    rw [y1,y2,y5,y6] at de
    refine thn de fun y s11 ⟨v11,H11,I11,r11,ys,hys,hz,m',hm,w11⟩=>?_
    have da:=a9l (X:=Y) _ s11 σ9 H11 (.ref s2.heap.objs.size) [v11] (.ref s2.heap.objs.size) [y] (fun _ H'=>H'=upd H11 s2.heap.objs.size (.lst (ys++[v11]))) I11 rfl (.cons r11 .nil) ⟨_,ys,v11,rfl,rfl,hys,hz,rfl⟩
    rw [y1,y2,y5,y6] at da
    refine thn da fun _ s12 ⟨v12,H12,I12,r12,e12⟩=>?_
    subst e12
    obtain ⟨t12,f12⟩:=pinK I12
    exact ⟨m',hm,i + 1,_,(I12.unpinned).weak wk.1.symm wk.2,t12,f12,w11⟩
   | false =>
    rw [if_neg Bool.false_ne_true] at q10 ⊢
    obtain ⟨m',hm,w10⟩:=q10
    obtain ⟨t10,f10⟩:=pinK I10
    exact ⟨m',hm,i + 1,_,(I10.unpinned).weak wk.1.symm wk.2,t10,f10,w10⟩
 rw [e5] at loop
 exact codeAny_compStart_list (loop _ rfl) (T.self _ 0 _ _ _ st4 (loop _ rfl))
theorem b6y (hc:X.calm=true) (SC:CScope X scope own) (hi:PI X.nox tg iter wi)
  (hblock:∀ fp C s H,PG (cxC X scope own fp C s H) tg g∧PTs (cxC X scope own fp C s H) ifs tt∧PE (cxC X scope own fp C s H) elt te)
  (hs:∀ x,foldedSetIterable iter X.env x=pure x:=by intro _; rfl) :
  PE X.nox (.ListComp elt [⟨tg,iter,ifs,0⟩] scope pos) (c4f wi g tt te own.length):=by
 intro pins s σ H Q I h
 have fr:∀ p∈scope.names,p.2=.free→∃ c,X.env.cells.lookup p.1=some c:=fun p hp hq=>I.ok.has p.1 (SC.free p hp hq)
 rw [eval_ListComp]
 refine wpAny_comprehension_free (use:=none) rfl hs (a4u fr) SC.kind SC.names (thn (hi pins s σ H _ I h) fun v s1 h1=>thn h1 fun itv s2 h2=>?_)
 obtain ⟨it,fp,tn,J,H2,e,I2,T,st2,f2,h2⟩:=h2
 subst e
 refine b3o (X:=X.nox) (own:=own) (RR:=fun acc C=>compPost (model X.prog X.w) X.A (fun _ _=>False) none (EP X.nox pins σ Q) acc C) hc ⟨SC.kind,SC.nocell,SC.names,SC.free,SC.apart,SC.hid⟩ (fun C s H=>hblock fp C s H) I2 T st2 f2 h2 ?_
 intro acc C H' m s' I' hn hL hcl hC hH q
 obtain ⟨f0,f1,f2',f3,f4,f5⟩:=I2.fpOk hC hH
 refine ⟨m,hn,fun h' hsb=>⟨.ref acc,H',?_,rfl,q⟩⟩
 exact I'.turned (t':=s'.toks) (fun b o hb e=>(hsb.2 b hb).trans e) f0 f1 f3 f4 f5
theorem b4c {i:Nat} {x:Str} {px:Pos} {spos:Pos} (hc:X.calm=true) (SC:CScope X scope own) (hN:X.N.Nodup) (hx:X.N[i]?=some x) (hl:X.env.scope.names.lookup x=some .local) (hi:PI X.nox tg iter wi)
  (hblock:∀ fp C s H,PG (cxC X scope own fp C s H) tg g∧PTs (cxC X scope own fp C s H) ifs tt∧PE (cxC X scope own fp C s H) elt te)
  (hsw:swapsWith (.ListComp elt [⟨tg,iter,ifs,0⟩] scope pos) (some (.Name x px)) spos.line X.env=pure true)
  (hs:∀ x,foldedSetIterable iter X.env x=pure x:=by intro _; rfl) :
  PS X.nox (.Assign [.Name x px] (.ListComp elt [⟨tg,iter,ifs,0⟩] scope pos) spos) (c2u (c4f wi g tt te own.length) (a5v i)):=by
 intro pins s σ H D I h
 have fr:∀ p∈scope.names,p.2=.free→∃ c,X.env.cells.lookup p.1=some c:=fun p hp hq=>I.ok.has p.1 (SC.free p hp hq)
 show wpAny (model X.prog X.w) X.A (exec _ X.env) _ _ s
 rw [exec_Assign_Name_used _ _ _ _ hsw]
 refine Γa (wpAny_standAt (Γa ?_))
 show wpAny _ X.A (do let _ ← comprehension (.ListComp elt [⟨tg,iter,ifs,0⟩] scope pos) scope X.env _ (newList []) false (eval iter X.env) (some (assign (.Name x px) X.env))) _ _ s
 refine Γa (wpAny_mono (wpAny_comprehension_free (use:=some (assign (.Name x px) X.env)) (Q:=fun _ s'=>SP X.nox pins D .next s') rfl hs (a4u fr) SC.kind SC.names
  (thn (hi pins s σ H _ I h) fun v s1 h1=>thn h1 fun itv s2 h2=>?_)) (fun _ s' hq=>Γb (Γb hq)) fun _ _ e=>e)
 obtain ⟨it,fp,tn,J,H2,e,I2,T,st2,f2,h2⟩:=h2
 subst e
 refine b3o (X:=X.nox) (own:=own) (Q:=fun v H1=>a5v i v σ H1 D.nx) (RR:=fun acc C=>compPost (model X.prog X.w) X.A (fun _ _=>False) (some (assign (.Name x px) X.env)) (fun _ s'=>SP X.nox pins D .next s') acc C) hc ⟨SC.kind,SC.nocell,SC.names,SC.free,SC.apart,SC.hid⟩ (fun C s H=>hblock fp C s H) I2 T st2 f2 h2 ?_
 intro acc C H' m s' I' hn hL hcl hC hH q
 obtain ⟨f0,f1,f2',f3,f4,f5⟩:=I2.fpOk hC hH
 show wpAny (model X.prog X.w) X.A (assign (.Name x px) X.env (.ref acc)) _ _ s'
 refine wpAny_assign_Name (a8y (X:=X.nox) I' hN hx (.inl hl) (v:=.ref acc) rfl (fun s'' I'' hch=>?_) (.inr hl))
 obtain ⟨a,hsa,ha⟩:=hch
 have hCa:C≠a:=by
  rcases ha with z | z
  ·rw [z]; exact hL
  ·exact fun y=>hcl x a z y.symm
 refine ⟨m,hn.sameBut hsa hCa,fun h' hsb=>?_⟩
 exact ⟨_,H',I''.turned (t':=s''.toks) (fun b o hb e=>(hsb.2 b hb).trans e) f0 f1 f3 f4 f5,q⟩
end
end L2
end
section
namespace L2
open PySem PySem.Spec PyProof.Rows
section
variable {X:Cx} {pins:List (Addr×Obj)} {σ:St} {H:Hp} {s:Shared} {h':Heap}
theorem Inv.turnedNew {t':Nat} {ch:List Addr} {p:Addr} {o:HO} (I:Inv X pins σ H s) (hp:s.heap.objs.size≤p) (k:∀ b ob,b ∉ ch→s.heap.get? b=some ob→h'.get? b=some ob) (hf:∀ b∈ch,b1w X pins H b)
  (new:ObjOk X.prog X.w (upd H p o) h' p o):Inv X pins σ (upd H p o) { s with heap:=h',toks:=t' }:=by
 have hn:H p=none:=I.hok.fresh hp
 have nit:∀ b u,H b=some u→b ∉ ch:=fun b u e z=>by rw [(hf b z).1] at e; cases e
 have nep:∀ {b ob},s.heap.get? b=some ob→b≠p:=fun e=>Nat.ne_of_lt (Nat.lt_of_lt_of_le (Heap.lt_size e) hp)
 refine I.step (g':=s.gens) (d':=s.drawn) (ch:=ch) (fun b hb=>⟨(hf b hb).2.2.2.1,(hf b hb).2.1,(hf b hb).2.2.2.2.1,(hf b hb).2.2.2.2.2⟩) (fun b ob _ _ hc e _=>k b ob hc e) (fun b ob _ _ hc e _=>⟨ob.slots,k b ob hc e⟩)
  (fun b ob hc e n=>by rw [a0e (nep e)]; exact n) (fun b ob hc e=>⟨ob,k b ob hc e⟩) (fun b xs e=>by rw [a0e (a0w e hn)]; exact e) (fun b u xs e=>by rw [a0e (a0w e hn)]; exact e)
  (fun b ps e=>⟨#[],by rw [a0e (a0w e hn),e]; simp⟩) (fun m hm=>?_) (fun b u e=>?_) I.bare
 ·obtain ⟨ob,es,ep,ho,r⟩:=hm
  exact ⟨ob,es,ep,k _ ob (fun z=>(hf _ z).2.1 rfl) ho,r⟩
 ·by_cases hb:b=p
  ·subst hb; rw [a0f] at e; cases e; exact new
  ·rw [a0e hb] at e
   refine (I.hok b u e).stay (fun c v hc q=>k c v ?_ q) (fun c q=>by rw [a0e (a0w q hn)]; exact q) fun c xs q=>by rw [a0e (a0w q hn)]; exact q
   rcases hc with z | z
   ·rw [z]; exact nit b u e
   ·exact nit c _ z
theorem Inv.turnedL {t':Nat} {ch:List Addr} (I:Inv X pins σ H s) (k:∀ b ob,b ∉ ch→s.heap.get? b=some ob→h'.get? b=some ob) (hf:∀ b∈ch,b1w X pins H b):Inv X pins σ H { s with heap:=h',toks:=t' }:=by
 have nit:∀ b u,H b=some u→b ∉ ch:=fun b u e z=>by rw [(hf b z).1] at e; cases e
 refine I.step (g':=s.gens) (d':=s.drawn) (ch:=ch) (fun b hb=>⟨(hf b hb).2.2.2.1,(hf b hb).2.1,(hf b hb).2.2.2.2.1,(hf b hb).2.2.2.2.2⟩) (fun b ob _ _ hc e _=>k b ob hc e) (fun b ob _ _ hc e _=>⟨ob.slots,k b ob hc e⟩)
  (fun _ _ _ _ n=>n) (fun b ob hc e=>⟨ob,k b ob hc e⟩) (fun _ _ e=>e) (fun _ _ _ e=>e) (fun b ps e=>⟨#[],by rw [e]; simp⟩) (fun m hm=>?_) (fun b u e=>?_) I.bare
 ·obtain ⟨ob,es,ep,ho,r⟩:=hm
  exact ⟨ob,es,ep,k _ ob (fun z=>(hf _ z).2.1 rfl) ho,r⟩
 ·refine (I.hok b u e).stay (fun c v hc q=>k c v ?_ q) (fun _ q=>q) fun _ _ q=>q
  rcases hc with z | z
  ·rw [z]; exact nit b u e
  ·exact nit c _ z
end
end L2
end
section
namespace L2
open PySem PySem.Spec PyProof.Rows
def SeqB (b:Bool) (h:Heap) (l:Addr) (xs:Array Value):Prop:=match b with | true=>h.IsList l xs | false=>h.IsTuple l xs
def IterB (b:Bool) (h:Heap) (it l:Addr) (i:Nat):Prop:=match b with | true=>h.IsListIter it l i | false=>h.IsTupleIter it l i
def a8f (b:Bool):String:=match b with | true=>"list_iterator" | false=>"tuple_iterator"
section
variable {b:Bool} {h h':Heap} {it l c:Addr} {i:Nat} {xs:Array Value}
theorem SeqB.move (x:SeqB b h l xs) (e:Heap.ExtBut c h h') (n:l≠c):SeqB b h' l xs:=by
 cases b
 ·exact Heap.IsTuple.extBut x e n
 ·exact Heap.IsList.extBut x e n
theorem SeqB.push {o:Obj} (x:SeqB b h l xs):SeqB b (h.push o) l xs:=by
 cases b
 ·exact Heap.IsTuple.push x o
 ·exact Heap.IsList.push x o
theorem SeqB.lt (x:SeqB b h l xs):l < h.objs.size:=by
 cases b <;> (obtain ⟨_,e,_⟩:=x; exact Heap.lt_size e)
theorem IterB.move (x:IterB b h it l i) (e:Heap.ExtBut c h h') (n:it≠c):IterB b h' it l i:=by
 cases b
 ·exact Heap.IsTupleIter.extBut x e n
 ·exact Heap.IsListIter.extBut x e n
theorem IterB.to (x:IterB b h it l i) (k:∀ o,h.get? it=some o→h'.get? it=some o):IterB b h' it l i:=by
 cases b <;> (obtain ⟨o,e,r⟩:=x; exact ⟨o,k o e,r⟩)
theorem IterB.obj (x:IterB b h it l i):∃ o,h.get? it=some o∧∀ v,o.data≠.cell v:=by
 cases b <;> (obtain ⟨o,e,_,d⟩:=x; exact ⟨o,e,fun v z=>by rw [d] at z; cases z⟩)
theorem IterB.lt (x:IterB b h it l i):it < h.objs.size:=let ⟨_,e,_⟩:=x.obj; Heap.lt_size e
end
section
variable {P:Program} {w:World} {A:Around} {E:Value→Shared→Prop} {s:Shared} {b:Bool} {it l:Addr} {i:Nat} {xs:Array Value} {Q:Value→Shared→Prop}
theorem b7r (x:SeqB b s.heap l xs) (q:Q (.ref s.heap.objs.size) { s with heap:=s.heap.push { cls:=.type (a8f b),data:=.fields #[.ref l,.int 0 0] } }):wpAny (model P w) A (pyIter (.ref l)) Q E s:=by
 cases b
 ·exact wpAny_pyIter_tuple x q
 ·exact wpAny_pyIter_list x q
theorem d6g {x:Value} (hi:s.heap.IsTupleIter it l i) (hl:s.heap.IsTuple l xs) (hx:xs[i]?=some x) (q:∀ h',h'.IsTupleIter it l (i + 1)→Heap.SameBut it s.heap h'→Q x { s with heap:=h' }):wpAny (model P w) A (Builtin.SmallTypes.nextOf (.ref it)) Q E s:=by
 obtain ⟨oi,ei,ci,di⟩:=id hi
 obtain ⟨os,es,_,ns,ds⟩:=hl
 unfold Builtin.SmallTypes.nextOf
 refine Γa (wpAny_callSpecial?_slot (name:=Γe "__next__") hi.typeIs F.slot_tuple_iterator_next (wpAny_call_entry F.slot_tuple_iterator_next hi.typeIs F.entry_tuple_iterator_next ?_ (F.args_tuple_iterator_next_1 _)))
 show wpAny _ _ (field (.ref it) 0 >>= _) _ _ s; refine Γa (wpAny_field ei di (x:=.ref l) rfl ?_)
 show wpAny _ _ (if (Value.ref l == Value.none)=true then _ else _) _ _ s; rw [if_neg (show ¬ ((Value.ref l == Value.none)=true) from Bool.false_ne_true)]
 show wpAny _ _ (field (.ref it) 1 >>= _) _ _ s; refine Γa (wpAny_field ei di (x:=.int i 0) rfl ?_)
 show wpAny _ _ (seqItems? (.ref l) >>= _) _ _ s; refine Γa (wpAny_seqItems es ds ?_)
 simp only [Int.toNat_natCast,hx]
 refine Γa (wpAny_setField ei di (by simp) (Γb ⟨x,rfl,Γb (q _ ⟨_,Heap.get?_update_self _ ei (Obj.isFreed_of_fields (Obj.data_mapFields di _)),(Obj.cls_mapFields ..).trans ci,?_⟩ (Heap.SameBut.update ..))⟩))
 rw [Obj.data_mapFields di]; simp [rawInt]
theorem d4n (hh:A.handled=none) (hi:s.heap.IsTupleIter it l i) (hl:s.heap.IsTuple l xs) (hx:xs[i]?=none)
  (q:∀ h' e,Heap.ExtBut it s.heap h'→(∃ o,h'.get? e=some o∧o.cls=.type "StopIteration")→E (.ref e) { s with heap:=h' }):wpAny (model P w) A (Builtin.SmallTypes.nextOf (.ref it)) Q E s:=by
 obtain ⟨oi,ei,ci,di⟩:=id hi
 obtain ⟨os,es,_,ns,ds⟩:=hl
 unfold Builtin.SmallTypes.nextOf
 refine Γa (wpAny_callSpecial?_slot (name:=Γe "__next__") hi.typeIs F.slot_tuple_iterator_next (wpAny_call_entry F.slot_tuple_iterator_next hi.typeIs F.entry_tuple_iterator_next ?_ (F.args_tuple_iterator_next_1 _)))
 show wpAny _ _ (field (.ref it) 0 >>= _) _ _ s; refine Γa (wpAny_field ei di (x:=.ref l) rfl ?_)
 show wpAny _ _ (if (Value.ref l == Value.none)=true then _ else _) _ _ s; rw [if_neg (show ¬ ((Value.ref l == Value.none)=true) from Bool.false_ne_true)]
 show wpAny _ _ (field (.ref it) 1 >>= _) _ _ s; refine Γa (wpAny_field ei di (x:=.int i 0) rfl ?_)
 show wpAny _ _ (seqItems? (.ref l) >>= _) _ _ s; refine Γa (wpAny_seqItems es ds ?_)
 simp only [Int.toNat_natCast,hx]
 refine Γa (wpAny_rule (Γa (wpAny_setField ei di (by simp) ?_))); show wpAny _ _ (newExc (.type "StopIteration") [] >>= _) _ _ _
 refine Γa ?_; simp only [newExc,newTuple]
 refine Γa (wpAny_newObj_type ?_ (by size_fits)); refine Γa (m:=firstArgMember _ _) (wpAny_of_eq (a:=Value.none) (by first | rfl | (simp only [firstArgMember]; rfl)) ?_)
 refine wpAny_newObj_type ?_ (by size_fits); simp only [raiseNew]; refine Γa (wpAny_handled ?_)
 first | rw [show A.in1.handled=none from hh] | rw [hh]
 exact Γa (Γb (wpAny_throw (q _ _ (((Heap.SameBut.update ..).extBut.push _).push _) ⟨_,Heap.get?_push_size _ rfl,rfl⟩)))
theorem a6j {x:Value} (hi:IterB b s.heap it l i) (hl:SeqB b s.heap l xs) (hx:xs[i]?=some x) (q:∀ h',IterB b h' it l (i + 1)→Heap.SameBut it s.heap h'→Q x { s with heap:=h' }):wpAny (model P w) A (Builtin.SmallTypes.nextOf (.ref it)) Q E s:=by
 cases b
 ·exact d6g hi hl hx q
 ·exact wpAny_nextOf_list_item hi hl hx q
theorem b0w (hh:A.handled=none) (hi:IterB b s.heap it l i) (hl:SeqB b s.heap l xs) (hx:xs[i]?=none)
  (q:∀ h' e,Heap.ExtBut it s.heap h'→(∃ o,h'.get? e=some o∧o.cls=.type "StopIteration")→E (.ref e) { s with heap:=h' }):wpAny (model P w) A (Builtin.SmallTypes.nextOf (.ref it)) Q E s:=by
 cases b
 ·exact d4n hh hi hl hx q
 ·exact wpAny_nextOf_list_end hh hi hl hx q
end
section
variable {P:Program} {w:World} {A:Around} {E:Value→Shared→Prop} {s:Shared} {p q:Bool} {z TI TO i1 i2 l1 l2:Addr} {k1 k2:Nat} {xs ys:Array Value} {x y a b:Value}
theorem b5j {Q:Value→Shared→Prop} (D:ZipApart z TI TO i1 i2 l1 l2) (zz:IsZip s.heap z TI TO .none) (zi:IsPair s.heap TI (.ref i1) (.ref i2)) (zo:IsPair s.heap TO a b)
  (t1:IterB p s.heap i1 l1 k1) (t2:IterB q s.heap i2 l2 k2) (m1:SeqB p s.heap l1 xs) (m2:SeqB q s.heap l2 ys) (ex:xs[k1]?=some x) (ey:ys[k2]?=some y)
  (K:∀ h',IsZip h' z TI TO (rawInt s.heap.objs.size)→IsPair h' TO x y→IterB p h' i1 l1 (k1 + 1)→IterB q h' i2 l2 (k2 + 1)→IsPair h' s.heap.objs.size x y →
   (∀ c o,c≠z→c≠TO→c≠i1→c≠i2→s.heap.get? c=some o→h'.get? c=some o)→Q (.ref s.heap.objs.size) { s with heap:=h' }) :
  wpAny (model P w) A (Builtin.«zip.__next__» ⟨[.ref z],[]⟩) (fun fin s'=>∃ v,fin=.done (.ret v)∧Q v s') E s:=by
 show wpAny _ _ (field (.ref z) 2 >>= _) _ _ _; refine Γa (wpAny_field zz rfl (x:=.bool false) rfl ?_)
 show wpAny _ _ (field (.ref z) 3 >>= _) _ _ _; refine Γa (wpAny_field zz rfl (x:=.ref TI) rfl (Γa (wpAny_seqItems zi rfl ?_)))
 show wpAny _ _ (Builtin.SmallTypes.ownedTupleIsFree (.ref z) >>= _) _ _ _; refine Γa ?_; unfold Builtin.SmallTypes.ownedTupleIsFree
 refine Γa (wpAny_field zz rfl (x:=.none) rfl (Γb ?_)); simp only [if_true]
 refine Γa (wpAny_rule (Γa (wpAny_field zz rfl (x:=.ref TO) rfl (Γa (wpAny_setField_rec zz (by simp) fun g1 z1 b1=>?_)))))
 replace z1:IsZip g1 z TI TO .ellipsis:=z1
 refine Γa ?_; simp only [List.zipIdx_cons,List.zipIdx_nil,List.forIn_cons,List.forIn_nil]
 refine Γa (Γa (wpAny_onRaise ?_)); show wpAny _ _ (Builtin.SmallTypes.nextOf (.ref i1) >>= _) _ _ _
 refine Γa (a6j (t1.move b1.extBut D.i1z) (m1.move b1.extBut D.l1z) ex fun g2 t12 b2=>Γb ?_)
 have o2:IsPair g2 TO a b:=b2.extBut _ _ D.TOi1 (b1.extBut _ _ D.TOz zo)
 refine Γa (wpAny_seqItems o2 rfl (Γa (wpAny_updateSeq_pair o2 fun g3 o3 b3=>?_)))
 replace o3:IsPair g3 TO x b:=o3
 refine Γa (wpAny_letGo (Γb (Γa (Γa (wpAny_onRaise ?_))))); show wpAny _ _ (Builtin.SmallTypes.nextOf (.ref i2) >>= _) _ _ _
 refine Γa (a6j (((t2.move b1.extBut D.i2z).move b2.extBut D.i12.symm).move b3.extBut D.TOi2.symm) (((m2.move b1.extBut D.l2z).move b2.extBut D.l2i1).move b3.extBut D.l2TO) ey fun g4 t24 b4=>Γb ?_)
 have o4:IsPair g4 TO x b:=b4.extBut _ _ D.TOi2 o3
 refine Γa (wpAny_seqItems o4 rfl (Γa (wpAny_updateSeq_pair o4 fun g5 o5 b5=>?_)))
 replace o5:IsPair g5 TO x y:=o5
 refine Γa (wpAny_letGo (Γb (Γb (Γa (wpAny_seqItems o5 rfl (Γa (wpAny_newTuple ?_)))))))
 have sz:g5.objs.size=s.heap.objs.size:=by rw [b5.1,b4.1,b3.1,b2.1,b1.1]
 have z5:IsZip g5 z TI TO .ellipsis:=b5.extBut _ _ D.TOz.symm (b4.extBut _ _ D.i2z.symm (b3.extBut _ _ D.TOz.symm (b2.extBut _ _ D.i1z.symm z1)))
 have kk:∀ c o,c≠z→c≠TO→c≠i1→c≠i2→s.heap.get? c=some o→g5.get? c=some o:=fun c o c1 c2 c3 c4 e=>b5.extBut _ _ c2 (b4.extBut _ _ c4 (b3.extBut _ _ c2 (b2.extBut _ _ c3 (b1.extBut _ _ c1 e))))
 have t15:IterB p g5 i1 l1 (k1 + 1):=((t12.move b3.extBut D.TOi1.symm).move b4.extBut D.i12).move b5.extBut D.TOi1.symm
 have t25:IterB q g5 i2 l2 (k2 + 1):=t24.move b5.extBut D.TOi2.symm
 have zlt:z < g5.objs.size:=Heap.lt_size z5
 show wpAny _ _ (Builtin.SmallTypes.ownedTupleHandOut (.ref z) (.ref g5.objs.size) >>= _) _ _ _; refine Γa ?_; unfold Builtin.SmallTypes.ownedTupleHandOut
 have z6:IsZip (g5.push { cls:=.type "tuple",data:=.seq #[x,y] }) z TI TO .ellipsis:=Γc _ z5
 refine Γa (wpAny_setField_rec z6 (by simp) fun g7 z7 b7=>?_); replace z7:IsZip g7 z TI TO (rawInt g5.objs.size):=z7
 refine wpAny_setField_rec z7 (by simp) fun g8 z8 b8=>?_; replace z8:IsZip g8 z TI TO (rawInt g5.objs.size):=z8
 have up:∀ c o,c≠z→g5.get? c=some o→g8.get? c=some o:=fun c o c1 e=>b8.extBut _ _ c1 (b7.extBut _ _ c1 (Γc _ e))
 have tt:IsPair g8 g5.objs.size x y:=b8.extBut _ _ (Nat.ne_of_gt zlt) (b7.extBut _ _ (Nat.ne_of_gt zlt) (Heap.get?_push_size _ rfl))
 rw [sz] at z8 tt
 refine Γb ⟨_,rfl,?_⟩; show Q (.ref g5.objs.size) _; rw [sz]
 exact K g8 z8 (up _ _ D.TOz o5) (t15.to fun o e=>up _ o D.i1z e) (t25.to fun o e=>up _ o D.i2z e) tt fun c o c1 c2 c3 c4 e=>up c o c1 (kk c o c1 c2 c3 c4 e)
theorem b9t {Q:Fin→Shared→Prop} (hh:A.handled=none) (D:ZipApart z TI TO i1 i2 l1 l2) (zz:IsZip s.heap z TI TO .none) (zi:IsPair s.heap TI (.ref i1) (.ref i2)) (zo:IsPair s.heap TO a b)
  (t1:IterB p s.heap i1 l1 k1) (t2:IterB q s.heap i2 l2 k2) (m1:SeqB p s.heap l1 xs) (m2:SeqB q s.heap l2 ys) (en:xs[k1]?=none ∨ ys[k2]?=none)
  (K:∀ h' e,(∀ c o,c≠z→c≠TO→c≠i1→c≠i2→s.heap.get? c=some o→h'.get? c=some o)→(∃ o,h'.get? e=some o∧o.cls=.type "StopIteration")→E (.ref e) { s with heap:=h' }) :
  wpAny (model P w) A (Builtin.«zip.__next__» ⟨[.ref z],[]⟩) Q E s:=by
 show wpAny _ _ (field (.ref z) 2 >>= _) _ _ _; refine Γa (wpAny_field zz rfl (x:=.bool false) rfl ?_)
 show wpAny _ _ (field (.ref z) 3 >>= _) _ _ _; refine Γa (wpAny_field zz rfl (x:=.ref TI) rfl (Γa (wpAny_seqItems zi rfl ?_)))
 show wpAny _ _ (Builtin.SmallTypes.ownedTupleIsFree (.ref z) >>= _) _ _ _; refine Γa ?_; unfold Builtin.SmallTypes.ownedTupleIsFree
 refine Γa (wpAny_field zz rfl (x:=.none) rfl (Γb ?_)); simp only [if_true]
 refine Γa (wpAny_rule (Γa (wpAny_field zz rfl (x:=.ref TO) rfl (Γa (wpAny_setField_rec zz (by simp) fun g1 z1 b1=>?_)))))
 replace z1:IsZip g1 z TI TO .ellipsis:=z1
 refine Γa ?_; simp only [List.zipIdx_cons,List.zipIdx_nil,List.forIn_cons,List.forIn_nil]
 refine Γa (Γa (wpAny_onRaise ?_)); show wpAny _ _ (Builtin.SmallTypes.nextOf (.ref i1) >>= _) _ _ _
 have fin:∀ {g:Heap} {e:Addr} {o:Obj},IsZip g z TI TO .ellipsis→g.get? e=some o→o.cls=.type "StopIteration"→e≠z:=fun h1 h2 h3 x=>by subst x; rw [h1] at h2; cases h2; simp at h3
 cases hx:xs[k1]? with
 | none =>
  refine Γa (b0w hh (t1.move b1.extBut D.i1z) (m1.move b1.extBut D.l1z) hx fun g2 e b2 he=>?_)
  obtain ⟨oe,e1,e2⟩:=he
  have z2:IsZip g2 z TI TO .ellipsis:=b2 _ _ D.i1z.symm z1
  exact wpAny_setField_rec z2 (by simp) fun g3 _ b3=>K g3 e (fun c o c1 _ c3 _ x=>b3.extBut _ _ c1 (b2 _ _ c3 (b1.extBut _ _ c1 x))) ⟨oe,b3.extBut _ _ (fin z2 e1 e2) e1,e2⟩
 | some x =>
  have hy:ys[k2]?=none:=by rcases en with h | h; rw [hx] at h; cases h; exact h
  refine Γa (a6j (t1.move b1.extBut D.i1z) (m1.move b1.extBut D.l1z) hx fun g2 t12 b2=>Γb ?_)
  have o2:IsPair g2 TO a b:=b2.extBut _ _ D.TOi1 (b1.extBut _ _ D.TOz zo)
  refine Γa (wpAny_seqItems o2 rfl (Γa (wpAny_updateSeq_pair o2 fun g3 o3 b3=>Γa (wpAny_letGo (Γb (Γa (Γa (wpAny_onRaise ?_))))))))
  show wpAny _ _ (Builtin.SmallTypes.nextOf (.ref i2) >>= _) _ _ _
  refine Γa (b0w hh (((t2.move b1.extBut D.i2z).move b2.extBut D.i12.symm).move b3.extBut D.TOi2.symm) (((m2.move b1.extBut D.l2z).move b2.extBut D.l2i1).move b3.extBut D.l2TO) hy fun g4 e b4 he=>?_)
  obtain ⟨oe,e1,e2⟩:=he
  have z4:IsZip g4 z TI TO .ellipsis:=b4 _ _ D.i2z.symm (b3.extBut _ _ D.TOz.symm (b2.extBut _ _ D.i1z.symm z1))
  exact wpAny_setField_rec z4 (by simp) fun g5 _ b5=>K g5 e (fun c o c1 c2 c3 c4 x=>b5.extBut _ _ c1 (b4 _ _ c4 (b3.extBut _ _ c2 (b2.extBut _ _ c3 (b1.extBut _ _ c1 x))))) ⟨oe,b5.extBut _ _ (fin z4 e1 e2) e1,e2⟩
theorem b5i {Q:Option Value→Shared→Prop} (D:ZipApart z TI TO i1 i2 l1 l2) (zz:IsZip s.heap z TI TO .none) (zi:IsPair s.heap TI (.ref i1) (.ref i2)) (zo:IsPair s.heap TO a b)
  (t1:IterB p s.heap i1 l1 k1) (t2:IterB q s.heap i2 l2 k2) (m1:SeqB p s.heap l1 xs) (m2:SeqB q s.heap l2 ys) (ex:xs[k1]?=some x) (ey:ys[k2]?=some y)
  (K:∀ h',IsZip h' z TI TO (rawInt s.heap.objs.size)→IsPair h' TO x y→IterB p h' i1 l1 (k1 + 1)→IterB q h' i2 l2 (k2 + 1)→IsPair h' s.heap.objs.size x y →
   (∀ c o,c≠z→c≠TO→c≠i1→c≠i2→s.heap.get? c=some o→h'.get? c=some o)→Q (some (.ref s.heap.objs.size)) { s with heap:=h' }):wpAny (model P w) A (pyNext (.ref z)) Q E s:=by
 have ty:s.TypeIs (.ref z) "zip":=⟨_,zz,rfl⟩
 unfold pyNext
 exact Γa (wpAny_attempt (wpAny_callSpecial?_slot (name:=Γe "__next__") ty F.slot_zip_next (wpAny_call_entry F.slot_zip_next ty F.entry_zip_next (b5j D zz zi zo t1 t2 m1 m2 ex ey fun h' a1 a2 a3 a4 a5 a6=>Γb (K h' a1 a2 a3 a4 a5 a6)) (F.args_zip_next_1 _))))
theorem b5h {Q:Option Value→Shared→Prop} (hh:A.handled=none) (D:ZipApart z TI TO i1 i2 l1 l2) (zz:IsZip s.heap z TI TO .none) (zi:IsPair s.heap TI (.ref i1) (.ref i2)) (zo:IsPair s.heap TO a b)
  (t1:IterB p s.heap i1 l1 k1) (t2:IterB q s.heap i2 l2 k2) (m1:SeqB p s.heap l1 xs) (m2:SeqB q s.heap l2 ys) (en:xs[k1]?=none ∨ ys[k2]?=none)
  (K:∀ h',(∀ c o,c≠z→c≠TO→c≠i1→c≠i2→s.heap.get? c=some o→h'.get? c=some o)→Q none { s with heap:=h' }):wpAny (model P w) A (pyNext (.ref z)) Q E s:=by
 have ty:s.TypeIs (.ref z) "zip":=⟨_,zz,rfl⟩
 unfold pyNext
 refine Γa (wpAny_attempt (wpAny_callSpecial?_slot (name:=Γe "__next__") ty F.slot_zip_next (wpAny_call_entry F.slot_zip_next ty F.entry_zip_next (b9t hh D zz zi zo t1 t2 m1 m2 en fun h' e hk he=>?_) (F.args_zip_next_1 _))))
 obtain ⟨o,e1,e2⟩:=he
 exact Γa (wpAny_isInstance (T:="StopIteration") (b:=true) ⟨o,e1,e2⟩ isSubtype_stop (Γb (K _ hk)))
end
abbrev zb1 (p:Bool) (h:Heap) (l1:Addr):Heap:=h.push { cls:=.type (a8f p),data:=.fields #[.ref l1,.int 0 0] }
abbrev zb2 (p q:Bool) (h:Heap) (l1 l2:Addr):Heap:=(zb1 p h l1).push { cls:=.type (a8f q),data:=.fields #[.ref l2,.int 0 0] }
abbrev zb3 (p q:Bool) (h:Heap) (l1 l2:Addr):Heap:=(zb2 p q h l1 l2).push { cls:=.type "tuple",data:=.seq #[.ref h.objs.size,.ref (zb1 p h l1).objs.size] }
abbrev zb4 (p q:Bool) (h:Heap) (l1 l2:Addr):Heap:=(zb3 p q h l1 l2).push { cls:=.type "tuple",data:=.seq #[.none,.none] }
abbrev zb5 (p q:Bool) (h:Heap) (l1 l2:Addr):Heap:=(zb4 p q h l1 l2).push { cls:=.type "zip",data:=.fields #[.none,.bool false,.bool false,.ref (zb2 p q h l1 l2).objs.size,.ref (zb3 p q h l1 l2).objs.size] }
theorem b4f (p q:Bool) (l1 l2:Addr) (xs ys:Array Value) :
  Meets (Builtin.«zip.__new__» ⟨[.type "zip",.ref l1,.ref l2],[]⟩) (fun _ R s=>SeqB p s.heap l1 xs∧SeqB q s.heap l2 ys∧R (.ok (.ret (.ref (zb4 p q s.heap l1 l2).objs.size))) { s with heap:=zb5 p q s.heap l1 l2 }) :=
 .of_wp fun prog w A R s h=>by
  obtain ⟨hp,g,d,tk,os⟩:=s; obtain ⟨m1,m2,h⟩:=h
  have hsub:=sub_zip
  have M1:SeqB p (Shared.heap ⟨hp,g,d,tk,os⟩) l1 xs:=m1
  have M2:SeqB q (Shared.heap ⟨hp.push { cls:=.type (a8f p),data:=.fields #[.ref l1,.int 0 0] },g,d,tk,os⟩) l2 ys:=SeqB.push m2
  wp_walk using b7r M1,b7r M2
  exact ⟨_,rfl,h⟩
section
variable {P:Program} {w:World} {A:Around} {E:Value→Shared→Prop} {s:Shared}
theorem b0c {p q:Bool} {l1 l2:Addr} {xs ys:Array Value} {Q:Value→Shared→Prop} (m1:SeqB p s.heap l1 xs) (m2:SeqB q s.heap l2 ys)
  (K:∀ h',IsZip h' (s.heap.objs.size + 4) (s.heap.objs.size + 2) (s.heap.objs.size + 3) .none→IsPair h' (s.heap.objs.size + 2) (.ref s.heap.objs.size) (.ref (s.heap.objs.size + 1)) →
   IsPair h' (s.heap.objs.size + 3) .none .none→IterB p h' s.heap.objs.size l1 0→IterB q h' (s.heap.objs.size + 1) l2 0→(∀ c o,s.heap.get? c=some o→h'.get? c=some o)→Q (.ref (s.heap.objs.size + 4)) { s with heap:=h' }) :
  wpAny (model P w) A (call (.type "zip") [.ref l1,.ref l2]) Q E s:=by
 refine callType_new F.called_zip (by decide) (F.typeCall_zip_2 _ _) (F.newCall_zip_2 _ _) (fun obj=>F.args_object_init_3 obj _ _) F.entry_zip_new (b4f p q l1 l2 xs ys) ⟨m1,m2,?_⟩
 have z1:(zb1 p s.heap l1).objs.size=s.heap.objs.size + 1:=Heap.size_push ..
 have z2:(zb2 p q s.heap l1 l2).objs.size=s.heap.objs.size + 2:=by rw [Heap.size_push,z1]
 have z3:(zb3 p q s.heap l1 l2).objs.size=s.heap.objs.size + 3:=by rw [Heap.size_push,z2]
 have z4:(zb4 p q s.heap l1 l2).objs.size=s.heap.objs.size + 4:=by rw [Heap.size_push,z3]
 have f5:(zb5 p q s.heap l1 l2).get? (zb4 p q s.heap l1 l2).objs.size=some _:=Heap.get?_push_size _ rfl
 have f4:(zb5 p q s.heap l1 l2).get? (zb3 p q s.heap l1 l2).objs.size=some _:=Γc _ (Heap.get?_push_size _ rfl)
 have f3:(zb5 p q s.heap l1 l2).get? (zb2 p q s.heap l1 l2).objs.size=some _:=Γc _ (Γc _ (Heap.get?_push_size _ rfl))
 have f2:(zb5 p q s.heap l1 l2).get? (zb1 p s.heap l1).objs.size=some _:=Γc _ (Γc _ (Γc _ (Heap.get?_push_size _ rfl)))
 have f1:(zb5 p q s.heap l1 l2).get? s.heap.objs.size=some _:=Γc _ (Γc _ (Γc _ (Γc _ (Heap.get?_push_size _ rfl))))
 show _∧_
 rw [z2,z3,z4] at f5; rw [z1,z2] at f3; rw [z3] at f4; rw [z1] at f2; rw [z4]
 refine ⟨⟨_,f5,rfl⟩,K _ f5 f3 f4 ?_ ?_ fun c o x=>Γc _ (Γc _ (Γc _ (Γc _ (Γc _ x))))⟩
 ·cases p <;> exact ⟨_,f1,rfl,rfl⟩
 ·cases q <;> exact ⟨_,f2,rfl,rfl⟩
end
end L2
end
section
namespace L2
open PySem PySem.Spec PyProof.Rows
open AutoSeq1 (wpAny_loadPart')
section
variable {P:Program} {w:World} {A:Around} {E:Value→Shared→Prop} {s:Shared} {p:Bool} {e it l:Addr} {i:Nat} {xs:Array Value} {x old:Value}
theorem b4r {Q:Value→Shared→Prop} (ee:IsEnum s.heap e it i old) (t1:IterB p s.heap it l i) (m1:SeqB p s.heap l xs) (ex:xs[i]?=some x) (ne:e≠it)
  (K:∀ h',IsEnumOut h' e it ((i:Int) + 1) x s.heap.objs.size→IterB p h' it l (i + 1)→h'.get? s.heap.objs.size=some { cls:=.type "tuple",data:=.seq #[.int i s.toks,x] } →
   (∀ b o,b≠e→b≠it→s.heap.get? b=some o→h'.get? b=some o)→Q (.ref s.heap.objs.size) { s with heap:=h',toks:=s.toks + 1 }) :
  wpAny (model P w) A (Builtin.«enumerate.__next__» ⟨[.ref e],[]⟩) (fun fin s'=>∃ v,fin=.done (.ret v)∧Q v s') E s:=by
 obtain ⟨hp,g,d,tk,os⟩:=s
 show wpAny _ _ (field (.ref e) 2 >>= _) _ _ _; refine Γa (wpAny_field ee rfl (x:=.ref it) rfl (Γa (a6j t1 m1 ex fun g1 t11 b1=>?_)))
 replace b1:Heap.SameBut it hp g1:=b1
 have e1:IsEnum g1 e it i old:=(b1.2 e ne).trans ee
 show wpAny _ _ (field (.ref e) 3 >>= _) _ _ ⟨g1,g,d,tk,os⟩; refine Γa (wpAny_field e1 rfl (x:=rawInt i) rfl ?_)
 show wpAny _ _ (field (.ref e) 4 >>= _) _ _ ⟨g1,g,d,tk,os⟩; refine Γa (wpAny_field e1 rfl (x:=.none) rfl ?_)
 show wpAny _ _ (mkInt i >>= _) _ _ ⟨g1,g,d,tk,os⟩; refine Γa (wpAny_mkInt ?_)
 show wpAny _ _ (setField (.ref e) 3 (rawInt ((i:Int) + 1)) >>= _) _ _ ⟨g1,g,d,tk + 1,os⟩; refine Γa (wpAny_setField_rec e1 (by simp) fun g2 e2 b2=>?_)
 replace b2:Heap.SameBut e g1 g2:=b2
 replace e2:IsEnum g2 e it ((i:Int) + 1) old:=e2
 show wpAny _ _ (setField (.ref e) 4 .none >>= _) _ _ ⟨g2,g,d,tk + 1,os⟩; refine Γa (wpAny_setField_rec e2 (by simp) fun g3 e3 b3=>?_)
 replace b3:Heap.SameBut e g2 g3:=b3
 replace e3:IsEnum g3 e it ((i:Int) + 1) old:=e3
 show wpAny _ _ (newTuple [.int i tk,x] >>= _) _ _ ⟨g3,g,d,tk + 1,os⟩; refine Γa (wpAny_newTuple ?_)
 have e4:IsEnum (g3.push { cls:=.type "tuple",data:=.seq #[.int i tk,x] }) e it ((i:Int) + 1) old:=Γc _ e3
 generalize hg4:g3.push { cls:=.type "tuple",data:=.seq #[.int i tk,x] } = g4 at e4
 have sz:g3.objs.size=hp.objs.size:=by rw [b3.1,b2.1,b1.1]
 have el:e < hp.objs.size:=Heap.lt_size ee
 have t4:g4.get? hp.objs.size=some { cls:=.type "tuple",data:=.seq #[.int i tk,x] }:=by rw [← hg4,← sz]; exact Heap.get?_push_size _ rfl
 have k4:∀ b o,b≠e→b≠it→hp.get? b=some o→g4.get? b=some o:=fun b o c1 c2 h=>by rw [← hg4]; exact Γc _ (b3.extBut b o c1 (b2.extBut b o c1 (b1.extBut b o c2 h)))
 have i4:IterB p g4 it l (i + 1):=by
  rw [← hg4]; exact ((t11.move b2.extBut (Ne.symm ne)).move b3.extBut (Ne.symm ne)).to fun o h=>Γc _ h
 show wpAny _ _ (Builtin.SmallTypes.ownedTupleIsFree (.ref e) >>= _) _ _ ⟨g4,g,d,tk + 1,os⟩
 rw [sz]
 clear hg4 e3 b3 e2 b2 e1 b1 t11 sz g3 g2 g1
 refine Γa ?_; unfold Builtin.SmallTypes.ownedTupleIsFree
 refine Γa (wpAny_field e4 rfl (x:=.none) rfl (Γb ?_)); simp only [if_true]
 refine Γa (wpAny_rule (Γa (wpAny_field e4 rfl (x:=old) rfl (Γa (wpAny_setField_rec e4 (by simp) fun g5 e5 b5=>?_)))))
 replace b5:Heap.SameBut e g4 g5:=b5
 replace e5:IsEnum g5 e it ((i:Int) + 1) x:=e5
 show wpAny _ _ (Builtin.SmallTypes.ownedTupleHandOut (.ref e) (.ref hp.objs.size) >>= _) _ _ ⟨g5,g,d,tk + 1,os⟩; refine Γa ?_; unfold Builtin.SmallTypes.ownedTupleHandOut
 refine Γa (wpAny_setField_rec e5 (by simp) fun g6 e6 b6=>?_)
 replace b6:Heap.SameBut e g5 g6:=b6
 replace e6:IsEnumOut g6 e it ((i:Int) + 1) x hp.objs.size:=e6
 refine wpAny_setField_rec e6 (by simp) fun g7 e7 b7=>?_
 replace b7:Heap.SameBut e g6 g7:=b7
 replace e7:IsEnumOut g7 e it ((i:Int) + 1) x hp.objs.size:=e7
 refine Γa (wpAny_letGo (Γb ⟨_,rfl,K g7 e7 (((i4.move b5.extBut (Ne.symm ne)).move b6.extBut (Ne.symm ne)).move b7.extBut (Ne.symm ne)) ?_ fun b o c1 c2 h=>b7.extBut b o c1 (b6.extBut b o c1 (b5.extBut b o c1 (k4 b o c1 c2 h)))⟩))
 exact b7.extBut _ _ (Nat.ne_of_gt el) (b6.extBut _ _ (Nat.ne_of_gt el) (b5.extBut _ _ (Nat.ne_of_gt el) t4))
theorem b4q {Q:Option Value→Shared→Prop} (ee:IsEnum s.heap e it i old) (t1:IterB p s.heap it l i) (m1:SeqB p s.heap l xs) (ex:xs[i]?=some x) (ne:e≠it)
  (K:∀ h',IsEnumOut h' e it ((i:Int) + 1) x s.heap.objs.size→IterB p h' it l (i + 1)→h'.get? s.heap.objs.size=some { cls:=.type "tuple",data:=.seq #[.int i s.toks,x] } →
   (∀ b o,b≠e→b≠it→s.heap.get? b=some o→h'.get? b=some o)→Q (some (.ref s.heap.objs.size)) { s with heap:=h',toks:=s.toks + 1 }):wpAny (model P w) A (pyNext (.ref e)) Q E s:=by
 have ty:s.TypeIs (.ref e) "enumerate":=⟨_,ee,rfl⟩
 unfold pyNext
 exact Γa (wpAny_attempt (wpAny_callSpecial?_slot (name:=Γe "__next__") ty F.slot_enumerate_next (wpAny_call_entry F.slot_enumerate_next ty F.entry_enumerate_next (b4r ee t1 m1 ex ne fun h' a b c d=>Γb (K h' a b c d)) (F.args_enumerate_next_1 _))))
theorem b4p {Q:Option Value→Shared→Prop} (hh:A.handled=none) (ee:IsEnum s.heap e it i old) (t1:IterB p s.heap it l i) (m1:SeqB p s.heap l xs) (ex:xs[i]?=none) (K:∀ h',Heap.ExtBut it s.heap h'→Q none { s with heap:=h' }):wpAny (model P w) A (pyNext (.ref e)) Q E s:=by
 have ty:s.TypeIs (.ref e) "enumerate":=⟨_,ee,rfl⟩
 unfold pyNext
 refine Γa (wpAny_attempt (wpAny_callSpecial?_slot (name:=Γe "__next__") ty F.slot_enumerate_next (wpAny_call_entry F.slot_enumerate_next ty F.entry_enumerate_next ?_ (F.args_enumerate_next_1 _))))
 show wpAny _ _ (field (.ref e) 2 >>= _) _ _ _; refine Γa (wpAny_field ee rfl (x:=.ref it) rfl (Γa (b0w hh t1 m1 ex fun h' v k hv=>?_)))
 obtain ⟨o,e1,e2⟩:=hv
 exact Γa (wpAny_isInstance (T:="StopIteration") (b:=true) ⟨o,e1,e2⟩ isSubtype_stop (Γb (K _ k)))
end
theorem b1c (p:Bool) (l:Addr) (xs:Array Value) :
  Meets (Builtin.«enumerate.__new__» ⟨[.type "enumerate",.ref l],[]⟩) (fun _ R s=>SeqB p s.heap l xs ∧
   R (.ok (.ret (.ref (zb1 p s.heap l).objs.size))) { s with heap:=(zb1 p s.heap l).push { cls:=.type "enumerate",data:=.fields #[.none,.bool false,.ref s.heap.objs.size,rawInt 0,.none,.none] } }) :=
 .of_wp fun prog w A R s h=>by
  obtain ⟨hp,g,d,tk,os⟩:=s; obtain ⟨m1,h⟩:=h
  have hsub:=sub_enumerate
  have M1:SeqB p (Shared.heap ⟨hp,g,d,tk,os⟩) l xs:=m1
  have hob:∃ o,hp.get? l=some o:=by cases p <;> (obtain ⟨o,e,_⟩:=m1; exact ⟨o,e⟩)
  obtain ⟨ob,hl⟩:=hob
  wp_walk using wpAny_loadPart' hl
  refine wpAny_stack_any fun st=>Γb ?_
  split
  ·rename_i c _ _ _ _ _
   cases (c == Value.type "enumerate")
   ·wp_walk using wpAny_loadPart' hl,b7r M1
    exact ⟨_,rfl,h⟩
   ·wp_walk using wpAny_loadPart' hl,b7r M1
    exact ⟨_,rfl,h⟩
  ·wp_walk using wpAny_loadPart' hl,b7r M1
   exact ⟨_,rfl,h⟩
section
variable {P:Program} {w:World} {A:Around} {E:Value→Shared→Prop} {s:Shared}
theorem b4x {p:Bool} {l:Addr} {xs:Array Value} {Q:Value→Shared→Prop} (m1:SeqB p s.heap l xs)
  (K:∀ h',IsEnum h' (s.heap.objs.size + 1) s.heap.objs.size 0 .none→IterB p h' s.heap.objs.size l 0→(∀ b o,s.heap.get? b=some o→h'.get? b=some o)→Q (.ref (s.heap.objs.size + 1)) { s with heap:=h' }) :
  wpAny (model P w) A (call (.type "enumerate") [.ref l]) Q E s:=by
 refine callType_new F.called_enumerate (by decide) (F.typeCall_enumerate_1 _) (F.newCall_enumerate_1 _) (fun obj=>F.args_object_init_2 obj _) F.entry_enumerate_new (b1c p l xs) ⟨m1,?_⟩
 have z1:(zb1 p s.heap l).objs.size=s.heap.objs.size + 1:=Heap.size_push ..
 show _∧_
 rw [z1]
 have f2:IsEnum ((zb1 p s.heap l).push { cls:=.type "enumerate",data:=.fields #[.none,.bool false,.ref s.heap.objs.size,rawInt 0,.none,.none] }) (s.heap.objs.size + 1) s.heap.objs.size 0 .none:=by
  have:=Heap.get?_push_size (zb1 p s.heap l) (o:={ cls:=.type "enumerate",data:=.fields #[.none,.bool false,.ref s.heap.objs.size,rawInt 0,.none,.none] }) rfl
  rw [z1] at this; exact this
 refine ⟨⟨_,f2,rfl⟩,K _ f2 ?_ fun b o x=>Γc _ (Γc _ x)⟩
 cases p <;> exact ⟨_,Γc _ (Heap.get?_push_size _ rfl),rfl,rfl⟩
end
def SqB (b:Bool) (K:Γd) (H:Hp) (a:Addr) (xs:List V):Prop:=match b with | true=>SqL K H a xs | false=>SqT K H a xs
section
variable {X:Cx} {pins:List (Addr×Obj)} {σ:St} {H:Hp} {s:Shared} {a:Addr} {xs ys:List V} {b:Bool}
theorem Inv.seqB (I:Inv X pins σ H s) (h:SqB b X.K H a xs):∃ its:List Value,Vals xs its∧SeqB b s.heap a its.toArray∧xs.length=its.length:=by
 cases b
 ·obtain ⟨its,r,q,_⟩:=I.tuple h
  exact ⟨its,r,q,r.length⟩
 ·obtain ⟨its,r,q,_⟩:=I.list h
  exact ⟨its,r,q.isList,r.length⟩
theorem Inv.seqB_inj (I:Inv X pins σ H s) (h:SqB b X.K H a xs) (h':SqB b X.K H a ys):xs=ys:=by
 cases b
 ·exact I.tuple_inj h h'
 ·exact I.list_inj h h'
end
def Iz2 (K : Γd) (p q : Bool) (a b : Addr) : It :=
  ⟨fun i H => ∃ xs ys x y, SqB p K H a xs ∧ SqB q K H b ys ∧ xs[i]? = some x ∧ ys[i]? = some y,
   fun i H v H' => ∃ c, H c = none ∧ v = .ref c ∧ ∀ xs ys x y, SqB p K H a xs → SqB q K H b ys → xs[i]? = some x → ys[i]? = some y → H' = upd H c (.tup [x, y]),
   fun i H => ∃ xs ys, SqB p K H a xs ∧ SqB q K H b ys ∧ (xs.length ≤ i ∨ ys.length ≤ i)⟩
def Ien (K : Γd) (p : Bool) (a : Addr) : It :=
  ⟨fun i H => ∃ xs x, SqB p K H a xs ∧ xs[i]? = some x,
   fun i H v H' => ∃ c, H c = none ∧ v = .ref c ∧ ∀ xs x, SqB p K H a xs → xs[i]? = some x → H' = upd H c (.tup [.int i, x]),
   fun i H => ∃ xs, SqB p K H a xs ∧ xs.length ≤ i⟩
theorem c3y {P:Program} {w:World} {K:Γd} {p q:Bool} {elts:List Expr} {k:Nat} {pos:Pos} {a b z TI TO i1 i2:Addr} (D:ZipApart z TI TO i1 i2 a b) :
  Turn P w K (.Tuple elts k pos) (Iz2 K p q a b) [z,TO,i1,i2,TI] z (fun i h=>IsZip h z TI TO .none∧IsPair h TI (.ref i1) (.ref i2)∧(∃ c d,IsPair h TO c d)∧IterB p h i1 a i∧IterB q h i2 b i) where
 mem:=by simp
 obj:=fun i h st c hc=>by
  obtain ⟨zz,zi,⟨x,y,zo⟩,t1,t2⟩:=st
  simp only [List.mem_cons,List.not_mem_nil,or_false] at hc
  rcases hc with rfl | rfl | rfl | rfl | rfl
  ·exact ⟨_,zz,fun v z=>by cases z⟩
  ·exact ⟨_,zo,fun v z=>by cases z⟩
  ·exact t1.obj
  ·exact t2.obj
  ·exact ⟨_,zi,fun v z=>by cases z⟩
 keep:=fun i h h' st kk=>by
  obtain ⟨zz,zi,⟨x,y,zo⟩,t1,t2⟩:=st
  exact ⟨kk z (by simp) _ zz,kk TI (by simp) _ zi,⟨x,y,kk TO (by simp) _ zo⟩,t1.to fun o e=>kk i1 (by simp) o e,t2.to fun o e=>kk i2 (by simp) o e⟩
 item:=by
  intro X hP hw hK hc i pins s σ H E I hf st hg
  subst hP hw hK
  obtain ⟨xs,ys,x,y,q1,q2,hx,hy⟩:=hg
  obtain ⟨zz,zi,⟨u0,v0,zo⟩,t1,t2⟩:=st
  obtain ⟨its,rv,m1,_⟩:=I.seqB q1
  obtain ⟨jts,rw',m2,_⟩:=I.seqB q2
  obtain ⟨u,hu,ru⟩:=rv.get hx
  obtain ⟨u',hu',ru'⟩:=rw'.get hy
  refine b5i D zz zi zo t1 t2 m1 m2 (x:=u) (y:=u') (by simpa using hu) (by simpa using hu') fun h' a1 a2 a3 a4 a5 hk=>?_
  refine ⟨_,rfl,wpAny_letOwnedTupleGo_zip a1 fun h'' z'' hs''=>?_⟩
  have szn:z≠s.heap.objs.size:=Nat.ne_of_lt (Heap.lt_size zz)
  have T'':IsPair h'' s.heap.objs.size u u':=hs''.extBut _ _ (Ne.symm szn) a5
  have I1:Inv X pins σ (upd H s.heap.objs.size (.tup [x,y])) { s with heap:=h'' }:=I.turnedNew (t':=s.toks) (ch:=[z,TO,i1,i2]) (Nat.le_refl _)
   (fun c ob hc e=>by simp only [List.mem_cons,List.not_mem_nil,or_false,not_or] at hc; exact hs''.extBut _ _ hc.1 (hk c ob hc.1 hc.2.1 hc.2.2.1 hc.2.2.2 e))
   (fun c hc=>hf c (by simp only [List.mem_cons,List.not_mem_nil,or_false] at hc ⊢; rcases hc with z | z | z | z <;> simp [z])) ⟨by show 2≤sizeLine; decide,[u,u'],.cons ru (.cons ru' .nil),⟨_,T'',rfl,_,rfl⟩⟩
  refine ⟨.ref s.heap.objs.size,_,I1,rfl,⟨_,I.fresh,rfl,fun xs' ys' x' y' r1 r2 hx' hy'=>?_⟩,⟨z'',hs''.extBut _ _ D.TIz (hk _ _ D.TIz D.TITO D.TIi1 D.TIi2 zi),⟨_,_,hs''.extBut _ _ D.TOz a2⟩,a3.move hs''.extBut D.i1z,a4.move hs''.extBut D.i2z⟩,fun c hc=>?_⟩
  ·have e1:=I.seqB_inj r1 q1
   have e2:=I.seqB_inj r2 q2
   subst e1 e2
   rw [hx] at hx'; rw [hy] at hy'; cases hx'; cases hy'; rfl
  ·have:c≠s.heap.objs.size:=by
    have hlt:c < s.heap.objs.size:=by
     simp only [List.mem_cons,List.not_mem_nil,or_false] at hc
     rcases hc with rfl | rfl | rfl | rfl | rfl
     ·exact Heap.lt_size zz
     ·exact Heap.lt_size zo
     ·exact t1.lt
     ·exact t2.lt
     ·exact Heap.lt_size zi
    exact Nat.ne_of_lt hlt
   rw [a0e this]; exact (hf c hc).1
 done:=by
  intro X hP hw hK hc i pins s σ H E I hf st hg
  subst hP hw hK
  obtain ⟨xs,ys,q1,q2,hx⟩:=hg
  obtain ⟨zz,zi,⟨u0,v0,zo⟩,t1,t2⟩:=st
  obtain ⟨its,rv,m1,l1⟩:=I.seqB q1
  obtain ⟨jts,rw',m2,l2⟩:=I.seqB q2
  refine b5h (I.ok.hd hc) D zz zi zo t1 t2 m1 m2 (hx.elim (fun z=>.inl (by simp; lia)) fun z=>.inr (by simp; lia)) fun h' hk=>⟨rfl,?_⟩
  exact I.turnedL (t':=s.toks) (ch:=[z,TO,i1,i2]) (fun c ob hc e=>by simp only [List.mem_cons,List.not_mem_nil,or_false,not_or] at hc; exact hk c ob hc.1 hc.2.1 hc.2.2.1 hc.2.2.2 e)
   (fun c hc=>hf c (by simp only [List.mem_cons,List.not_mem_nil,or_false] at hc ⊢; rcases hc with z | z | z | z <;> simp [z]))
 self:=fun _ _ _ _ _ st h=>wpAny_pyIter_zip st.1 h
theorem c3z {P:Program} {w:World} {K:Γd} {p:Bool} {elts:List Expr} {k:Nat} {pos:Pos} {a e it:Addr} (ne:e≠it) :
  Turn P w K (.Tuple elts k pos) (Ien K p a) [e,it] e (fun i h=>(∃ old,IsEnum h e it i old)∧IterB p h it a i) where
 mem:=by simp
 obj:=fun i h st c hc=>by
  obtain ⟨⟨old,ee⟩,t1⟩:=st
  simp only [List.mem_cons,List.not_mem_nil,or_false] at hc
  rcases hc with rfl | rfl
  ·exact ⟨_,ee,fun v z=>by cases z⟩
  ·exact t1.obj
 keep:=fun i h h' st kk=>by
  obtain ⟨⟨old,ee⟩,t1⟩:=st
  exact ⟨⟨old,kk e (by simp) _ ee⟩,t1.to fun o q=>kk it (by simp) o q⟩
 item:=by
  intro X hP hw hK hc i pins s σ H E I hf st hg
  subst hP hw hK
  obtain ⟨xs,x,q1,hx⟩:=hg
  obtain ⟨⟨old,ee⟩,t1⟩:=st
  obtain ⟨its,rv,m1,_⟩:=I.seqB q1
  obtain ⟨u,hu,ru⟩:=rv.get hx
  refine b4q ee t1 m1 (x:=u) (by simpa using hu) ne fun h' a1 a2 a3 hk=>?_
  refine ⟨_,rfl,wpAny_letOwnedTupleGo_enum a1 fun h'' z'' hs''=>?_⟩
  have szn:e≠s.heap.objs.size:=Nat.ne_of_lt (Heap.lt_size ee)
  have T'':=hs''.extBut _ _ (Ne.symm szn) a3
  have I1:Inv X pins σ (upd H s.heap.objs.size (.tup [.int i,x])) { s with heap:=h'',toks:=s.toks + 1 }:=I.turnedNew (t':=s.toks + 1) (ch:=[e,it]) (Nat.le_refl _)
   (fun c ob hc q=>by simp only [List.mem_cons,List.not_mem_nil,or_false,not_or] at hc; exact hs''.extBut _ _ hc.1 (hk c ob hc.1 hc.2 q))
   (fun c hc=>hf c hc) ⟨by show 2≤sizeLine; decide,[.int i s.toks,u],.cons ⟨_,rfl⟩ (.cons ru .nil),⟨_,T'',rfl,_,rfl⟩⟩
  refine ⟨.ref s.heap.objs.size,_,I1,rfl,⟨_,I.fresh,rfl,fun xs' x' r1 hx'=>?_⟩,⟨⟨_,z''⟩,a2.move hs''.extBut (Ne.symm ne)⟩,fun c hc=>?_⟩
  ·have e1:=I.seqB_inj r1 q1
   subst e1
   rw [hx] at hx'; cases hx'; rfl
  ·have:c≠s.heap.objs.size:=by
    have hlt:c < s.heap.objs.size:=by
     simp only [List.mem_cons,List.not_mem_nil,or_false] at hc
     rcases hc with rfl | rfl
     ·exact Heap.lt_size ee
     ·exact t1.lt
    exact Nat.ne_of_lt hlt
   rw [a0e this]; exact (hf c hc).1
 done:=by
  intro X hP hw hK hc i pins s σ H E I hf st hg
  subst hP hw hK
  obtain ⟨xs,q1,hx⟩:=hg
  obtain ⟨⟨old,ee⟩,t1⟩:=st
  obtain ⟨its,rv,m1,l1⟩:=I.seqB q1
  refine b4p (I.ok.hd hc) ee t1 m1 (by simp; lia) fun h' hk=>⟨rfl,?_⟩
  exact I.turnedL (t':=s.toks) (ch:=[it]) (fun c ob hc q=>hk c ob (by simpa using hc) q) (fun c hc=>hf c (by simp at hc; simp [hc]))
 self:=fun _ _ _ _ _ st h=>wpAny_pyIter_enum st.1.choose_spec h
section
variable {X:Cx}
def iZ2 (K:Γd) (ta:TA):TI:=fun σ H R=>ta σ H fun vs H1=>∃ p q a b,vs=[.ref a,.ref b]∧(∃ xs,SqB p K H1 a xs)∧(∃ ys,SqB q K H1 b ys)∧R (Iz2 K p q a b) H1
theorem d5r {elts:List Expr} {k:Nat} {tp:Pos} {e1 e2:Expr} {ta:TA} {p pos:Pos} (hg:Gl X "zip") (hm:X.mg "zip" = none) (ha:PA X [e1,e2] ta)
  (hs:starEach [e1,e2] X.env=[(false,eval e1 X.env),(false,eval e2 X.env)]) (hs2:starEach [e2] X.env=[(false,eval e2 X.env)]):PI X (.Tuple elts k tp) (.Call (.Name "zip" p) [e1,e2] [] pos) (iZ2 X.K ta):=by
 intro pins s σ H R I h
 refine wpAny_Call_Name_kw (a2u I hg hm PyProof.Rows.boot_zip ?_ (by decide) (by decide))
 refine PyProof.Rows.callWith_type1 (thn (ha pos pins s σ H _ I h) fun us s1 ⟨vs,H1,I1,r1,q1⟩=>?_) (by rw [hs,hs2]) (by rw [hs2]; rfl)
 obtain ⟨p,q,a,b,e,⟨xs,hq1⟩,⟨ys,hq2⟩,kk⟩:=q1
 subst e
 obtain ⟨u1,u2,rfl,ra,rb⟩:=b9v r1
 cases ra; cases rb
 obtain ⟨its,rv,m1,_⟩:=I1.seqB hq1
 obtain ⟨jts,rw',m2,_⟩:=I1.seqB hq2
 refine b0c m1 m2 fun h' zz zi zo t1 t2 hk=>wpAny_pyIter_zip (f0:=.none) zz ?_
 have I2:Inv X pins σ H1 { s1 with heap:=h' }:=I1.kept (t':=s1.toks) fun c o e=>hk c o e
 refine ⟨_,_,_,Iz2 X.K p q a b,H1,rfl,I2,c3y (zipApart_new m1.lt m2.lt),⟨zz,zi,⟨_,_,zo⟩,t1,t2⟩,fun c hc=>?_,kk⟩
 have hge:s1.heap.objs.size≤c:=by
  simp only [List.mem_cons,List.not_mem_nil,or_false] at hc
  rcases hc with rfl | rfl | rfl | rfl | rfl <;> first | exact Nat.le_refl _ | exact Nat.le_add_right _ _
 exact I1.fpOk hge (I1.hok.fresh hge)
def iEn (K:Γd) (ta:TA):TI:=fun σ H R=>ta σ H fun vs H1=>∃ p a,vs=[.ref a]∧(∃ xs,SqB p K H1 a xs)∧R (Ien K p a) H1
theorem d5s {elts:List Expr} {k:Nat} {tp:Pos} {e1:Expr} {ta:TA} {p pos:Pos} (hg:Gl X "enumerate") (hm:X.mg "enumerate" = none) (ha:PA X [e1] ta) (hs:starEach [e1] X.env=[(false,eval e1 X.env)]) :
  PI X (.Tuple elts k tp) (.Call (.Name "enumerate" p) [e1] [] pos) (iEn X.K ta):=by
 intro pins s σ H R I h
 refine wpAny_Call_Name_kw (a2u I hg hm PyProof.Rows.boot_enumerate ?_ (by decide) (by decide))
 refine PyProof.Rows.callWith_type1 (thn (ha pos pins s σ H _ I h) fun us s1 ⟨vs,H1,I1,r1,q1⟩=>?_) (by rw [hs]; rfl) rfl
 obtain ⟨p,a,e,⟨xs,hq1⟩,kk⟩:=q1
 subst e
 obtain ⟨u1,rfl,ra⟩:=a2w r1
 cases ra
 obtain ⟨its,rv,m1,_⟩:=I1.seqB hq1
 refine b4x m1 fun h' ee t1 hk=>wpAny_pyIter_enum ee ?_
 have I2:Inv X pins σ H1 { s1 with heap:=h' }:=I1.kept (t':=s1.toks) fun c o e=>hk c o e
 refine ⟨_,_,_,Ien X.K p a,H1,rfl,I2,c3z (Nat.ne_of_gt (Nat.lt_succ_self _)),⟨⟨_,ee⟩,t1⟩,fun c hc=>?_,kk⟩
 have hge:s1.heap.objs.size≤c:=by
  simp only [List.mem_cons,List.not_mem_nil,or_false] at hc
  rcases hc with rfl | rfl <;> first | exact Nat.le_refl _ | exact Nat.le_add_right _ _
 exact I1.fpOk hge (I1.hok.fresh hge)
end
end L2
end
section
namespace L2
open PySem PySem.Spec PyProof.Rows
section
variable {prog:Program} {w:World} {A:Around} {R:Result→Shared→Prop} {s:Shared}
theorem b1p {kx vx target iter:Expr} {ifs:List Expr} {scope:Scope} {pos:Pos} {it:Value} {D:Addr} {env:Env} (I:Nat→Shared→Prop)
  (turn:∀ n s,I n s→wpAny (model prog w) A (pyNext it) (fun r s1=>match r with
   | none=>R (.ok .next) s1
   | some v=>wpAny (model prog w) A (letOwnedTupleGo target it v) (fun _ s2=>wpAny (model prog w) A (assign target env v) (fun _ s3=>wpAny (model prog w) A (a7p ifs env) (fun ok s4 =>
     if ok=true then wpAny (model prog w) A (eval kx env) (fun kv s5=>wpAny (model prog w) A (eval vx env) (fun vv s6=>wpAny (model prog w) A (dictSet D kv vv) (fun _ s7=>∃ m,m < n∧I m s7) (fun _ _=>False) s6) (fun _ _=>False) s5) (fun _ _=>False) s4
     else ∃ m,m < n∧I m s4) (fun _ _=>False) s3) (fun _ _=>False) s2) (fun _ _=>False) s1) (fun _ _=>False) s)
  (n:Nat) (h:I n s):codeAny (model prog w) A (.compLoop (.DictComp kx vx [⟨target,iter,ifs,0⟩] scope pos) 0 it (.ref D) env) R s:=by
 refine codeAny_loop rfl I (fun n s hI=>?_) n h
 show wpAny _ A ((compTurn (.DictComp kx vx [⟨target,iter,ifs,0⟩] scope pos) 0 it (.ref D) env).onRaise (fun x=>do noteFrame x env; theTreesLotGoes x)) _ _ s
 refine wpAny_noted ?_
 rw [compTurn_dict]
 have no:∀ (e:Value) (s':Shared),(fun (_:Value) (_:Shared)=>False) e s'→notedBy (model prog w) A env (fun e s'=>R (.error e) s') e s':=fun _ _ z=>z.elim
 refine Γa (wpAny_standAt (Γa (wpAny_mono (turn n s hI) (fun r s1 h1=>?_) no)))
 cases r with
 | none=>exact Γb h1
 | some v =>
  refine Γa (wpAny_mono h1 (fun _ s2 h2=>Γa (wpAny_mono h2 (fun _ s3 h3=>Γa (wpAny_mono h3 (fun ok s4 h4=>?_) no)) no)) no)
  cases ok with
  | true =>
   rw [if_pos rfl] at h4
   simp only [if_true]
   exact Γa (Γa (wpAny_mono h4 (fun kv s5 h5=>Γa (Γg (wpAny_mono h5 (fun vv s6 h6=>Γa (wpAny_standAt (Γg (wpAny_mono h6 (fun _ s7 h7=>Γb ⟨rfl,h7⟩) no)))) no))) no))
  | false =>
   rw [if_neg Bool.false_ne_true] at h4
   simp only [Bool.false_eq_true,if_false]
   first
    | exact Γb ⟨rfl,h4⟩
    | exact Γa (Γb (Γb ⟨rfl,h4⟩))
end
def c8h (wi:TI) (g:TG) (tt:TT) (tk tv:TE) (own:Nat):TE:=fun σ H Q=>wi σ H fun J H1=>∀ acc,H1 acc=none→∃ W:Nat→Nat→Hp→Prop,(∃ m,W 0 m (upd H1 acc (.dT [])))∧∀ i m H,W i m H →
 (J.stop i H∧Q (.ref acc) H) ∨ (J.go i H∧∀ x H',J.yld i H x H'→g x (σ++List.replicate own none) H' fun σ2 H2=>Wk (σ++List.replicate own none) σ2∧tt σ2 H2 fun b H3 =>
  if b=true then tk σ2 H3 fun y H4=>tv σ2 H4 fun v H5=>∃ kvs k b,H5 acc=some (.dT kvs)∧y=.ref b∧H5 b=some (.tup (k.map kV))∧kvs.length < sizeLine∧∃ m',m' < m∧W (i + 1) m' (upd H5 acc (.dT (a6i kvs k v))) else ∃ m',m' < m∧W (i + 1) m' H3)
section
variable {X:Cx} {kx vx tg iter:Expr} {ifs:List Expr} {scope:Scope} {own:List Str} {pos:Pos} {wi:TI} {g:TG} {tt:TT} {tk tv:TE}
theorem b9a {pins:List (Addr×Obj)} {σ:St} {H2:Hp} {s2:Shared} {Q:VK} {it:Addr} {fp:List Addr} {tn:Nat→Heap→Prop} {J:It} {RR:Value→Addr→Result→Shared→Prop}
  (hu:X.A.units + 1 < cLine) (hc:X.calm=true) (SC:CScope X scope own)
  (hblock:∀ C s H,PG (cxC X scope own fp C s H) tg g∧PTs (cxC X scope own fp C s H) ifs tt∧PE (cxC X scope own fp C s H) kx tk∧PE (cxC X scope own fp C s H) vx tv)
  (I2:Inv X pins σ H2 s2) (T:Turn X.prog X.w X.K tg J fp it tn) (st2:tn 0 s2.heap) (f2:∀ b∈fp,b1w X pins H2 b)
  (h:∀ acc,H2 acc=none→∃ W:Nat→Nat→Hp→Prop,(∃ m,W 0 m (upd H2 acc (.dT [])))∧∀ i m H,W i m H →
   (J.stop i H∧Q (.ref acc) H) ∨ (J.go i H∧∀ x H',J.yld i H x H'→g x (σ++List.replicate own.length none) H' fun σ2 H2=>Wk (σ++List.replicate own.length none) σ2∧tt σ2 H2 fun b H3 =>
    if b=true then tk σ2 H3 fun y H4=>tv σ2 H4 fun v H5=>∃ kvs k b,H5 acc=some (.dT kvs)∧y=.ref b∧H5 b=some (.tup (k.map kV))∧kvs.length < sizeLine∧∃ m',m' < m∧W (i + 1) m' (upd H5 acc (.dT (a6i kvs k v))) else ∃ m',m' < m∧W (i + 1) m' H3))
  (hRR:∀ acc C H' m s',Inv X pins σ H' s'→s'.heap.Ns C m→C≠X.env.locals→(∀ x c,X.env.cells.lookup x=some c→c≠C)→s2.heap.objs.size≤C→H' C=none→Q (.ref acc) H'→RR (.ref acc) C (.ok .next) s') {E:Value→Shared→Prop} :
  wpAny (model X.prog X.w) X.A (newDict) (fun acc s3=>wpAny (model X.prog X.w) X.A (newFunctionEnv scope X.env.globals (b1s X.env.cells scope.names []) [] X.env.qual none .none (some X.env)) (fun cenv s4 =>
   codeAny (model X.prog X.w) X.A (.compStart (.DictComp kx vx [⟨tg,iter,ifs,0⟩] scope pos) 0 (.ref it) acc { cenv with scope:=relabel scope X.env }) (RR acc cenv.locals) s4) E s3) E s2:=by
 have hacc:=I2.fresh
 have I3:Inv X pins σ (upd H2 s2.heap.objs.size (.dT [])) { s2 with heap:=s2.heap.push { cls:=.type "dict",data:=.dict #[] },toks:=s2.toks }:=I2.laid (a:=s2.heap.objs.size) (o:=.dT []) (t':=s2.toks) (fun _ _ q=>Γc _ q) (Nat.le_refl _) (b3l s2.heap I2.big)
 refine wpAny_newObj_type ?_
 obtain ⟨W,⟨m0,w0⟩,turn⟩:=h _ hacc
 generalize hs3:({ s2 with heap:=s2.heap.push { cls:=.type "dict",data:=.dict #[] },toks:=s2.toks }:Shared)=s3 at I3
 have keep23:∀ b o,s2.heap.get? b=some o→s3.heap.get? b=some o:=fun b o e=>by rw [← hs3]; exact Γc _ e
 have hf3:∀ b∈fp,b1w X pins (upd H2 s2.heap.objs.size (.dT [])) b:=fun b hb=>by
  obtain ⟨o,ho,_⟩:=T.obj _ _ st2 b hb
  exact ⟨by rw [a0e (Nat.ne_of_lt (Heap.lt_size ho))]; exact (f2 b hb).1,(f2 b hb).2⟩
 have st3:tn 0 s3.heap:=T.keep _ _ _ st2 fun b hb o e=>keep23 b o e
 refine wpAny_newFunctionEnv SC.nocell (by intro y hy; simp at hy) (fun h4 hns hsb=>?_) SC.kind
 have hns':h4.Ns s3.heap.objs.size (fun _=>none):=by simpa using hns
 have keep34:∀ b o,s3.heap.get? b=some o→h4.get? b=some o:=fun b o e=>hsb.extBut b o (Nat.ne_of_lt (Heap.lt_size e)) (Γc _ e)
 have I4:=b3c (t4:=s3.toks + ([]:List (Str×Value)).length) I3 SC hc hf3 (fun b hb=>by obtain ⟨o,ho,_⟩:=T.obj _ _ st3 b hb; exact ⟨o,ho⟩) hns' keep34
 have st4:tn 0 h4:=T.keep _ _ _ st3 fun b hb o e=>keep34 b o e
 obtain ⟨hg,ht,hk',hv'⟩:=hblock s3.heap.objs.size s3 (upd H2 s2.heap.objs.size (.dT []))
 have e5:(cxC X scope own fp s3.heap.objs.size s3 (upd H2 s2.heap.objs.size (.dT []))).env=compEnvC scope (b1s X.env.cells scope.names []) s3.heap.objs.size X.env:=rfl
 generalize hY:cxC X scope own fp s3.heap.objs.size s3 (upd H2 s2.heap.objs.size (.dT []))=Y at hg ht hk' hv' I4 e5
 have fpY:∀ {H':Hp},(∀ b∈fp,H' b=none)→∀ b∈fp,b1w Y [] H' b:=fun hn b hb=>by
  obtain ⟨o,ho,_⟩:=T.obj _ _ st3 b hb
  refine ⟨hn b hb,?_,?_,?_,?_,?_⟩
  ·rw [← hY]; exact Nat.ne_of_lt (Heap.lt_size ho)
  ·have:=I4.ok.exfs b (by rw [← hY]; exact hb)
   exact this
  ·exact .inl (by rw [← hY]; exact hb)
  ·exact fun x c h=>(I4.ok.exf b (by rw [← hY]; exact hb)).2 x c h
  ·intro p hp; rw [← hY] at hp; exact absurd (show p∈([]:List (Addr×Obj)) from hp) (by simp)
 have hYp:Y.prog=X.prog∧Y.w=X.w∧Y.K=X.K∧Y.calm=true∧Y.A=X.A∧Y.xe=(fun _ _=>False)∧Y.s₀=s3∧Y.H₀=upd H2 s2.heap.objs.size (.dT [])∧Y.outer=X.stack∧Y.ex=fp:=by rw [← hY]; exact ⟨rfl,rfl,rfl,hc,rfl,rfl,rfl,rfl,rfl,rfl⟩
 obtain ⟨y1,y2,y3,y4,y5,y6,y7,y8,y9,y10⟩:=hYp
 have loop:∀ s5:Shared,s5 = { s3 with heap:=h4,toks:=s3.toks + ([]:List (Str×Value)).length } →
   codeAny (model X.prog X.w) X.A (.compLoop (.DictComp kx vx [⟨tg,iter,ifs,0⟩] scope pos) 0 (.ref it) (.ref s2.heap.objs.size) Y.env) (RR (.ref s2.heap.objs.size) s3.heap.objs.size) s5:=by
  rintro s5 rfl
  refine b1p (fun n s'=>∃ i H',Inv Y [] (σ++List.replicate own.length none) H' s'∧tn i s'.heap∧(∀ b∈fp,H' b=none)∧W i n H') ?_ m0 ⟨0,_,I4,st4,fun b hb=>(hf3 b hb).1,w0⟩
  rintro n s6 ⟨i,H6,I6,st6,fr6,w6⟩
  rcases turn i n H6 w6 with ⟨stop,q⟩ | ⟨go,step⟩
  ·have d:=T.done Y y1 y2 y3 y4 i [] s6 _ H6 (fun _ _=>False) I6 (fpY fr6) st6 stop
   rw [y5] at d
   refine thn d fun r s7 ⟨hr,I7⟩=>?_
   subst hr
   obtain ⟨m,hn,_⟩:=I7.loc
   have hL:Y.env.locals=s3.heap.objs.size:=by rw [e5]; rfl
   rw [hL] at hn
   have b7:=I7.base
   rw [y7,y8,y10] at b7
   have b7':Un (frs X.stack) fp (upd H2 s2.heap.objs.size (.dT [])) H6 s3.heap s7.heap:=by
    have z:Y.fs=frs X.stack:=by show frs Y.outer=_; rw [y9]
    rw [z] at b7
    exact b7
   have hok7:=I7.hok
   rw [y1,y2] at hok7
   have os7:=I7.os
   rw [y7] at os7
   have I8:Inv X pins σ H6 s7:=I3.call' os7 b7' hok7 I7.bare fun b hb=>⟨(hf3 b hb).2.2.2.1,(hf3 b hb).2.1,(hf3 b hb).2.2.2.2.1,(hf3 b hb).2.2.2.2.2⟩
   have hfree:=I7.free
   rw [hL] at hfree
   refine hRR _ _ H6 m s7 I8 hn (Nat.ne_of_gt I3.lt) (fun x c h z=>?_) ?_ hfree q
   ·obtain ⟨v,y⟩:=I3.cell x c h
    exact absurd y.lt (by rw [z]; exact Nat.lt_irrefl _)
   ·rw [← hs3,Heap.size_push]; exact Nat.le_succ _
  ·have d:=T.item Y y1 y2 y3 y4 i [] s6 _ H6 (fun _ _=>False) I6 (fpY fr6) st6 go
   rw [y5] at d
   refine thn d fun r s7 ⟨u,hr,h7⟩=>?_
   subst hr
   refine thn h7 fun _ s8 ⟨x,H8,I8,r8,y8',st8,fr8⟩=>?_
   have I8':=I8.pinned (fpY fr8) (T.obj _ _ st8)
   have pinK:∀ {σ':St} {H':Hp} {s':Shared},Inv Y ([]++a5m fp s8.heap) σ' H' s'→tn (i + 1) s'.heap∧∀ b∈fp,H' b=none:=fun {σ' H' s'} I' =>
    ⟨T.keep _ _ _ st8 fun b hb o e=>(I'.pin (b,o) (List.mem_append_right _ (List.mem_append_right _ (a2d hb e)))).1,fun b hb=>by
     obtain ⟨o,e,_⟩:=T.obj _ _ st8 b hb
     exact (I'.pin (b,o) (List.mem_append_right _ (List.mem_append_right _ (a2d hb e)))).2.1⟩
   have dg:=hg _ s8 _ H8 x u _ I8' r8 (step x H8 y8')
   rw [y1,y2,y5,y6] at dg
   refine thn dg fun _ s9 ⟨σ9,H9,I9,wk,q9⟩=>?_
   have dt:=ht _ s9 σ9 H9 _ I9 q9
   rw [y1,y2,y5,y6] at dt
   refine thn dt fun ok s10 ⟨H10,I10,q10⟩=>?_
   cases ok with
   | true =>
    rw [if_pos rfl] at q10 ⊢
    have dk:=hk' _ s10 σ9 H10 _ I10 q10
    rw [y1,y2,y5,y6] at dk
    refine thn dk fun ky s11 ⟨v11,H11,I11,r11,q11⟩=>?_
    have dv:=hv' _ s11 σ9 H11 _ I11 q11
    rw [y1,y2,y5,y6] at dv
    refine thn dv fun y s12 ⟨v12,H12,I12,r12,kvs,k,b,hys,hyb,hkb,hz,m',hm,w12⟩=>?_
    subst hyb
    cases (show ky=Value.ref b from r11)
    obtain ⟨z,hd,xs,rel,dd⟩:=d1h I12.hok hys
    rw [y1,y2] at dd
    have hz':xs.length≤sizeLine:=by rw [← Paired.length rel]; exact z
    have hl:(a6i kvs k v12).length≤sizeLine:=by have:=a3q kvs k v12; lia
    have ko:=a9s I12.hok hkb
    rw [y1,y2] at ko
    refine wpAny_dictSet_heap (knd:=tupleKind (a1h X.prog X.w)) (hsz:=hz') (show X.A.units < cLine by lia) ko dd fun h' dd' hs=>?_
    obtain ⟨q,es,ep,hq,h2',h3',h4',h5',h6'⟩:=dd'
    rw [← y1,← y2] at h4'
    have I13:Inv Y ([]++a5m fp s8.heap) σ9 (upd H12 s2.heap.objs.size (.dT (a6i kvs k v12))) { s12 with heap:=h',toks:=s12.toks + (tupleKind (a1h X.prog X.w)).draws k }:=by
     refine b1o I12 (by rw [hys]; exact True.intro) hs ⟨q,hq⟩ ⟨hl,hd,_,(rel.put k hkb r12).keeps fun c ys ec=>?_,q,es,ep,hq,h2',h3',h4',h6'⟩
     rw [a0e (d0g ec hys (fun z=>nomatch z))]
     exact ec
    obtain ⟨t13,f13⟩:=pinK I13
    exact ⟨m',hm,i + 1,_,(I13.unpinned).weak wk.1.symm wk.2,t13,f13,w12⟩
   | false =>
    rw [if_neg Bool.false_ne_true] at q10 ⊢
    obtain ⟨m',hm,w10⟩:=q10
    obtain ⟨t10,f10⟩:=pinK I10
    exact ⟨m',hm,i + 1,_,(I10.unpinned).weak wk.1.symm wk.2,t10,f10,w10⟩
 rw [e5] at loop
 exact codeAny_compStart_dict (loop _ rfl) (T.self _ 0 _ _ _ st4 (loop _ rfl))
theorem c0w (hu:X.A.units + 1 < cLine) (hc:X.calm=true) (SC:CScope X scope own) (hi:PI X.nox tg iter wi)
  (hblock:∀ fp C s H,PG (cxC X scope own fp C s H) tg g∧PTs (cxC X scope own fp C s H) ifs tt∧PE (cxC X scope own fp C s H) kx tk∧PE (cxC X scope own fp C s H) vx tv)
  (hs:∀ x,foldedSetIterable iter X.env x=pure x:=by intro _; rfl) :
  PE X.nox (.DictComp kx vx [⟨tg,iter,ifs,0⟩] scope pos) (c8h wi g tt tk tv own.length):=by
 intro pins s σ H Q I h
 have fr:∀ p∈scope.names,p.2=.free→∃ c,X.env.cells.lookup p.1=some c:=fun p hp hq=>I.ok.has p.1 (SC.free p hp hq)
 rw [arm_eval_DictComp]
 refine wpAny_comprehension_free (use:=none) rfl hs (a4u fr) SC.kind SC.names (thn (hi pins s σ H _ I h) fun v s1 h1=>thn h1 fun itv s2 h2=>?_)
 obtain ⟨it,fp,tn,J,H2,e,I2,T,st2,f2,h2⟩:=h2
 subst e
 refine b9a (X:=X.nox) (own:=own) (RR:=fun acc C=>compPost (model X.prog X.w) X.A (fun _ _=>False) none (EP X.nox pins σ Q) acc C) hu hc ⟨SC.kind,SC.nocell,SC.names,SC.free,SC.apart,SC.hid⟩ (fun C s H=>hblock fp C s H) I2 T st2 f2 h2 ?_
 intro acc C H' m s' I' hn hL hcl hC hH q
 obtain ⟨f0,f1,f2',f3,f4,f5⟩:=I2.fpOk hC hH
 refine ⟨m,hn,fun h' hsb=>⟨.ref acc,H',?_,rfl,q⟩⟩
 exact I'.turned (t':=s'.toks) (fun b o hb e=>(hsb.2 b hb).trans e) f0 f1 f3 f4 f5
end
end L2
end
section
namespace L2
open PySem PySem.Spec PyProof.Rows
section
variable {prog:Program} {w:World} {A:Around} {R:Result→Shared→Prop} {s:Shared}
end
def tIn (wi:TI) (g:TG) (tt:TT) (te:TE) (acc:Addr) (σ:St) (H:Hp) (R:St→Hp→Prop):Prop:=wi σ H fun J H1=>∃ W:Nat→Nat→St→Hp→Prop,(∃ m,W 0 m σ H1)∧∀ i m σ H,W i m σ H →
 (J.stop i H∧R σ H) ∨ (J.go i H∧∀ x H',J.yld i H x H'→g x σ H' fun σ2 H2=>tt σ2 H2 fun b H3 =>
  if b=true then te σ2 H3 fun v H4=>∃ ys,H4 acc=some (.lst ys)∧ys.length < sizeLine∧∃ m',m' < m∧W (i + 1) m' σ2 (upd H4 acc (.lst (ys++[v]))) else ∃ m',m' < m∧W (i + 1) m' σ2 H3)
def c8i (wi:TI) (g:TG) (tt:TT) (wi2:TI) (g2:TG) (tt2:TT) (te:TE) (own:Nat):TE:=fun σ H Q=>wi σ H fun J H1=>∀ acc,H1 acc=none→∃ W:Nat→Nat→Hp→Prop,(∃ m,W 0 m (upd H1 acc (.lst [])))∧∀ i m H,W i m H →
 (J.stop i H∧Q (.ref acc) H) ∨ (J.go i H∧∀ x H',J.yld i H x H'→g x (σ++List.replicate own none) H' fun σ2 H2=>Wk (σ++List.replicate own none) σ2∧tt σ2 H2 fun b H3 =>
  if b=true then tIn wi2 g2 tt2 te acc σ2 H3 fun σ3 H4=>Wk (σ++List.replicate own none) σ3∧∃ m',m' < m∧W (i + 1) m' H4 else ∃ m',m' < m∧W (i + 1) m' H3)
section
variable {X:Cx} {elt tg iter tg2 iter2:Expr} {ifs ifs2:List Expr} {scope:Scope} {own:List Str} {pos:Pos} {wi wi2:TI} {g g2:TG} {tt tt2:TT} {te:TE}
end
end L2
end
section
namespace Kq
open PySem PySem.Spec PyProof.Rows L2
inductive D where
 | non | bl (b:Bool) | int (i:Int) | str (x:String) | tup (xs:List D) | lst (xs:List D)
mutual
noncomputable def D.eqv:D→D→Bool
 | .non,.non=>true
 | .bl a,.bl b=>a == b
 | .bl a,.int j=>(if a then 1 else 0) == j
 | .int i,.bl b=>i == (if b then 1 else 0)
 | .int a,.int b=>a == b
 | .str a,.str b=>a == b
 | .tup a,.tup b=>D.eqvs a b
 | .lst a,.lst b=>D.eqvs a b
 | _,_=>false
noncomputable def D.eqvs:List D→List D→Bool
 | [],[]=>true
 | a :: r,b :: q=>D.eqv a b && D.eqvs r q
 | _,_=>false
end
mutual
noncomputable def D.wt:D→Nat
 | .non=>0 | .bl _=>0
 | .int i=>if -(2 ^ 40) < i∧i < 2 ^ 40 then 41 else 151
 | .str x=>x.length
 | .tup xs=>D.wts xs
 | .lst xs=>D.wts xs
noncomputable def D.wts:List D→Nat
 | []=>0
 | a :: r=>D.wt a + 1 + D.wts r
end
mutual
noncomputable def D.fit:D→Bool
 | .int i=>decide (-(2 ^ 150) < i∧i < 2 ^ 150)
 | .tup xs=>D.fits xs
 | .lst xs=>D.fits xs
 | _=>true
noncomputable def D.fits:List D→Bool
 | []=>true
 | a :: r=>D.fit a && D.fits r
end
inductive FV where
 | non | bl (b:Bool) | int (i:Int) | str (x:String) | tup (xs:List FV) | lst (xs:List FV)
 | scr (ns:List Int)
 | shn (d:D)
 | dct (ks:List (List Int)) (vs:List FV)
 | dci (ks:List Int) (vs:List FV)
 | dcz (o:Obj) (ks:List (List Int)) (vs:List FV)
noncomputable def big:Nat:=100000
inductive Mo where | imm | own | frz
 deriving DecidableEq
abbrev Md:=List Mo
abbrev a0c:=List (Option FV)
noncomputable def a0q:Md→Nat→Mo
 | [],_=>.imm
 | m :: _,0=>m
 | _ :: ms,n + 1=>a0q ms n
noncomputable def lk:a0c→Nat→Option FV
 | [],_=>none
 | x :: _,0=>x
 | _ :: L,n + 1=>lk L n
theorem a4c:∀ (L:a0c) (i:Nat) (v:FV),lk L i=some v↔L[i]?=some (some v)
 | [],i,v=>by simp [lk]
 | x :: L,0,v=>by simp [lk]
 | x :: L,i + 1,v=>by simpa [lk] using a4c L i v
noncomputable def wp {α:Type} (r:Option α) (Q:α→Prop):Prop:=match r with
 | some x=>Q x
 | none=>False
theorem wpx {α:Type} {r:Option α} {Q:α→Prop} (h:wp r Q):∃ x,r=some x∧Q x:=by
 cases r with
 | none=>exact h.elim
 | some x=>exact ⟨x,rfl,h⟩
mutual
noncomputable def dPy:D→PyData
 | .non=>.none
 | .bl b=>.bool b
 | .int i=>.int i
 | .str x=>.str (Γe x)
 | .tup xs=>.tuple (a4h xs)
 | .lst xs=>.list (a4h xs)
noncomputable def a4h:List D→List PyData
 | []=>[]
 | a :: r=>dPy a :: a4h r
end
noncomputable def a1t (ks:List (List Int)):List (List (Int ⊕ Str)):=ks.map fun k=>k.map Sum.inl
noncomputable def a3m (ks:List Int):List (Int ⊕ Str):=ks.map Sum.inl
noncomputable def ScrAt (K:Γd) (S:Hp) (a:Addr) (ns:List Int):Prop:=(∃ o,S a=some (.frz o (.lst (ns.map V.int)))) ∨ SqL K (fun _=>none) a (ns.map V.int)
mutual
noncomputable def RV (K:Γd) (S:Hp):FV→V→Prop
 | .non,v=>v=.non
 | .bl b,v=>v=.bl b
 | .int i,v=>v=.int i
 | .str x,v=>v=.str (Γe x)
 | .tup ps,v=>∃ a xs,v=.ref a∧S a=some (.tup xs)∧RVs K S ps xs
 | .lst ps,v=>∃ a xs,v=.ref a∧S a=some (.lst xs)∧RVs K S ps xs
 | .scr ns,v=>∃ a,v=.ref a∧ScrAt K S a ns
 | .shn d,v=>v=.str (dPy d).shown
 | .dct ks vs,v=>∃ a xs,v=.ref a∧ks.length=vs.length∧S a=some (.dT ((a1t ks).zip xs))∧RVs K S vs xs
 | .dci ks vs,v=>∃ a xs,v=.ref a∧ks.length=vs.length∧S a=some (.dK ((a3m ks).zip xs))∧RVs K S vs xs
 | .dcz o ks vs,v=>∃ a xs,v=.ref a∧ks.length=vs.length∧S a=some (.frz o (.dT ((a1t ks).zip xs)))∧RVs K S vs xs
noncomputable def RVs (K:Γd) (S:Hp):List FV→List V→Prop
 | [],vs=>vs=[]
 | p :: ps,vs=>∃ v r,vs=v :: r∧RV K S p v∧RVs K S ps r
end
mutual
theorem RV.mono {K:Γd} {S S':Hp} (x:Same S S'):∀ {p:FV} {v:V},RV K S p v→RV K S' p v
 | .non,v,h=>h
 | .bl b,v,h=>h
 | .int i,v,h=>h
 | .str _,v,h=>h
 | .shn _,v,h=>h
 | .tup ps,v,⟨a,xs,e,h1,h2⟩=>⟨a,xs,e,x _ _ h1,RVs.mono x h2⟩
 | .lst ps,v,⟨a,xs,e,h1,h2⟩=>⟨a,xs,e,x _ _ h1,RVs.mono x h2⟩
 | .dct ks vs,v,⟨a,xs,e,h0,h1,h2⟩=>⟨a,xs,e,h0,x _ _ h1,RVs.mono x h2⟩
 | .dci ks vs,v,⟨a,xs,e,h0,h1,h2⟩=>⟨a,xs,e,h0,x _ _ h1,RVs.mono x h2⟩
 | .dcz o ks vs,v,⟨a,xs,e,h0,h1,h2⟩=>⟨a,xs,e,h0,x _ _ h1,RVs.mono x h2⟩
 | .scr ns,v,⟨a,e,h⟩=>⟨a,e,h.elim (fun ⟨o,h⟩=>.inl ⟨o,x _ _ h⟩) .inr⟩
theorem RVs.mono {K:Γd} {S S':Hp} (x:Same S S'):∀ {ps:List FV} {vs:List V},RVs K S ps vs→RVs K S' ps vs
 | [],vs,h=>h
 | p :: ps,vs,⟨v,r,e,h1,h2⟩=>⟨v,r,e,RV.mono x h1,RVs.mono x h2⟩
end
section
variable {K:Γd} {S H:Hp}
theorem RVs.length:∀ {ps:List FV} {vs:List V},RVs K S ps vs→ps.length=vs.length
 | [],vs,h=>by cases (show vs=[] from h); rfl
 | p :: ps,vs,h=>by
  obtain ⟨v,r,e,_,h2⟩:=h
  subst e
  rw [List.length_cons,List.length_cons,RVs.length h2]
theorem RVs.get:∀ {ps:List FV} {vs:List V} {i:Nat} {p:FV},RVs K S ps vs→ps[i]?=some p→∃ v,vs[i]?=some v∧RV K S p v
 | [],vs,i,p,_,e=>by simp at e
 | q :: ps,vs,0,p,⟨v,r,e',h1,_⟩,e=>by
  subst e'
  simp at e; subst e
  exact ⟨v,rfl,h1⟩
 | q :: ps,vs,i + 1,p,⟨v,r,e',_,h2⟩,e=>by
  subst e'
  simpa using RVs.get (i:=i) (p:=p) h2 (by simpa using e)
theorem RVs.append:∀ {ps qs:List FV} {vs us:List V},RVs K S ps vs→RVs K S qs us→RVs K S (ps++qs) (vs++us)
 | [],qs,vs,us,h,g=>by cases (show vs=[] from h); exact g
 | p :: ps,qs,vs,us,⟨v,r,e,h1,h2⟩,g=>by
  subst e
  exact ⟨v,r++us,rfl,h1,RVs.append h2 g⟩
theorem RVs.one {p:FV} {v:V} (h:RV K S p v):RVs K S [p] [v]:=⟨v,[],rfl,h,rfl⟩
theorem RVs.take:∀ {ps:List FV} {vs:List V} (n:Nat),RVs K S ps vs→RVs K S (ps.take n) (vs.take n)
 | [],vs,n,h=>by cases (show vs=[] from h); simp [RVs]
 | p :: ps,vs,0,h=>by simp [RVs]
 | p :: ps,vs,n + 1,⟨v,r,e,h1,h2⟩=>by
  subst e
  exact ⟨v,r.take n,rfl,h1,RVs.take n h2⟩
theorem RVs.drop:∀ {ps:List FV} {vs:List V} (n:Nat),RVs K S ps vs→RVs K S (ps.drop n) (vs.drop n)
 | [],vs,n,h=>by cases (show vs=[] from h); simp [RVs]
 | p :: ps,vs,0,h=>h
 | p :: ps,vs,n + 1,⟨v,r,e,h1,h2⟩=>by
  subst e
  exact RVs.drop n h2
theorem RVs.set:∀ {ps:List FV} {vs:List V} (n:Nat) {p:FV} {v:V},RVs K S ps vs→RV K S p v→RVs K S (ps.set n p) (vs.set n v)
 | [],vs,n,p,v,h,_=>by cases (show vs=[] from h); simp [RVs]
 | q :: ps,vs,0,p,v,⟨v',r,e,h1,h2⟩,g=>by
  subst e
  exact ⟨v,r,rfl,g,h2⟩
 | q :: ps,vs,n + 1,p,v,⟨v',r,e,h1,h2⟩,g=>by
  subst e
  exact ⟨v',r.set n v,rfl,h1,RVs.set n h2 g⟩
theorem RVs.rev:∀ {ps:List FV} {vs:List V},RVs K S ps vs→RVs K S ps.reverse vs.reverse
 | [],vs,h=>by cases (show vs=[] from h); exact h
 | p :: ps,vs,⟨v,r,e,h1,h2⟩=>by
  subst e
  rw [List.reverse_cons,List.reverse_cons]
  exact (RVs.rev h2).append (RVs.one h1)
theorem RVs.rep {ps:List FV} {vs:List V} (h:RVs K S ps vs):∀ k:Nat,RVs K S (List.replicate k ps).flatten (List.replicate k vs).flatten
 | 0=>rfl
 | k + 1=>by
  rw [List.replicate_succ,List.replicate_succ,List.flatten_cons,List.flatten_cons]
  exact h.append (h.rep k)
theorem RVs.ns:∀ (ns:List Int),RVs K S (ns.map .int) (ns.map V.int)
 | []=>rfl
 | n :: ns=>⟨_,_,rfl,rfl,RVs.ns ns⟩
theorem RVs.one_of {p:FV} {us:List V} (h:RVs K S [p] us):∃ u,us=[u]∧RV K S p u:=by
 obtain ⟨v,r,rfl,h1,h2⟩:=h
 cases (show r=[] from h2)
 exact ⟨v,rfl,h1⟩
theorem RVs.two_of {p q:FV} {us:List V} (h:RVs K S [p,q] us):∃ u v,us=[u,v]∧RV K S p u∧RV K S q v:=by
 obtain ⟨v,r,rfl,h1,h2⟩:=h
 obtain ⟨u,rfl,h3⟩:=h2.one_of
 exact ⟨v,u,rfl,h1,h3⟩
noncomputable def d5z:FV→Option (List FV)
 | .lst ps=>some ps
 | .dct ks vs=>if ks.length=vs.length then some vs else none
 | .dci ks vs=>if ks.length=vs.length then some vs else none
 | .dcz _ ks vs=>if ks.length=vs.length then some vs else none
 | _=>none
noncomputable def d2k:FV→List V→HO
 | .dct ks _,xs=>.dT ((a1t ks).zip xs)
 | .dci ks _,xs=>.dK ((a3m ks).zip xs)
 | .dcz o ks _,xs=>.frz o (.dT ((a1t ks).zip xs))
 | _,xs=>.lst xs
noncomputable def a3n (K:Γd) (S H:Hp) (a:Addr) (v:FV):Prop:=S a=none∧∃ ps xs,d5z v=some ps∧H a=some (d2k v xs)∧RVs K S ps xs
noncomputable def RH (K:Γd) (S H:Hp) (v:FV) (x:V):Prop:=RV K S v x ∨ ∃ a,x=.ref a∧a3n K S H a v
theorem RH.lst {ps:List FV} {x:V} (s:Same S H) (h:RH K S H (.lst ps) x):∃ a xs,x=.ref a∧H a=some (.lst xs)∧RVs K S ps xs:=by
 rcases h with ⟨a,xs,e,h1,h2⟩ | ⟨a,e,_,qs,xs,e2,h1,h2⟩
 ·exact ⟨a,xs,e,s _ _ h1,h2⟩
 ·cases e2; exact ⟨a,xs,e,h1,h2⟩
theorem RH.val {v:FV} {x:V} (h:RH K S H v x) (n:d5z v=none):RV K S v x:=by
 rcases h with h | ⟨a,_,_,ps,xs,e,_⟩
 ·exact h
 ·rw [n] at e; cases e
theorem RH.tup {ps:List FV} {x:V} (s:Same S H) (h:RH K S H (.tup ps) x):∃ a xs,x=.ref a∧H a=some (.tup xs)∧RVs K S ps xs:=by
 obtain ⟨a,xs,e,h1,h2⟩:=h.val rfl
 exact ⟨a,xs,e,s _ _ h1,h2⟩
theorem ScrAt.sq {a:Addr} {ns:List Int} (s:Same S H) (h:ScrAt K S a ns):SqL K H a (ns.map V.int):=by
 rcases h with ⟨o,h⟩ | h
 ·exact .inl (.inr ⟨o,s _ _ h⟩)
 ·rcases h with (h | ⟨o,h⟩) | h
  ·cases h
  ·cases h
  ·exact .inr h
noncomputable def a2e:FV→Option (List FV)
 | .lst xs=>some xs
 | .scr ns=>some (ns.map .int)
 | _=>none
noncomputable def a3b:FV→Option (List FV)
 | .tup xs=>some xs
 | v=>a2e v
theorem RH.list {v:FV} {ps:List FV} {x:V} (s:Same S H) (h:RH K S H v x) (e:a2e v=some ps):∃ a xs,x=.ref a∧SqL K H a xs∧RVs K S ps xs:=by
 cases v with
 | lst qs =>
  cases e
  obtain ⟨a,xs,rfl,h1,h2⟩:=h.lst s
  exact ⟨a,xs,rfl,SqL.of h1,h2⟩
 | scr ns =>
  cases e
  obtain ⟨a,rfl,g⟩:=h.val rfl
  exact ⟨a,_,rfl,ScrAt.sq s g,RVs.ns ns⟩
 | _=>cases e
noncomputable def isL:FV→Bool
 | .tup _=>false
 | _=>true
theorem RH.seq {v:FV} {ps:List FV} {x:V} (s:Same S H) (h:RH K S H v x) (e:a3b v=some ps):∃ a xs,x=.ref a∧SqB (isL v) K H a xs∧RVs K S ps xs:=by
 cases v with
 | tup qs =>
  cases e
  obtain ⟨a,xs,rfl,h1,h2⟩:=h.tup s
  exact ⟨a,xs,rfl,SqT.of h1,h2⟩
 | lst qs=>exact h.list s e
 | scr qs=>exact h.list s e
 | _=>cases e
end
noncomputable def a8g:HO→Bool
 | .tup _=>true
 | _=>false
theorem a5n (v:FV) (xs:List V):a8g (d2k v xs)=false:=by cases v <;> rfl
structure Cn where
 H0:Hp
 S0:Hp
 P0:Option Addr
 fz:List (Nat×Addr)
 pr:List (Addr×HO)
structure Iv (K:Γd) (c:Cn) (md:Md) (L:a0c) (σ:L2.St) (S H:Hp):Prop where
 len:L.length=σ.length
 imm:∀ i v,a0q md i=.imm→L[i]?=some (some v)→∃ x,σ[i]?=some (some x)∧RV K S v x
 own:∀ i v,a0q md i≠.imm→L[i]?=some (some v)→∃ a,σ[i]?=some (some (.ref a))∧a3n K S H a v∧(c.P0=some a ∨ c.H0 a=none)
 dis:∀ i j v w a,a0q md i≠.imm→a0q md j≠.imm→L[i]?=some (some v)→L[j]?=some (some w)→σ[i]?=some (some (.ref a))→σ[j]?=some (some (.ref a))→i=j
 sub:Same S H
 frame:∀ a o,c.H0 a=some o→c.P0≠some a→H a=some o
 s0:Same c.S0 S
 grow:∀ a o,S a=some o→c.S0 a=some o ∨ c.H0 a=none ∨ a8g o=true
 lent:∀ a,c.P0=some a→a0q md 0≠.imm∧σ[0]?=some (some (.ref a))∧∃ v,L[0]?=some (some v)
 fzs:∀ p∈c.fz,a0q md p.1=.frz∧σ[p.1]?=some (some (.ref p.2))∧∃ v,L[p.1]?=some (some v)
 fzm:∀ i v,a0q md i=.frz→L[i]?=some (some v)→∃ a,(i,a)∈c.fz
 fzp:∀ p∈c.fz,∃ o,(p.2,o)∈c.pr
 prs:∀ p∈c.pr,H p.1=some p.2∧S p.1=none∧∀ i v,a0q md i=.own→L[i]?=some (some v)→σ[i]?≠some (some (.ref p.1))
 ntp:∀ p∈c.pr,a8g p.2=false
section
variable {K:Γd} {c:Cn} {md:Md} {L:a0c} {σ:L2.St} {S H S' H':Hp}
theorem Iv.h0 (I:Iv K c md L σ S H) {p:Addr} (h:H p=none):c.H0 p=none:=by
 cases e:c.H0 p with
 | none=>rfl
 | some o =>
  by_cases z:c.P0=some p
  ·obtain ⟨m,e1,v,e2⟩:=I.lent p z
   obtain ⟨a,e3,⟨_,_,_,_,e4,_⟩,_⟩:=I.own 0 v m e2
   rw [e1] at e3; cases e3
   rw [h] at e4; cases e4
  ·rw [I.frame p o e z] at h; cases h
theorem Iv.sn (I:Iv K c md L σ S H) {p:Addr} (h:H p=none):S p=none:=by
 cases e:S p with
 | none=>rfl
 | some o=>rw [I.sub p o e] at h; cases h
theorem Iv.go3 (I:Iv K c md L σ S H) (s:Same S S') (sub:Same S' H') (g:∀ a o,S' a=some o→S a=some o ∨ H a=none ∨ a8g o=true) (k:∀ a o,H a=some o→H' a=some o):Iv K c md L σ S' H' where
 len:=I.len
 imm:=fun i v h e=>let ⟨x,e1,r⟩:=I.imm i v h e; ⟨x,e1,r.mono s⟩
 own:=fun i v h e=>by
  obtain ⟨a,e1,⟨h1,ps,xs,e2,h2,h3⟩,h4⟩:=I.own i v h e
  refine ⟨a,e1,⟨?_,ps,xs,e2,k _ _ h2,h3.mono s⟩,h4⟩
  cases q:S' a with
  | none=>rfl
  | some o =>
   rcases g a o q with z | z | z
   ·rw [h1] at z; cases z
   ·rw [h2] at z; cases z
   ·have:=sub a o q
    rw [k _ _ h2] at this
    rw [← Option.some.inj this,a5n] at z; cases z
 dis:=I.dis
 sub:=sub
 frame:=fun a o h n=>k _ _ (I.frame a o h n)
 s0:=I.s0.trans s
 grow:=fun a o h=>(g a o h).elim (I.grow a o) fun z=>z.elim (fun z=>.inr (.inl (I.h0 z))) fun z=>.inr (.inr z)
 lent:=I.lent
 fzs:=I.fzs
 fzm:=I.fzm
 fzp:=I.fzp
 prs:=fun p hp=>by
  obtain ⟨h1,h2,h3⟩:=I.prs p hp
  refine ⟨k _ _ h1,?_,h3⟩
  cases q:S' p.1 with
  | none=>rfl
  | some o =>
   rcases g _ o q with z | z | z
   ·rw [h2] at z; cases z
   ·rw [h1] at z; cases z
   ·have:=sub _ o q
    rw [k _ _ h1] at this
    rw [← Option.some.inj this,I.ntp p hp] at z; cases z
 ntp:=I.ntp
theorem Iv.go (I:Iv K c md L σ S H) (s:Same S S') (sub:Same S' H') (g:∀ a o,S' a=some o→S a=some o ∨ H a=none) (k:∀ a o,H a=some o→H' a=some o):Iv K c md L σ S' H':=I.go3 s sub (fun a o e=>(g a o e).imp_right .inl) k
theorem a0p {p:Addr} {o:HO} (h:H p=none):Same H (upd H p o):=fun a u e=>by rw [a0e (a0w e h)]; exact e
theorem Iv.new (I:Iv K c md L σ S H) {p:Addr} (h:H p=none) (o:HO):Iv K c md L σ (upd S p o) (upd H p o) :=
 I.go (a0p (I.sn h)) (fun a u e=>by
  by_cases z:a=p
  ·subst z; rw [a0f] at e ⊢; exact e
  ·rw [a0e z] at e ⊢; exact I.sub a u e) (fun a u e=>by
  by_cases z:a=p
  ·subst z; exact .inr h
  ·rw [a0e z] at e; exact .inl e) (a0p h)
theorem Iv.lay (I:Iv K c md L σ S H) {p:Addr} (h:H p=none) (o:HO):Iv K c md L σ S (upd H p o) :=
 I.go (Same.refl S) (I.sub.trans (a0p h)) (fun a u e=>.inl e) (a0p h)
theorem Iv.back3 (I:Iv K c md L σ S H) {i:Nat} {v w:FV} {a:Addr} (m:a0q md i=.own) (e:L[i]?=some (some v)) (e1:σ[i]?=some (some (.ref a))) (s:Same S S') (sub:Same S' H') (g:∀ a o,S' a=some o→S a=some o ∨ H a=none ∨ a8g o=true)
  (k:∀ b o,H b=some o→b≠a→H' b=some o) (new:a3n K S' H' a w):Iv K c md (L.set i (some w)) σ S' H':=by
 have mi:a0q md i≠.imm:=fun z=>by rw [m] at z; cases z
 have hi:=(List.getElem?_eq_some_iff.mp e).1
 obtain ⟨a',e1',⟨h1,qs,ys,_,h2,h3⟩,h4⟩:=I.own i v mi e
 rw [e1] at e1'; cases e1'
 have look:∀ j u,(L.set i (some w))[j]?=some (some u)→(j=i∧u=w) ∨ (j≠i∧L[j]?=some (some u)):=fun j u z=>by
  by_cases q:j=i
  ·subst q; rw [List.getElem?_set_self hi] at z; cases z; exact .inl ⟨rfl,rfl⟩
  ·rw [List.getElem?_set_ne (Ne.symm q)] at z; exact .inr ⟨q,z⟩
 have lookx:∀ j,(∃ u,L[j]?=some (some u))→∃ u,(L.set i (some w))[j]?=some (some u):=fun j h=>by
  obtain ⟨u,z⟩:=h
  by_cases q:j=i
  ·subst q; exact ⟨_,List.getElem?_set_self hi⟩
  ·exact ⟨u,by rw [List.getElem?_set_ne (Ne.symm q)]; exact z⟩
 have old:∀ j u,(L.set i (some w))[j]?=some (some u)→∃ u,L[j]?=some (some u):=fun j u z=>(look j u z).elim (fun q=>⟨v,by rw [q.1]; exact e⟩) fun q=>⟨u,q.2⟩
 refine ⟨by rw [List.length_set]; exact I.len,fun j u hm z=>?_,fun j u hm z=>?_,fun j k u u2 b m1 m2 z1 z2=>?_,sub,fun b o z n=>?_,I.s0.trans s,fun b o z=>(g b o z).elim (I.grow b o) fun z=>z.elim (fun z=>.inr (.inl (I.h0 z))) fun z=>.inr (.inr z),fun b z=>?_,fun p hp=>?_,fun j u hm z=>?_,I.fzp,fun p hp=>?_,I.ntp⟩
 ·rcases look j u z with ⟨q,_⟩ | ⟨_,z⟩
  ·rw [q,m] at hm; cases hm
  ·obtain ⟨x,f1,f2⟩:=I.imm j u hm z
   exact ⟨x,f1,f2.mono s⟩
 ·rcases look j u z with ⟨rfl,rfl⟩ | ⟨q,z⟩
  ·exact ⟨a,e1,new,h4⟩
  ·obtain ⟨b,f1,⟨g1,rs,zs,g2,g3,g4⟩,g5⟩:=I.own j u hm z
   have hb:b≠a:=fun y=>by subst y; exact q (I.dis j i u v b hm mi z e f1 e1)
   refine ⟨b,f1,⟨?_,rs,zs,g2,k b _ g3 hb,g4.mono s⟩,g5⟩
   cases q':S' b with
   | none=>rfl
   | some o =>
    rcases g b o q' with z | z | z
    ·rw [g1] at z; cases z
    ·rw [g3] at z; cases z
    ·have:=sub b o q'
     rw [k b _ g3 hb] at this
     rw [← Option.some.inj this,a5n] at z; cases z
 ·obtain ⟨w',z1⟩:=old j u z1
  obtain ⟨u',z2⟩:=old k u2 z2
  exact I.dis j k w' u' b m1 m2 z1 z2
 ·refine k b o (I.frame b o z n) fun y=>?_
  subst y
  rcases h4 with y | y
  ·exact n y
  ·rw [z] at y; cases y
 ·obtain ⟨g1,g2,g3⟩:=I.lent b z
  exact ⟨g1,g2,lookx 0 g3⟩
 ·obtain ⟨g1,g2,g4⟩:=I.fzs p hp
  exact ⟨g1,g2,lookx _ g4⟩
 ·rcases look j u z with ⟨q,_⟩ | ⟨_,z⟩
  ·rw [q,m] at hm; cases hm
  ·exact I.fzm j u hm z
 ·obtain ⟨g1,g2,g3⟩:=I.prs p hp
  have kp:=k _ _ g1 fun y=>g3 i v m e (by rw [y]; exact e1)
  refine ⟨kp,?_,fun j u hm z=>let ⟨u',z'⟩:=old j u z; g3 j u' hm z'⟩
  cases q':S' p.1 with
  | none=>rfl
  | some o =>
   rcases g _ o q' with z | z | z
   ·rw [g2] at z; cases z
   ·rw [g1] at z; cases z
   ·have:=sub _ o q'
    rw [kp] at this
    rw [← Option.some.inj this,I.ntp p hp] at z; cases z
theorem Iv.back (I:Iv K c md L σ S H) {i:Nat} {v w:FV} {a:Addr} (m:a0q md i=.own) (e:L[i]?=some (some v)) (e1:σ[i]?=some (some (.ref a))) (s:Same S S') (sub:Same S' H') (g:∀ a o,S' a=some o→S a=some o ∨ H a=none)
  (k:∀ b o,H b=some o→b≠a→H' b=some o) (new:a3n K S' H' a w):Iv K c md (L.set i (some w)) σ S' H':=I.back3 m e e1 s sub (fun a o e=>(g a o e).imp_right .inl) k new
theorem Iv.write (I:Iv K c md L σ S H) {i:Nat} {v:FV} {a:Addr} {ps:List FV} {xs:List V} (m:a0q md i=.own) (e:L[i]?=some (some v)) (e1:σ[i]?=some (some (.ref a))) (r:RVs K S ps xs) :
  Iv K c md (L.set i (some (.lst ps))) σ S (upd H a (.lst xs)):=by
 obtain ⟨a',e1',⟨h1,_⟩,_⟩:=I.own i v (fun z=>by rw [m] at z; cases z) e
 rw [e1] at e1'; cases e1'
 exact I.back m e e1 (Same.refl S) (fun b o z=>by rw [a0e fun y=>by subst y; rw [h1] at z; cases z]; exact I.sub b o z) (fun b o z=>.inl z) (fun b o z n=>by rw [a0e n]; exact z) ⟨h1,ps,xs,rfl,a0f,r⟩
theorem Iv.set (I:Iv K c md L σ S H) {i:Nat} {v:FV} {x:V} (ni:∀ a,c.P0=some a→i≠0) (nf:a0q md i≠.frz) (h:(a0q md i=.imm∧RV K S v x) ∨ (a0q md i=.own∧∃ a,x=.ref a∧a3n K S H a v∧c.H0 a=none∧(∀ p∈c.pr,p.1≠a)∧∀ j w,j≠i→a0q md j≠.imm→L[j]?=some (some w)→σ[j]?≠some (some (.ref a)))) :
  Iv K c md (L.set i (some v)) (σ.set i (some x)) S H:=by
 have look:∀ j w,(L.set i (some v))[j]?=some (some w)→(j=i∧w=v∧(σ.set i (some x))[j]?=some (some x)) ∨ (j≠i∧L[j]?=some (some w)∧(σ.set i (some x))[j]?=σ[j]?):=fun j w z=>by
  by_cases q:j=i
  ·subst q
   have hj:j < L.length:=by have:=(List.getElem?_eq_some_iff.mp z).1; rwa [List.length_set] at this
   rw [List.getElem?_set_self hj] at z; cases z
   exact .inl ⟨rfl,rfl,by rw [List.getElem?_set_self (by rw [← I.len]; exact hj)]⟩
  ·rw [List.getElem?_set_ne (Ne.symm q)] at z
   exact .inr ⟨q,z,List.getElem?_set_ne (Ne.symm q)⟩
 have far:∀ j,j≠i→(L.set i (some v))[j]?=L[j]?∧(σ.set i (some x))[j]?=σ[j]?:=fun j q=>⟨List.getElem?_set_ne (Ne.symm q),List.getElem?_set_ne (Ne.symm q)⟩
 refine ⟨by rw [List.length_set,List.length_set]; exact I.len,fun j w hm z=>?_,fun j w hm z=>?_,fun j k w u b m1 m2 z1 z2 y1 y2=>?_,I.sub,I.frame,I.s0,I.grow,fun b z=>?_,fun p hp=>?_,fun j w hm z=>?_,I.fzp,fun p hp=>?_,I.ntp⟩
 ·rcases look j w z with ⟨rfl,rfl,y⟩ | ⟨q,z,y⟩
  ·rcases h with ⟨_,r⟩ | ⟨hm',_⟩
   ·exact ⟨x,y,r⟩
   ·rw [hm] at hm'; cases hm'
  ·rw [y]; exact I.imm j w hm z
 ·rcases look j w z with ⟨rfl,rfl,y⟩ | ⟨q,z,y⟩
  ·rcases h with ⟨hm',_⟩ | ⟨_,a,rfl,o,h0,_,_⟩
   ·exact absurd hm' hm
   ·exact ⟨a,y,o,.inr h0⟩
  ·rw [y]; exact I.own j w hm z
 ·rcases look j w z1 with ⟨p1,p2,p3⟩ | ⟨p1,p2,p3⟩
  ·rcases look k u z2 with ⟨q1,q2,q3⟩ | ⟨q1,q2,q3⟩
   ·rw [p1,q1]
   ·rcases h with ⟨hm',_⟩ | ⟨_,a,rfl,_,_,_,n⟩
    ·rw [p1] at m1; exact absurd hm' m1
    ·rw [p3] at y1; cases y1
     rw [q3] at y2
     exact absurd y2 (n k u q1 m2 q2)
  ·rw [p3] at y1
   rcases look k u z2 with ⟨q1,q2,q3⟩ | ⟨q1,q2,q3⟩
   ·rcases h with ⟨hm',_⟩ | ⟨_,a,rfl,_,_,_,n⟩
    ·rw [q1] at m2; exact absurd hm' m2
    ·rw [q3] at y2; cases y2
     exact absurd y1 (n j w p1 m1 p2)
   ·rw [q3] at y2
    exact I.dis j k w u b m1 m2 p2 q2 y1 y2
 ·obtain ⟨g1,g2,g3⟩:=I.lent b z
  obtain ⟨f1,f2⟩:=far 0 (Ne.symm (ni b z))
  rw [f1,f2]; exact ⟨g1,g2,g3⟩
 ·obtain ⟨g1,g2,g4⟩:=I.fzs p hp
  obtain ⟨f1,f2⟩:=far p.1 fun y=>nf (by rw [← y]; exact g1)
  rw [f1,f2]; exact ⟨g1,g2,g4⟩
 ·rcases look j w z with ⟨rfl,_,_⟩ | ⟨_,z,_⟩
  ·exact absurd hm nf
  ·exact I.fzm j w hm z
 ·obtain ⟨g1,g2,g3⟩:=I.prs p hp
  refine ⟨g1,g2,fun j w hm z=>?_⟩
  rcases look j w z with ⟨q1,q2,q3⟩ | ⟨q1,q2,q3⟩
  ·rcases h with ⟨hm',_⟩ | ⟨_,a,rfl,_,_,n,_⟩
   ·rw [q1,hm'] at hm; cases hm
   ·rw [q3]; exact fun y=>n p hp (by cases y; rfl)
  ·rw [q3]; exact g3 j w hm q2
theorem Iv.tup (I:Iv K c md L σ S H) {b:Addr} {xs:List V} (h:H b=some (.tup xs)):Iv K c md L σ (upd S b (.tup xs)) H∧Same S (upd S b (.tup xs)):=by
 have s:Same S (upd S b (.tup xs)):=fun a o e=>by
  by_cases z:a=b
  ·subst z; rw [I.sub _ _ e] at h; rw [h,a0f]
  ·rw [a0e z]; exact e
 refine ⟨I.go3 s (fun a o e=>?_) (fun a o e=>?_) fun a o e=>e,s⟩
 ·by_cases z:a=b
  ·subst z; rw [a0f] at e; rw [← e]; exact h
  ·rw [a0e z] at e; exact I.sub a o e
 ·by_cases z:a=b
  ·subst z; rw [a0f] at e; cases e; exact .inr (.inr rfl)
  ·rw [a0e z] at e; exact .inl e
end
end Kq
end
section
namespace Kq
noncomputable def a5p {α β:Type} (f:α→Option β):List α→Option (List β)
 | []=>some []
 | x :: xs=>(f x).bind fun y=>(a5p f xs).map (y :: ·)
noncomputable def fD:Nat→FV→Option D
 | 0,_=>none
 | n + 1,v=>match v with
  | .non=>some .non
  | .bl b=>some (.bl b)
  | .int i=>some (.int i)
  | .str x=>some (.str x)
  | .tup xs=>(a5p (fD n) xs).map .tup
  | .lst xs=>(a5p (fD n) xs).map .lst
  | .scr _=>none
  | .shn _=>none
  | .dct _ _=>none
  | .dci _ _=>none
  | .dcz _ _ _=>none
noncomputable def a0l:Nat:=40
noncomputable def b9n:FV→Option Bool
 | .non=>some false
 | .bl b=>some b
 | .int i=>some (i != 0)
 | .str _=>none
 | .tup xs=>some (!xs.isEmpty)
 | .lst xs=>some (!xs.isEmpty)
 | .scr xs=>some (!xs.isEmpty)
 | .shn _=>none
 | .dct _ _=>none
 | .dci _ _=>none
 | .dcz _ _ _=>none
noncomputable def a3o:FV→Option Int | .int i=>some i | _=>none
noncomputable def blF:FV→Option Bool | .bl b=>some b | _=>none
noncomputable def a6f:FV→Option (List FV) | .tup xs=>some xs | _=>none
noncomputable def a8u:FV→Option (List FV) | .lst xs=>some xs | _=>none
noncomputable def small (i:Int):Bool:=decide (-(2 ^ 64) < i∧i < 2 ^ 64)
noncomputable def a1a (i:Int):Bool:=decide (-(2 ^ 62)≤i∧i < 2 ^ 62)
noncomputable def a7r (i:Int):Bool:=decide (-(2 ^ 40)≤i∧i≤2 ^ 40)
noncomputable def eqD (a b:FV):Option Bool:=(fD a0l a).bind fun x=>(fD a0l b).bind fun y=>some (D.eqv x y)
noncomputable def eqF (a b:FV):Option Bool:=match a,b with
 | .shn x,.shn y=>open Classical in if x=y then some true else none
 | a,b=>eqD a b
noncomputable def inD:D→D→Option Bool
 | x,.lst xs=>some (xs.any fun y=>D.eqv y x)
 | x,.tup xs=>some (xs.any fun y=>D.eqv y x)
 | _,_=>none
noncomputable def inF (a b:FV):Option Bool:=(fD a0l a).bind fun x=>(fD a0l b).bind fun y=>inD x y
noncomputable def a0z:List FV→Option (List Int)
 | []=>some []
 | .int i :: r=>(a0z r).map (i :: ·)
 | _=>none
noncomputable def a4x:List FV→Option (List Bool)
 | []=>some []
 | .bl b :: r=>(a4x r).map (b :: ·)
 | _=>none
noncomputable def c8d:List FV→Option (List (List Int))
 | []=>some []
 | .tup xs :: r=>(a0z xs).bind fun t=>(c8d r).map (t :: ·)
 | _=>none
noncomputable def lexLt:List Int→List Int→Bool
 | [],[]=>false
 | [],_ :: _=>true
 | _ :: _,[]=>false
 | a :: r,b :: q=>if a=b then lexLt r q else decide (a < b)
noncomputable def lexLe:List Int→List Int→Bool
 | [],[]=>true
 | [],_ :: _=>true
 | _ :: _,[]=>false
 | a :: r,b :: q=>if a=b then lexLe r q else decide (a≤b)
noncomputable def a2x (f:Int→Int→Option FV) (v w:FV):Option FV:=(a3o v).bind fun i=>(a3o w).bind fun j=>f i j
noncomputable def a1r (v w:FV):Option FV:=match v with
 | .tup xs=>(a6f w).bind fun ys=>if xs.length + ys.length≤big then some (.tup (xs++ys)) else none
 | .lst xs=>(a8u w).bind fun ys=>if xs.length + ys.length≤big then some (.lst (xs++ys)) else none
 | v=>a2x (fun i j=>some (.int (i + j))) v w
noncomputable def b2d:FV→FV→Option FV:=a2x fun i j=>some (.int (i - j))
noncomputable def a9k (v w:FV):Option FV:=match v with
 | .lst xs=>(a3o w).bind fun k=>if -(2 ^ 63)≤k∧k < 2 ^ 63∧xs.length * k.toNat≤big then some (.lst (List.replicate k.toNat xs).flatten) else none
 | v=>a2x (fun i j=>if (small i || small j)=true then some (.int (i * j)) else none) v w
noncomputable def b4n:FV→FV→Option FV:=a2x fun i j=>if 0 < j∧j < 1073741824 then some (.int (i / j)) else none
noncomputable def c3f:FV→FV→Option FV:=a2x fun i j=>if 0 < j then some (.int (i % j)) else none
noncomputable def c5d:FV→FV→Option FV:=a2x fun i j=>if 0≤j∧j≤1000∧small i=true then some (.int (i ^ j.toNat)) else none
noncomputable def eqB (a b:FV):Option FV:=(eqF a b).map .bl
noncomputable def neB (a b:FV):Option FV:=(eqF a b).map fun r=>.bl (!r)
noncomputable def inB (a b:FV):Option FV:=(inF a b).map .bl
noncomputable def niB (a b:FV):Option FV:=(inF a b).map fun r=>.bl (!r)
noncomputable def ltB (v w:FV):Option FV:=match v with
 | .tup xs=>(a6f w).bind fun ys=>(a0z xs).bind fun a=>(a0z ys).bind fun b=>some (.bl (lexLt a b))
 | v=>a2x (fun i j=>some (.bl (decide (i < j)))) v w
noncomputable def leB (v w:FV):Option FV:=match v with
 | .tup xs=>(a6f w).bind fun ys=>(a0z xs).bind fun a=>(a0z ys).bind fun b=>some (.bl (lexLe a b))
 | v=>a2x (fun i j=>some (.bl (decide (i≤j)))) v w
noncomputable def gtB:FV→FV→Option FV:=a2x fun i j=>some (.bl (decide (j < i)))
noncomputable def geB:FV→FV→Option FV:=a2x fun i j=>some (.bl (decide (j≤i)))
noncomputable def ixN (n:Nat) (i:Int):Option Nat:=if 0≤i then (if i < n then some i.toNat else none) else if -(n:Int)≤i then some (i + n).toNat else none
noncomputable def atF (xs:List FV) (i:Int):Option FV:=(ixN xs.length i).bind fun j=>xs[j]?
noncomputable def ixF (v w:FV):Option FV:=(a3o w).bind fun j=>(a3b v).bind fun xs=>atF xs j
noncomputable def c1d:FV→FV→Option FV:=a2x fun i j=>some (.int (if j < i then j else i))
noncomputable def max2F:FV→FV→Option FV:=a2x fun i j=>some (.int (if j > i then j else i))
noncomputable def a2r:FV→Option FV | .non=>some (.bl true) | _=>some (.bl false)
noncomputable def a2a:FV→Option FV | .non=>some (.bl false) | _=>some (.bl true)
noncomputable def b7u (c:Bool):FV→Option FV | .bl b=>some (.bl (b == c)) | _=>some (.bl false)
noncomputable def a4v (c:Bool):FV→Option FV | .bl b=>some (.bl (b != c)) | _=>some (.bl true)
noncomputable def d2o (v:FV):Option FV:=(blF v).map fun b=>.bl (!b)
noncomputable def d2p (v:FV):Option FV:=(a3o v).map fun i=>.int (-i)
noncomputable def c4a (v:FV):Option FV:=(a6f v).map fun xs=>.tup xs.reverse
noncomputable def a6z (v:FV):Option FV:=(a3b v).map fun xs=>.int xs.length
noncomputable def d2c (v:FV):Option FV:=(a3o v).map fun i=>.int (if i < 0 then -i else i)
noncomputable def b2a:FV→Option FV | .int i=>some (.int i) | .bl b=>some (.int (if b then 1 else 0)) | _=>none
noncomputable def c8j (xs:List FV):Option Int:=(a0z xs).bind fun ns=>if ns.length≤big∧ns.all a7r=true then some ns.sum else none
noncomputable def sumF (v:FV):Option FV:=(a2e v).bind fun xs=>(c8j xs).map .int
noncomputable def c7r (v:FV):Option FV:=(a2e v).bind fun xs=>(a4x xs).map fun bs=>.bl (bs.all id)
noncomputable def anyF (v:FV):Option FV:=(a2e v).bind fun xs=>(a4x xs).map fun bs=>.bl (bs.any id)
noncomputable def a1g (b:Int):List Int→Int
 | []=>b
 | x :: r=>a1g (if x < b then x else b) r
noncomputable def c3k (b:List Int):List (List Int)→List Int
 | []=>b
 | x :: r=>c3k (if lexLt x b=true then x else b) r
noncomputable def d0j (xs:List FV):Option FV:=(a0z xs).bind fun ns=>match ns with
 | n :: r=>some (.int (a1g n r))
 | []=>none
noncomputable def minT (xs:List FV):Option FV:=(c8d xs).bind fun ns=>match ns with
 | n :: r=>some (.tup ((c3k n r).map .int))
 | []=>none
noncomputable def b7g (v:FV):Option FV:=(a2e v).bind d0j
noncomputable def minTF (v:FV):Option FV:=(a2e v).bind minT
noncomputable def a2m (v:FV):Option FV:=(a3b v).map .tup
noncomputable def a4q (v:FV):Option FV:=(a3b v).map .lst
noncomputable def d4o (v:FV):Option FV:=(fD a0l v).bind fun d=>if d.fit=true∧d.wt≤big then some (.shn d) else none
noncomputable def c4i (v:FV):Option FV:=match v with
 | .non=>some (.str "None")
 | .bl b=>some (.str (if b then "True" else "False"))
 | .str x=>some (.str x)
 | .int i=>if -(2 ^ 150) < i∧i < 2 ^ 150 then some (.str (toString i)) else none
 | .tup xs=>d4o (.tup xs)
 | .lst xs=>d4o (.lst xs)
 | .scr _=>none | .shn _=>none | .dct _ _=>none | .dci _ _=>none | .dcz _ _ _=>none
inductive Ty where | int | bool | str | list | tuple
 deriving DecidableEq
noncomputable def a5t:FV→Ty→Option Bool
 | .non,_=>some false
 | .bl _,t=>some (t == .int || t == .bool)
 | .int _,t=>some (t == .int)
 | .str _,t=>some (t == .str)
 | .tup _,t=>some (t == .tuple)
 | .lst _,t=>some (t == .list)
 | .scr _,_=>none
 | .shn _,t=>some (t == .str)
 | .dct _ _,_=>none
 | .dci _ _,_=>none
 | .dcz _ _ _,_=>none
noncomputable def b5c (t:Ty) (v:FV):Option FV:=(a5t v t).map .bl
noncomputable def isi2F (t u:Ty) (v:FV):Option FV:=(a5t v t).bind fun a=>(a5t v u).map fun b=>.bl (a || b)
noncomputable def sIx (n d:Nat):Option Int→Nat
 | none=>d
 | some v=>if v < 0 then (v + n).toNat else min v.toNat n
noncomputable def a5g {α:Type} (xs:List α) (lo hi:Option Int):List α:=(xs.drop (sIx xs.length 0 lo)).take (sIx xs.length xs.length hi - sIx xs.length 0 lo)
noncomputable def a5j (v:FV) (lo hi:Option Int):Option FV:=match v with
 | .tup xs=>some (.tup (a5g xs lo hi))
 | .lst xs=>some (.lst (a5g xs lo hi))
 | _=>none
abbrev EW:=a0c→(FV→a0c→Prop)→Prop
abbrev BW:=a0c→(Bool→a0c→Prop)→Prop
abbrev AW:=a0c→(List FV→a0c→Prop)→Prop
abbrev OW:=a0c→(Option Int→a0c→Prop)→Prop
noncomputable def a0b (i:Nat):EW:=fun L Q=>wp (lk L i) fun x=>Q x L
noncomputable def eC (v:FV):EW:=fun L Q=>Q v L
noncomputable def eUn (f:FV→Option FV) (a:EW):EW:=fun L Q=>a L fun x L1=>wp (f x) fun z=>Q z L1
noncomputable def eOp (f:FV→FV→Option FV) (a b:EW):EW:=fun L Q=>a L fun x L1=>b L1 fun y L2=>wp (f x y) fun z=>Q z L2
noncomputable def c1z (f:FV→FV→Option FV) (i:Nat) (b:EW):EW:=fun L Q=>wp (lk L i) fun _=>b L fun y L1=>wp (lk L1 i) fun x=>wp (f x y) fun z=>Q z L1
noncomputable def a9y (f g:FV→FV→Option FV) (a b c:EW):EW:=fun L Q=>a L fun x L1=>b L1 fun y L2=>wp (f x y) fun r=>wp (blF r) fun r=>if r=true then c L2 fun z L3=>wp (g y z) fun q=>Q q L3 else Q (.bl false) L2
noncomputable def c3s (a b:EW):EW:=fun L Q=>a L fun x L1=>wp (b9n x) fun r=>if r=true then b L1 Q else Q x L1
noncomputable def eOr (a b:EW):EW:=fun L Q=>a L fun x L1=>wp (b9n x) fun r=>if r=true then Q x L1 else b L1 Q
noncomputable def eIf (c:BW) (a b:EW):EW:=fun L Q=>c L fun r L1=>if r=true then a L1 Q else b L1 Q
noncomputable def a1i (a:EW):BW:=fun L Q=>a L fun x L1=>wp (b9n x) fun b=>Q b L1
noncomputable def d1y (a b:BW):BW:=fun L Q=>a L fun r L1=>if r=true then b L1 Q else Q false L1
noncomputable def bOr (a b:BW):BW:=fun L Q=>a L fun r L1=>if r=true then Q true L1 else b L1 Q
noncomputable def b0n (a:BW):BW:=fun L Q=>a L fun r L1=>Q (!r) L1
noncomputable def a1q:BW:=fun L Q=>Q true L
noncomputable def a0h:AW:=fun L Q=>Q [] L
noncomputable def a0a (a:EW) (r:AW):AW:=fun L Q=>a L fun x L1=>r L1 fun xs L2=>Q (x :: xs) L2
noncomputable def a3f (a:AW):EW:=fun L Q=>a L fun xs L1=>xs.length≤big∧Q (.tup xs) L1
noncomputable def a5a (a:AW):EW:=fun L Q=>a L fun xs L1=>xs.length≤big∧Q (.lst xs) L1
noncomputable def a4p:OW:=fun L Q=>Q none L
noncomputable def a3e (a:EW):OW:=fun L Q=>a L fun x L1=>wp (a3o x) fun i=>Q (some i) L1
noncomputable def eSl (a:EW) (l h:OW):EW:=fun L Q=>a L fun x L1=>l L1 fun i L2=>h L2 fun j L3=>wp (a5j x i j) fun z=>Q z L3
noncomputable def eSlN (k:Nat) (l h:OW):EW:=fun L Q=>wp (lk L k) fun _=>l L fun i L2=>h L2 fun j L3=>wp (lk L3 k) fun x=>wp (a5j x i j) fun z=>Q z L3
abbrev CW:=Nat→List FV→(FV×FV→Prop)→Prop
noncomputable def a0v (call:CW) (f:Nat) (a:AW):EW:=fun L Q=>a L fun xs L1=>call f xs fun z=>Q z.1 L1
noncomputable def a0i (call:CW) (f i:Nat) (a:AW):EW:=fun L Q=>wp (lk L i) fun _=>a L fun xs L1=>wp (lk L1 i) fun x=>call f (x :: xs) fun z=>Q z.1 (L1.set i (some z.2))
noncomputable def d2b (v y:FV):Option FV:=(a8u v).bind fun xs=>if xs.length < big then some (.lst (xs++[y])) else none
noncomputable def nscF:FV→Option (List FV) | .tup xs=>some xs | .lst xs=>some xs | _=>none
noncomputable def extF (v y:FV):Option FV:=(a8u v).bind fun xs=>(nscF y).bind fun ys=>if xs.length + ys.length≤big then some (.lst (xs++ys)) else none
noncomputable def b8h (f:FV→FV→Option FV) (i:Nat) (a:EW):EW:=fun L Q=>wp (lk L i) fun v=>wp (a8u v) fun _=>a L fun y L1=>wp (lk L1 i) fun x=>wp (f x y) fun z=>Q .non (L1.set i (some z))
noncomputable def upF (lo:Int):Nat→List FV
 | 0=>[]
 | n + 1=>.int lo :: upF (lo + 1) n
noncomputable def a3p (xs ys:List FV):List FV:=xs.zipWith (fun p q=>.tup [p,q]) ys
noncomputable def b9p (a:EW):AW:=fun L Q=>a L fun x L1=>wp (a3b x) fun xs=>Q xs L1
noncomputable def b3d (a:EW):AW:=fun L Q=>a L fun x L1=>wp (a3o x) fun j=>a1a j=true∧Q (upF 0 j.toNat) L1
noncomputable def iRng2 (a b:EW):AW:=fun L Q=>a L fun x L1=>b L1 fun y L2=>wp (a3o x) fun i=>wp (a3o y) fun j=>(a1a i && a1a j)=true∧Q (upF i (j - i).toNat) L2
noncomputable def c3p (a b:EW):AW:=fun L Q=>a L fun x L1=>b L1 fun y L2=>wp (a3b x) fun xs=>wp (a3b y) fun ys=>Q (a3p xs ys) L2
noncomputable def c1m (a:EW):AW:=fun L Q=>a L fun x L1=>wp (a3b x) fun xs=>Q (a3p (upF 0 xs.length) xs) L1
inductive Tg where | nm (i:Nat) | tp (is:List Nat) | tn (i:Nat) (is:List Nat)
noncomputable def c5p:List FV→Option (FV×FV) | [a,b]=>some (a,b) | _=>none
noncomputable def a6g:a0c→List Nat→List FV→Option a0c
 | L,[],[]=>some L
 | L,i :: is,v :: vs=>a6g (L.set i (some v)) is vs
 | _,_,_=>none
noncomputable def gW (tg:Tg) (v:FV) (L:a0c) (Q:a0c→Prop):Prop:=match tg with
 | .nm i=>Q (L.set i (some v))
 | .tp is=>wp (a6f v) fun xs=>wp (a6g L is xs) Q
 | .tn i is=>wp (a6f v) fun xs=>wp (c5p xs) fun p=>wp (a6f p.2) fun ys=>wp (a6g (L.set i (some p.1)) is ys) Q
noncomputable def a5c (n m:Nat) (tg:Tg) (t:BW) (e:EW):List FV→List FV→a0c→(List FV→a0c→Prop)→Prop
 | [],acc,L,Q=>Q acc L
 | x :: xs,acc,L,Q=>gW tg x (L++List.replicate m none) fun L1=>t L1 fun b L2=>if b=true then e L2 fun v L3=>a5c n m tg t e xs (acc++[v]) (L3.take n) Q else a5c n m tg t e xs acc (L2.take n) Q
noncomputable def a1v (n m:Nat) (it:AW) (tg:Tg) (t:BW) (e:EW):EW:=fun L Q=>it L fun xs L1=>L1.length=n∧xs.length≤big∧a5c n m tg t e xs [] L1 fun ys L2=>Q (.lst ys) L2
inductive FFl where | next | ret (v:FV) | brk | cont
abbrev SW:=a0c→(FFl→a0c→Prop)→Prop
noncomputable def aft (k:a0c→Prop) (Q:FFl→a0c→Prop):FFl→a0c→Prop
 | .next,L=>k L
 | .ret v,L=>Q (.ret v) L
 | .brk,L=>Q .brk L
 | .cont,L=>Q .cont L
noncomputable def a3t:SW:=fun L Q=>Q .next L
noncomputable def a0t (s r:SW):SW:=fun L Q=>s L (aft (fun L1=>r L1 Q) Q)
noncomputable def a1e (e:EW) (tg:Tg):SW:=fun L Q=>e L fun x L1=>gW tg x L1 fun L2=>Q .next L2
noncomputable def d4p (v j x:FV):Option FV:=(a8u v).bind fun xs=>(a3o j).bind fun n=>(ixN xs.length n).map fun p=>.lst (xs.set p x)
noncomputable def d2i (k:Nat) (i e:EW):SW:=fun L Q=>wp (lk L k) fun _=>e L fun x L1=>i L1 fun j L2=>wp (lk L2 k) fun y=>wp (d4p y j x) fun z=>Q .next (L2.set k (some z))
noncomputable def d2j (f:FV→FV→Option FV) (i:Nat) (e:EW):SW:=fun L Q=>wp (lk L i) fun a=>e L fun x L1=>wp (f a x) fun z=>Q .next (L1.set i (some z))
noncomputable def a1j (e:EW):SW:=fun L Q=>e L fun x L1=>Q (.ret x) L1
noncomputable def sRetN:SW:=fun L Q=>Q (.ret .non) L
noncomputable def c8s (e:EW):SW:=fun L Q=>e L fun _ L1=>Q .next L1
noncomputable def sIf (c:BW) (a b:SW):SW:=fun L Q=>c L fun r L1=>if r=true then a L1 Q else b L1 Q
noncomputable def sBrk:SW:=fun L Q=>Q .brk L
noncomputable def sCont:SW:=fun L Q=>Q .cont L
noncomputable def b0s (k:a0c→Prop) (Q:FFl→a0c→Prop):FFl→a0c→Prop
 | .next,L=>k L
 | .cont,L=>k L
 | .brk,L=>Q .next L
 | .ret v,L=>Q (.ret v) L
noncomputable def c6t (tg:Tg) (b:SW):List FV→a0c→(FFl→a0c→Prop)→Prop
 | [],L,Q=>Q .next L
 | x :: xs,L,Q=>gW tg x L fun L1=>b L1 (b0s (fun L2=>c6t tg b xs L2 Q) Q)
noncomputable def b6e (it:AW) (tg:Tg) (b:SW):SW:=fun L Q=>it L fun xs L1=>c6t tg b xs L1 Q
noncomputable def c7w (c:BW) (b:SW):Nat→a0c→(FFl→a0c→Prop)→Prop
 | 0,_,_=>False
 | n + 1,L,Q=>c L fun r L1=>if r=true then b L1 (b0s (fun L2=>c7w c b n L2 Q) Q) else Q .next L1
noncomputable def d2g (c:BW) (b:SW):SW:=fun L Q=>∃ n,c7w c b n L Q
structure FD where
 np:Nat
 ns:Nat
 body:CW→SW
 io:Bool
 fr:Bool
noncomputable def b9q (io fr:Bool) (Q:FV×FV→Prop):FFl→a0c→Prop
 | .ret v,L=>match io with
  | true=>wp (lk L 0) fun x=>Q (v,x)
  | false=>Q (v,.non)
 | .next,L=>match fr with
  | true=>False
  | false=>match io with
   | true=>wp (lk L 0) fun x=>Q (.non,x)
   | false=>Q (.non,.non)
 | _,_=>False
noncomputable def callW (tb:List FD):Nat→CW
 | 0,_,_,_=>False
 | d + 1,f,args,Q=>match tb[f]? with
  | none=>False
  | some fd=>args.length=fd.np∧fd.body (callW tb d) (args.map some++List.replicate (fd.ns - fd.np) none) (b9q fd.io fd.fr Q)
end Kq
end
section
namespace Kq
open PySem PySem.Spec PyProof.Rows L2
theorem a9g {x y:String} (h:Γe x=Γe y):x=y:=by
 rw [Str.ofString_eq_toList,Str.ofString_eq_toList] at h
 have h2:x.toList.map Char.toNat=y.toList.map Char.toNat:=by
  injection h with h
  simpa using congrArg Array.toList h
 have inj:∀ (a b:List Char),a.map Char.toNat=b.map Char.toNat→a=b:=by
  intro a
  induction a with
  | nil=>intro b hb; cases b <;> simp_all
  | cons c a ih =>
   intro b hb
   cases b with
   | nil=>simp at hb
   | cons d b =>
    simp only [List.map_cons,List.cons.injEq] at hb
    rw [ih b hb.2,Char.toNat_inj.mp hb.1]
 exact String.toList_inj.mp (inj _ _ h2)
theorem c8m (a b:String):(Γe a == Γe b)=(a == b):=by
 rw [Bool.eq_iff_iff]
 simp only [beq_iff_eq]
 exact ⟨a9g,fun h=>by rw [h]⟩
theorem c8k (x:String):PyData.strOk (Γe x)=true:=by
 rw [Str.ofString_eq_toList]
 unfold PyData.strOk
 simp only [List.all_toArray,List.all_map,List.all_eq_true,Function.comp_apply,decide_eq_true_eq]
 intro c _
 have h:c.val.toNat < 0xd800 ∨ (0xdfff < c.val.toNat∧c.val.toNat < 0x110000):=c.valid
 show c.val.toNat < 1114112
 lia
mutual
theorem a5b:∀ d:D,(dPy d).canLay0=true
 | .non=>rfl
 | .bl _=>rfl
 | .int _=>rfl
 | .str x=>by simp only [dPy,PyData.canLay0]; exact c8k x
 | .tup xs=>by simp only [dPy,PyData.canLay0]; exact a5y xs
 | .lst xs=>by simp only [dPy,PyData.canLay0]; exact a5y xs
theorem a5y:∀ xs:List D,PyData.canLayAll0 (a4h xs)=true
 | []=>rfl
 | x :: xs=>by simp only [a4h,PyData.canLayAll0,a5b x,a5y xs,Bool.and_self]
end
mutual
theorem b8u:∀ a b:D,PyData.eqv (dPy a) (dPy b)=D.eqv a b
 | .non,b=>by cases b <;> simp only [dPy,PyData.eqv,D.eqv]
 | .bl _,b=>by cases b <;> simp only [dPy,PyData.eqv,D.eqv]
 | .int _,b=>by cases b <;> simp only [dPy,PyData.eqv,D.eqv]
 | .str x,b=>by cases b <;> simp only [dPy,PyData.eqv,D.eqv,c8m]
 | .tup xs,b=>by cases b <;> simp only [dPy,PyData.eqv,D.eqv,b8t]
 | .lst xs,b=>by cases b <;> simp only [dPy,PyData.eqv,D.eqv,b8t]
theorem b8t:∀ a b:List D,PyData.eqvAll (a4h a) (a4h b)=D.eqvs a b
 | [],b=>by cases b <;> simp only [a4h,PyData.eqvAll,D.eqvs]
 | x :: xs,b=>by cases b <;> simp only [a4h,PyData.eqvAll,D.eqvs,b8u,b8t]
end
theorem b8v (x:D):∀ xs:List D,((a4h xs).any fun y=>PyData.eqv y (dPy x))=xs.any fun y=>D.eqv y x
 | []=>rfl
 | y :: r=>by simp only [a4h,List.any_cons,b8u,b8v x r]
mutual
theorem b3n:∀ d:D,(dPy d).hasDict=false
 | .non=>rfl
 | .bl _=>rfl
 | .int _=>rfl
 | .str x=>rfl
 | .tup xs=>by simp only [dPy,PyData.hasDict]; exact a5x xs
 | .lst xs=>by simp only [dPy,PyData.hasDict]; exact a5x xs
theorem a5x:∀ xs:List D,PyData.hasDictAll (a4h xs)=false
 | []=>rfl
 | x :: xs=>by simp only [a4h,PyData.hasDictAll,b3n x,a5x xs,Bool.or_self]
end
theorem log2_lt {i:Int} {k:Nat} (hk:0 < k) (h:-(2 ^ k:Int) < i∧i < 2 ^ k):i.natAbs.log2 < k:=by
 by_cases h0:i.natAbs=0
 ·rw [h0]; simpa using hk
 ·rw [Nat.log2_lt h0]
  have e:((2 ^ k:Nat):Int)=(2:Int) ^ k:=by rw [Int.natCast_pow]; rfl
  lia
mutual
theorem c7c:∀ d:D,d.fit=true→(dPy d).showable=true∧(dPy d).intsShort 160=true∧(dPy d).weight≤d.wt
 | .non,_=>⟨rfl,rfl,Nat.le_refl _⟩
 | .bl _,_=>⟨rfl,rfl,Nat.le_refl _⟩
 | .int i,h=>by
  have h:-(2 ^ 150:Int) < i∧i < 2 ^ 150:=by simpa [D.fit] using h
  have l1:=log2_lt (k:=150) (by decide) h
  refine ⟨?_,?_,?_⟩
  ·simp only [dPy,PyData.showable,decide_eq_true_eq]; lia
  ·simp only [dPy,PyData.intsShort,decide_eq_true_eq]
   have e:=int_text_length_le (k:=150) (by decide) l1
   show (Γe (toString i)).length≤160
   rw [PySem.ofString_length]; lia
  ·simp only [dPy,PyData.weight,D.wt]
   split
   ·lia
   ·split
    ·rename_i hs
     have l2:=log2_lt (k:=40) (by decide) hs
     lia
    ·lia
 | .str x,_=>by
  refine ⟨rfl,rfl,?_⟩
  simp only [dPy,PyData.weight,D.wt]
  have:(Γe x).length=x.length:=PySem.ofString_length x
  exact Nat.le_of_eq this
 | .tup xs,h=>by
  obtain ⟨h1,h2,h3⟩:=b8s xs (by simpa only [D.fit] using h)
  exact ⟨by simpa only [dPy,PyData.showable] using h1,by simpa only [dPy,PyData.intsShort] using h2,by simpa only [dPy,PyData.weight,D.wt] using h3⟩
 | .lst xs,h=>by
  obtain ⟨h1,h2,h3⟩:=b8s xs (by simpa only [D.fit] using h)
  exact ⟨by simpa only [dPy,PyData.showable] using h1,by simpa only [dPy,PyData.intsShort] using h2,by simpa only [dPy,PyData.weight,D.wt] using h3⟩
theorem b8s:∀ xs:List D,D.fits xs=true→PyData.showableAll (a4h xs)=true∧PyData.intsShortAll 160 (a4h xs)=true∧PyData.weightAll (a4h xs)≤D.wts xs
 | [],_=>⟨rfl,rfl,Nat.le_refl _⟩
 | x :: xs,h=>by
  have h:x.fit=true∧D.fits xs=true:=by simpa only [D.fits,Bool.and_eq_true] using h
  obtain ⟨a1,a2,a3⟩:=c7c x h.1
  obtain ⟨b1,b2,b3⟩:=b8s xs h.2
  refine ⟨?_,?_,?_⟩
  ·simp only [a4h,PyData.showableAll,a1,b1,Bool.and_self]
  ·simp only [a4h,PyData.intsShortAll,a2,b2,Bool.and_self]
  ·simp only [a4h,PyData.weightAll,D.wts]; lia
end
theorem c7b {d:D} (h:d.fit=true) (hw:d.wt≤big):(dPy d).shown.length≤sizeLine:=by
 obtain ⟨_,h2,h3⟩:=c7c d h
 have:=PyData.shown_le 160 (by decide) (dPy d) (PyData.leavesShort_of_canLay0 160 _ (a5b d) h2)
 unfold big at hw
 have e:sizeLine=16777216:=rfl
 lia
theorem b2t {α β:Type} {f:α→Option β}:∀ {xs:List α} {ys:List β},a5p f xs=some ys→ys.length=xs.length
 | [],ys,h=>by cases h; rfl
 | x :: xs,ys,h=>by
  simp only [a5p] at h
  cases e1:f x with
  | none=>rw [e1] at h; cases h
  | some y =>
   rw [e1] at h
   cases e2:a5p f xs with
   | none=>simp only [Option.bind_some,e2] at h; cases h
   | some zs=>simp only [Option.bind_some,e2,Option.map_some] at h; cases h; rw [List.length_cons,List.length_cons,b2t e2]
theorem bnd {α β:Type} {o:Option α} {f:α→Option β} {z:β} (h:o.bind f=some z):∃ a,o=some a∧f a=some z:=Option.bind_eq_some_iff.mp h
theorem mpd {α β:Type} {o:Option α} {f:α→β} {z:β} (h:o.map f=some z):∃ a,o=some a∧f a=z:=Option.map_eq_some_iff.mp h
theorem itd {α:Type} {c:Prop} [Decidable c] {a b:α} (h:(if c then some a else none)=some b):c∧a=b:=by
 by_cases z:c
 ·rw [if_pos z] at h; exact ⟨z,Option.some.inj h⟩
 ·rw [if_neg z] at h; cases h
theorem a4f:∀ {n:Nat} {p:FV} {d:D},fD n p=some d→(dPy d).depth≤n
 | 0,p,d,h=>by cases h
 | n + 1,p,d,h=>by
  have ds:∀ {ps:List FV} {ds:List D},a5p (fD n) ps=some ds→PyData.depthAll (a4h ds)≤n:=by
   intro ps
   induction ps with
   | nil=>intro ds h; cases h; simp [a4h,PyData.depthAll]
   | cons q ps ih =>
    intro ds h
    obtain ⟨y,e1,h⟩:=bnd h
    obtain ⟨zs,e2,rfl⟩:=mpd h
    simp only [a4h,PyData.depthAll]
    exact Nat.max_le.mpr ⟨a4f e1,ih e2⟩
  cases p with
  | tup ps=>obtain ⟨zs,e,rfl⟩:=mpd (show (a5p (fD n) ps).map D.tup=some d from h); simp only [dPy,PyData.depth]; have:=ds e; lia
  | lst ps=>obtain ⟨zs,e,rfl⟩:=mpd (show (a5p (fD n) ps).map D.lst=some d from h); simp only [dPy,PyData.depth]; have:=ds e; lia
  | non=>cases h; simp [dPy,PyData.depth]
  | bl _=>cases h; simp [dPy,PyData.depth]
  | int _=>cases h; simp [dPy,PyData.depth]
  | str _=>cases h; simp [dPy,PyData.depth]
  | scr _=>cases h
  | shn _=>cases h
  | dct _ _=>cases h
  | dci _ _=>cases h
  | dcz _ _ _=>cases h
section
variable {X:Cx} {pins:List (Addr×Obj)} {σ:L2.St} {S H:Hp} {s:Shared}
noncomputable def e0o (X:Cx) (S:Hp) (s:Shared) (n:Nat):Prop:=∀ (p:FV) (v:V) (u:Value) (d:D),RV X.K S p v→RelV v u→fD n p=some d→∃ as,Reads s.heap u (dPy d) as
theorem a5l {n:Nat} (R:e0o X S s n):∀ {ps:List FV} {vs:List V} {us:List Value} {ds:List D},RVs X.K S ps vs→Vals vs us→a5p (fD n) ps=some ds→∃ as,ReadsAll s.heap us (a4h ds) as
 | [],vs,us,ds,r,q,h=>by
  cases (show vs=[] from r)
  cases q
  cases h
  exact ⟨[],.nil⟩
 | p :: ps,vs,us,ds,r,rq,h=>by
  obtain ⟨v1,vr,rfl,r1,r2⟩:=r
  cases rq with
  | cons q1 q2 =>
   obtain ⟨y,e1,h⟩:=bnd h
   obtain ⟨zs,e2,rfl⟩:=mpd h
   obtain ⟨as,ra⟩:=R _ _ _ _ r1 q1 e1
   obtain ⟨bs,rb⟩:=a5l R r2 q2 e2
   exact ⟨as++bs,.cons ra rb⟩
theorem a9d {n:Nat} (I:Inv X pins σ H s) (R:e0o X S s n) {a:Addr} {xs:List V} {ps:List FV} {d:D} (h1:H a=some (.lst xs)) (h2:RVs X.K S ps xs) (h:(a5p (fD n) ps).map D.lst=some d):∃ as,Reads s.heap (.ref a) (dPy d) as:=by
 obtain ⟨zs,e,rfl⟩:=mpd h
 obtain ⟨its,rr,⟨o,k,e1,e2,e2',e3⟩,_⟩:=I.list (SqL.of h1)
 obtain ⟨as,ra⟩:=a5l R h2 rr e
 exact ⟨a :: as,.list e1 e2 e3 (by simpa using ra)⟩
theorem a7v (I:Inv X pins σ H s) (hs:Same S H):∀ n,e0o X S s n
 | 0,p,v,u,d,_,_,h=>by cases h
 | n + 1,p,v,u,d,rp,rv,h=>by
  have R:=a7v I hs n
  cases p with
  | tup ps =>
   obtain ⟨a,xs,rfl,h1,h2⟩:=rp
   cases (show u=Value.ref a from rv)
   obtain ⟨zs,e,rfl⟩:=mpd (show (a5p (fD n) ps).map D.tup=some d from h)
   obtain ⟨its,rr,⟨o,e1,e2,k,e3⟩,_⟩:=I.tuple (SqT.of (hs _ _ h1))
   obtain ⟨as,ra⟩:=a5l R h2 rr e
   exact ⟨as,.tuple e1 e2 e3 (by simpa using ra)⟩
  | lst ps =>
   obtain ⟨a,xs,rfl,h1,h2⟩:=rp
   cases (show u=Value.ref a from rv)
   exact a9d I R (hs _ _ h1) h2 h
  | non=>cases h; cases (show v=_ from rp); cases (show u=_ from rv); exact ⟨_,.none⟩
  | bl _=>cases h; cases (show v=_ from rp); cases (show u=_ from rv); exact ⟨_,.bool _⟩
  | int _=>cases h; cases (show v=_ from rp); obtain ⟨t,rfl⟩:=rv; exact ⟨_,.int _ _⟩
  | str _=>cases h; cases (show v=_ from rp); obtain ⟨t,rfl⟩:=rv; exact ⟨_,.str _ _⟩
  | scr _=>cases h
  | shn _=>cases h
  | dct _ _=>cases h
  | dci _ _=>cases h
  | dcz _ _ _=>cases h
theorem a2q (I:Inv X pins σ H s) (hs:Same S H) {n:Nat} {p:FV} {v:V} {u:Value} {d:D} (rp:RH X.K S H p v) (rv:RelV v u) (h:fD n p=some d):∃ as,Reads s.heap u (dPy d) as:=by
 rcases rp with rp | ⟨a,rfl,_,ps,xs,e,h1,h2⟩
 ·exact a7v I hs n p v u d rp rv h
 ·cases (show u=Value.ref a from rv)
  cases n with
  | zero=>cases h
  | succ n =>
   cases p with
   | lst qs=>cases e; exact a9d I (a7v I hs n) h1 h2 h
   | dct _ _=>cases h
   | dci _ _=>cases h
   | dcz _ _ _=>cases h
   | _=>cases e
end
theorem a1p:big≤sizeLine:=by decide
theorem a1m {v:FV} {i:Int} (h:a3o v=some i):v=.int i:=by cases v <;> cases h; rfl
theorem d1w {v:FV} {i:Bool} (h:blF v=some i):v=.bl i:=by cases v <;> cases h; rfl
theorem a1x {v:FV} {i:List FV} (h:a6f v=some i):v=.tup i:=by cases v <;> cases h; rfl
theorem a7z {v:FV} {i:List FV} (h:a8u v=some i):v=.lst i:=by cases v <;> cases h; rfl
structure NewOr (K:Γd) (S H:Hp) (Q:VK) (z:FV):Prop where
 old:∀ x,(∀ ps,z≠.lst ps)→RV K S z x→Q x H
 tup:∀ ps xs p,z=.tup ps→RVs K S ps xs→H p=none→Q (.ref p) (upd H p (.tup xs))
 lst:∀ ps xs p,z=.lst ps→RVs K S ps xs→H p=none→Q (.ref p) (upd H p (.lst xs))
section
variable {X:Cx} {K:Γd} {S H:Hp} {Q:VK}
theorem NewOr.bl {b:Bool} (k:NewOr K S H Q (.bl b)):Q (.bl b) H:=k.old _ (fun _ z=>nomatch z) rfl
theorem NewOr.int {b:Int} (k:NewOr K S H Q (.int b)):Q (.int b) H:=k.old _ (fun _ z=>nomatch z) rfl
theorem NewOr.str {b:String} (k:NewOr K S H Q (.str b)):Q (.str (Γe b)) H:=k.old _ (fun _ z=>nomatch z) rfl
theorem RH.int {i:Int} {x:V} (h:RH K S H (.int i) x):x=.int i:=h.val rfl
theorem RH.bl {i:Bool} {x:V} (h:RH K S H (.bl i) x):x=.bl i:=h.val rfl
noncomputable def Rq (K:Γd) (f:FV→FV→Option FV):R2:=fun x y H Q=>∃ S v w z,Same S H∧RH K S H v x∧RH K S H w y∧f v w=some z∧NewOr K S H Q z
theorem a6h {g:Value→Value→Sem Value} {f:Int→Int→Option FV} {r:R2} (o:OpR X g r) (h:∀ i j z H Q,f i j=some z→(∀ x,(∀ S,RV X.K S z x)→Q x H)→r (.int i) (.int j) H Q) (n:∀ i j z,f i j=some z→∀ ps,z≠.lst ps):OpR X g (Rq X.K (a2x f)):=by
 intro pins s σ H x y u1 u2 Q I rx ry ⟨S,v,w,z,hs,hv,hw,e,k⟩
 obtain ⟨i,e1,e⟩:=bnd e
 obtain ⟨j,e2,e⟩:=bnd e
 cases a1m e1; cases a1m e2
 obtain rfl:=hv.int
 obtain rfl:=hw.int
 exact o pins s σ H _ _ u1 u2 Q I rx ry (h i j z H Q e fun x hx=>k.old x (n i j z e) (hx S))
theorem d5e:OpR X (binaryOp .Sub) (Rq X.K b2d):=a6h c9v (fun i j z H Q e k=>⟨i,j,rfl,rfl,k _ fun S=>by cases e; rfl⟩) fun i j z e ps=>by cases e; exact fun z=>nomatch z
theorem c8z:OpR X (binaryOp .FloorDiv) (Rq X.K b4n):=a6h c5q (fun i j z H Q e k=>⟨i,j,rfl,rfl,(itd e).1,k _ fun S=>by cases (itd e).2; rfl⟩) fun i j z e ps=>by cases (itd e).2; exact fun z=>nomatch z
theorem d5h:OpR X (binaryOp .Mod) (Rq X.K c3f):=a6h c9z (fun i j z H Q e k=>⟨i,j,rfl,rfl,(itd e).1,k _ fun S=>by cases (itd e).2; rfl⟩) fun i j z e ps=>by cases (itd e).2; exact fun z=>nomatch z
theorem d5f:OpR X (binaryOp .Pow) (Rq X.K c5d):=a6h c9x (fun i j z H Q e k=>⟨i,j,rfl,rfl,by
 obtain ⟨h1,h2,h3⟩:=(itd e).1
 have:-(2 ^ 64) < i∧i < 2 ^ 64:=by simpa [small] using h3
 exact ⟨h1,by lia,by lia⟩,k _ fun S=>by cases (itd e).2; rfl⟩) fun i j z e ps=>by cases (itd e).2; exact fun z=>nomatch z
theorem q_gt:OpR X (compareOp .Gt) (Rq X.K gtB):=a6h d6d (fun i j z H Q e k=>⟨i,j,rfl,rfl,k _ fun S=>by cases e; rfl⟩) fun i j z e ps=>by cases e; exact fun z=>nomatch z
theorem q_ge:OpR X (compareOp .GtE) (Rq X.K geB):=a6h d6e (fun i j z H Q e k=>⟨i,j,rfl,rfl,k _ fun S=>by cases e; rfl⟩) fun i j z e ps=>by cases e; exact fun z=>nomatch z
theorem c9c:OpR X (binaryOp .Add) (Rq X.K (a2x fun i j=>some (.int (i + j)))):=a6h d0d (fun i j z H Q e k=>⟨i,j,rfl,rfl,k _ fun S=>by cases e; rfl⟩) fun i j z e ps=>by cases e; exact fun z=>nomatch z
theorem c8y:OpR X (binaryOp .Mult) (Rq X.K (a2x fun i j=>if (small i || small j)=true then some (.int (i * j)) else none)):=a6h c9y (fun i j z H Q e k=>⟨i,j,rfl,rfl,by
 have:=(itd e).1
 simp only [small,Bool.or_eq_true,decide_eq_true_eq] at this
 exact this,k _ fun S=>by cases (itd e).2; rfl⟩) fun i j z e ps=>by cases (itd e).2; exact fun z=>nomatch z
theorem d5i:OpR X (compareOp .Lt) (Rq X.K (a2x fun i j=>some (.bl (decide (i < j))))):=a6h d6b (fun i j z H Q e k=>⟨i,j,rfl,rfl,k _ fun S=>by cases e; rfl⟩) fun i j z e ps=>by cases e; exact fun z=>nomatch z
theorem d5k:OpR X (compareOp .LtE) (Rq X.K (a2x fun i j=>some (.bl (decide (i≤j))))):=a6h d6c (fun i j z H Q e k=>⟨i,j,rfl,rfl,k _ fun S=>by cases e; rfl⟩) fun i j z e ps=>by cases e; exact fun z=>nomatch z
theorem c9b {xs ys:List FV} {x y:V} {z:FV} {pins:List (Addr×Obj)} {σ:L2.St} {s:Shared} {u1 u2:Value} (I:Inv X pins σ H s) (rx:RelV x u1) (ry:RelV y u2) (hs:Same S H) (hv:RH X.K S H (.tup xs) x) (hw:RH X.K S H (.tup ys) y)
  (e:(if xs.length + ys.length≤big then some (FV.tup (xs++ys)) else none)=some z) (k:NewOr X.K S H Q z):wpAny (model X.prog X.w) X.A (binaryOp .Add u1 u2) (EP X pins σ Q) X.xe s:=by
 obtain ⟨hc,rfl⟩:=itd e
 have rv:=hv.val rfl
 have rw':=hw.val rfl
 obtain ⟨a,as,rfl,ha,ra⟩:=hv.tup hs
 obtain ⟨b,bs,rfl,hb,rb⟩:=hw.tup hs
 have l1:=ra.length
 have l2:=rb.length
 have hl:=a1p
 by_cases h0:as=[]
 ·subst h0
  have z2:xs=[]:=List.eq_nil_of_length_eq_zero (by simpa using l1)
  subst z2
  exact c0y pins s σ H _ _ u1 u2 Q I rx ry ⟨a,b,bs,rfl,rfl,SqT.of ha,SqT.of hb,k.old _ (fun _ z=>nomatch z) rw'⟩
 refine c5r pins s σ H _ _ u1 u2 Q I rx ry ⟨a,b,as,bs,rfl,rfl,SqT.of ha,SqT.of hb,h0,by lia,fun z=>?_,fun _ p hp=>k.tup _ _ p rfl (ra.append rb) hp⟩
 subst z
 have z2:ys=[]:=List.eq_nil_of_length_eq_zero (by simpa using l2)
 subst z2
 exact k.old _ (fun _ z=>nomatch z) (by rw [List.append_nil]; exact rv)
theorem d5n:OpR X (binaryOp .Add) (Rq X.K a1r):=by
 intro pins s σ H x y u1 u2 Q I rx ry ⟨S,v,w,z,hs,hv,hw,e,k⟩
 cases v with
 | tup xs =>
  obtain ⟨ys,e1,e⟩:=bnd e
  cases a1x e1
  exact c9b I rx ry hs hv hw e k
 | lst xs =>
  obtain ⟨ys,e1,e⟩:=bnd e
  cases a7z e1
  obtain ⟨hc,rfl⟩:=itd e
  obtain ⟨a,as,rfl,ha,ra⟩:=hv.lst hs
  obtain ⟨b,bs,rfl,hb,rb⟩:=hw.lst hs
  have l1:=ra.length
  have l2:=rb.length
  have hl:=a1p
  exact d0c pins s σ H _ _ u1 u2 Q I rx ry ⟨a,b,as,bs,rfl,rfl,ha,hb,by lia,fun p hp=>k.lst _ _ p rfl (ra.append rb) hp⟩
 | _=>exact c9c pins s σ H x y u1 u2 Q I rx ry ⟨S,_,w,z,hs,hv,hw,e,k⟩
theorem d5g:OpR X (binaryOp .Mult) (Rq X.K a9k):=by
 intro pins s σ H x y u1 u2 Q I rx ry ⟨S,v,w,z,hs,hv,hw,e,k⟩
 cases v with
 | lst xs =>
  obtain ⟨j,e1,e⟩:=bnd e
  cases a1m e1
  obtain ⟨hc,rfl⟩:=itd e
  obtain ⟨a,as,rfl,ha,ra⟩:=hv.lst hs
  obtain rfl:=hw.int
  have l1:=ra.length
  have hl:=a1p
  exact c9w pins s σ H _ _ u1 u2 Q I rx ry ⟨a,j,as,rfl,rfl,ha,hc.1,hc.2.1,by rw [← l1]; lia,fun p hp=>k.lst _ _ p rfl (ra.rep _) hp⟩
 | _=>exact c8y pins s σ H x y u1 u2 Q I rx ry ⟨S,_,w,z,hs,hv,hw,e,k⟩
theorem a1b:∀ {ps:List FV} {xs:List V} {ns:List Int},RVs K S ps xs→a0z ps=some ns→xs=ns.map V.int
 | [],xs,ns,r,e=>by cases (show xs=[] from r); cases e; rfl
 | p :: ps,xs,ns,r,e=>by
  obtain ⟨v,q,rfl,h1,h2⟩:=r
  cases p with
  | int i =>
   obtain ⟨ms,z,rfl⟩:=mpd (show (a0z ps).map (i :: ·)=some ns from e)
   rw [a1b h2 z,List.map_cons,show v=.int i from h1]
  | _=>cases e
theorem a7l:∀ {ps:List FV} {xs:List V} {ns:List Bool},RVs K S ps xs→a4x ps=some ns→xs=ns.map V.bl
 | [],xs,ns,r,e=>by cases (show xs=[] from r); cases e; rfl
 | p :: ps,xs,ns,r,e=>by
  obtain ⟨v,q,rfl,h1,h2⟩:=r
  cases p with
  | bl i =>
   obtain ⟨ms,z,rfl⟩:=mpd (show (a4x ps).map (i :: ·)=some ns from e)
   rw [a7l h2 z,List.map_cons,show v=.bl i from h1]
  | _=>cases e
theorem c3j:∀ a b:List Int,Kq.lexLt a b=HT.lexLt a b
 | [],[]=>by simp [Kq.lexLt,HT.lexLt]
 | [],_ :: _=>by simp [Kq.lexLt,HT.lexLt]
 | _ :: _,[]=>by simp [Kq.lexLt,HT.lexLt]
 | a :: r,b :: q=>by
  simp only [Kq.lexLt,HT.lexLt,c3j r q]
  try (by_cases h:a=b <;> simp [h])
theorem b2y:∀ a b:List Int,Kq.lexLe a b=HT.lexLe a b
 | [],[]=>by simp [Kq.lexLe,HT.lexLe]
 | [],_ :: _=>by simp [Kq.lexLe,HT.lexLe]
 | _ :: _,[]=>by simp [Kq.lexLe,HT.lexLe]
 | a :: r,b :: q=>by
  simp only [Kq.lexLe,HT.lexLe,b2y r q]
  try (by_cases h:a=b <;> simp [h])
theorem d5j (hu:X.A.units + 64 < cLine):OpR X (compareOp .Lt) (Rq X.K ltB):=by
 intro pins s σ H x y u1 u2 Q I rx ry ⟨S,v,w,z,hs,hv,hw,e,k⟩
 cases v with
 | tup xs =>
  obtain ⟨ys,e1,e⟩:=bnd e
  cases a1x e1
  obtain ⟨ns,e2,e⟩:=bnd e
  obtain ⟨ms,e3,e⟩:=bnd e
  cases e
  obtain ⟨a,as,rfl,ha,ra⟩:=hv.tup hs
  obtain ⟨b,bs,rfl,hb,rb⟩:=hw.tup hs
  cases a1b ra e2; cases a1b rb e3
  exact d0a (by lia) pins s σ H _ _ u1 u2 Q I rx ry ⟨a,b,ns,ms,rfl,rfl,SqT.of ha,SqT.of hb,by rw [← c3j]; exact k.bl⟩
 | _=>exact d5i pins s σ H x y u1 u2 Q I rx ry ⟨S,_,w,z,hs,hv,hw,e,k⟩
theorem q_le (hu:X.A.units + 64 < cLine):OpR X (compareOp .LtE) (Rq X.K leB):=by
 intro pins s σ H x y u1 u2 Q I rx ry ⟨S,v,w,z,hs,hv,hw,e,k⟩
 cases v with
 | tup xs =>
  obtain ⟨ys,e1,e⟩:=bnd e
  cases a1x e1
  obtain ⟨ns,e2,e⟩:=bnd e
  obtain ⟨ms,e3,e⟩:=bnd e
  cases e
  obtain ⟨a,as,rfl,ha,ra⟩:=hv.tup hs
  obtain ⟨b,bs,rfl,hb,rb⟩:=hw.tup hs
  cases a1b ra e2; cases a1b rb e3
  exact d0b (by lia) pins s σ H _ _ u1 u2 Q I rx ry ⟨a,b,ns,ms,rfl,rfl,SqT.of ha,SqT.of hb,by rw [← b2y]; exact k.bl⟩
 | _=>exact d5k pins s σ H x y u1 u2 Q I rx ry ⟨S,_,w,z,hs,hv,hw,e,k⟩
theorem d1b {p q:FV} {b:Bool} (e:eqF p q=some b):(∃ d,p=.shn d∧q=.shn d∧b=true) ∨ ∃ x y,fD a0l p=some x∧fD a0l q=some y∧b=D.eqv x y:=by
 have gen:eqD p q=some b→∃ x y,fD a0l p=some x∧fD a0l q=some y∧b=D.eqv x y:=fun e=>by
  obtain ⟨x,e1,e⟩:=bnd e
  obtain ⟨y,e2,e⟩:=bnd e
  cases e
  exact ⟨x,y,e1,e2,rfl⟩
 unfold eqF at e
 split at e
 ·obtain ⟨rfl,rfl⟩:=@itd _ _ (Classical.propDecidable _) _ _ e
  exact .inl ⟨_,rfl,rfl,rfl⟩
 ·exact .inr (gen e)
theorem c9a (hu:X.A.units + 64 < cLine) (neg:Bool):OpR X (compareOp (if neg then .NotEq else .Eq)) (Rq X.K fun p q=>(eqF p q).map fun r=>.bl (neg != r)):=by
 intro pins s σ H x y v u Q I rx ry ⟨S,p,q,z,hs,rp,rq,e,k⟩
 obtain ⟨b,e',rfl⟩:=mpd (show (eqF p q).map (fun r=>FV.bl (neg != r))=some z from e)
 have fin:=k.bl
 rcases d1b e' with ⟨d,rfl,rfl,rfl⟩ | ⟨dx,dy,e1,e2,rfl⟩
 ·obtain rfl:x=.str (dPy d).shown:=rp.val rfl
  obtain rfl:y=.str (dPy d).shown:=rq.val rfl
  cases neg with
  | false=>exact d6f pins s σ H _ _ v u Q I rx ry ⟨rfl,by simpa using fin⟩
  | true=>exact d6a pins s σ H _ _ v u Q I rx ry ⟨rfl,by simpa using fin⟩
 ·obtain ⟨as,ra⟩:=a2q I hs rp rx e1
  obtain ⟨bs,rb⟩:=a2q I hs rq ry e2
  have hd:X.A.units + min (dPy dx).depth (dPy dy).depth < cLine:=by
   have h1:=a4f e1
   unfold a0l at h1
   lia
  cases neg with
  | false=>exact PySem.SeqAt.compareEq_reads ra rb (a5b dx) (a5b dy) hd ⟨.bl _,H,I,rfl,by rw [b8u]; simpa using fin⟩
  | true=>exact PySem.SeqAt.compareNe_reads ra rb (a5b dx) (a5b dy) hd ⟨.bl _,H,I,rfl,by rw [b8u]; simpa using fin⟩
theorem q_eq (hu:X.A.units + 64 < cLine):OpR X (compareOp .Eq) (Rq X.K eqB):=fun pins s σ H x y v u Q I rx ry ⟨S,p,q,z,hs,rp,rq,e,k⟩=>c9a hu false pins s σ H x y v u Q I rx ry ⟨S,p,q,z,hs,rp,rq,by
 obtain ⟨b,e1,rfl⟩:=mpd e
 show (eqF p q).map _=_
 rw [e1]; cases b <;> rfl,k⟩
theorem q_ne (hu:X.A.units + 64 < cLine):OpR X (compareOp .NotEq) (Rq X.K neB):=fun pins s σ H x y v u Q I rx ry ⟨S,p,q,z,hs,rp,rq,e,k⟩=>c9a hu true pins s σ H x y v u Q I rx ry ⟨S,p,q,z,hs,rp,rq,by
 obtain ⟨b,e1,rfl⟩:=mpd e
 show (eqF p q).map _=_
 rw [e1]; cases b <;> rfl,k⟩
theorem d5l (hu:X.A.units + 64 < cLine) (neg:Bool):OpR X (compareOp (if neg then .NotIn else .In)) (Rq X.K fun p q=>(inF p q).map fun r=>.bl (neg != r)):=by
 intro pins s σ H x y v u Q I rx ry ⟨S,p,q,z,hs,rp,rq,e,k⟩
 obtain ⟨b,e',rfl⟩:=mpd (show (inF p q).map (fun r=>FV.bl (neg != r))=some z from e)
 have fin:=k.bl
 obtain ⟨dx,e1,e'⟩:=bnd e'
 obtain ⟨dy,e2,e'⟩:=bnd e'
 obtain ⟨as,ra⟩:=a2q I hs rp rx e1
 obtain ⟨bs,rb⟩:=a2q I hs rq ry e2
 have hd:∀ ys,X.A.units + 1 + min (PyData.depthAll (a4h ys)) (dPy dx).depth < cLine:=fun ys=>by
  have h1:=a4f e1
  unfold a0l at h1
  lia
 cases dy with
 | lst ys =>
  cases e'
  simp only [dPy] at rb
  cases neg with
  | false=>exact PySem.SeqAt.in_list_reads rb ra (a5y ys) (a5b dx) (hd ys) ⟨.bl _,H,I,rfl,by rw [b8v]; simpa using fin⟩
  | true=>exact PySem.SeqAt.notIn_list_reads rb ra (a5y ys) (a5b dx) (hd ys) ⟨.bl _,H,I,rfl,by rw [b8v]; simpa using fin⟩
 | tup ys =>
  cases e'
  simp only [dPy] at rb
  cases neg with
  | false=>exact PySem.SeqAt.in_tuple_reads rb ra (a5y ys) (a5b dx) (hd ys) ⟨.bl _,H,I,rfl,by rw [b8v]; simpa using fin⟩
  | true=>exact PySem.SeqAt.notIn_tuple_reads rb ra (a5y ys) (a5b dx) (hd ys) ⟨.bl _,H,I,rfl,by rw [b8v]; simpa using fin⟩
 | _=>cases e'
theorem q_in (hu:X.A.units + 64 < cLine):OpR X (compareOp .In) (Rq X.K inB):=fun pins s σ H x y v u Q I rx ry ⟨S,p,q,z,hs,rp,rq,e,k⟩=>d5l hu false pins s σ H x y v u Q I rx ry ⟨S,p,q,z,hs,rp,rq,by
 obtain ⟨b,e1,rfl⟩:=mpd e
 show (inF p q).map _=_
 rw [e1]; cases b <;> rfl,k⟩
theorem c7l {ps:List FV} {xs:List V} {i:Int} {p:FV} (r:RVs K S ps xs) (e:atF ps i=some p):∃ v,L2.atI xs i=some v∧RV K S p v:=by
 obtain ⟨j,e1,e2⟩:=bnd e
 obtain ⟨v,h1,h2⟩:=r.get e2
 refine ⟨v,?_,h2⟩
 show (L2.ixN xs.length i).bind (fun j=>xs[j]?)=some v
 rw [← r.length,show L2.ixN ps.length i=some j from e1]
 exact h1
noncomputable def Ri (K:Γd):R2:=fun x y H Q=>∃ S v w z,Same S H∧RH K S H v x∧RH K S H w y∧ixF v w=some z∧∀ u,RV K S z u→Q u H
theorem q_ix:IxR X (Ri X.K):=by
 intro value slice pins s σ H x y v u Q I rx ry ⟨S,p,q,z,hs,rp,rq,e,k⟩ hsl
 obtain ⟨j,e1,e3⟩:=bnd e
 obtain ⟨ps,e2,e4⟩:=bnd e3
 cases a1m e1
 obtain rfl:=rq.int
 obtain ⟨a,xs,rfl,hq,r⟩:=rp.seq hs e2
 obtain ⟨w,h1,h2⟩:=c7l r e4
 cases hb:isL p with
 | true=>rw [hb] at hq; exact c6i value slice pins s σ H _ _ v u Q I rx ry ⟨a,xs,j,w,rfl,rfl,hq,h1,k w h2⟩ hsl
 | false=>rw [hb] at hq; exact d0q value slice pins s σ H _ _ v u Q I rx ry ⟨a,xs,j,w,rfl,rfl,hq,h1,k w h2⟩ hsl
theorem b2k (n d:Nat) (o:Option Int):Kq.sIx n d o=HT.sIx n d o:=by
 cases o with
 | none=>rfl
 | some v=>simp only [Kq.sIx,HT.sIx]; try (split <;> split <;> lia)
theorem b8w {ps:List FV} {xs:List V} {lo hi:Option Int} (r:RVs K S ps xs):RVs K S (a5g ps lo hi) (c3u xs lo hi):=by
 unfold a5g c3u
 rw [b2k,b2k,r.length]
 exact (r.drop _).take _
noncomputable def Rsl (K:Γd):V→Option Int→Option Int→Hp→VK→Prop:=fun x lo hi H Q=>∃ S v z,Same S H∧RH K S H v x∧a5j v lo hi=some z∧NewOr K S H Q z
theorem q_sl:SlR X (Rsl X.K):=by
 intro pins s σ H x v vl vu lo hi sl Q I rx hsl pl pu ⟨S,p,z,hs,rp,e,k⟩
 cases p with
 | tup ps =>
  cases e
  have rv:=rp.val rfl
  obtain ⟨a,xs,rfl,ha,ra⟩:=rp.tup hs
  by_cases hc:HT.sIx xs.length 0 lo=0∧HT.sIx xs.length xs.length hi=xs.length
  ·refine c0d pins s σ H _ v vl vu lo hi sl Q I rx hsl pl pu ⟨a,xs,rfl,SqT.of ha,hc.1,hc.2,k.old _ (fun _ z=>nomatch z) ?_⟩
   have e:a5g ps lo hi=ps:=by
    unfold a5g
    rw [b2k,b2k,ra.length,hc.1,hc.2,List.drop_zero,Nat.sub_zero,List.take_of_length_le (Nat.le_of_eq ra.length)]
   rw [e]; exact rv
  ·exact c8p pins s σ H _ v vl vu lo hi sl Q I rx hsl pl pu ⟨a,xs,rfl,SqT.of ha,hc,fun p hp=>k.tup _ _ p rfl (b8w ra) hp⟩
 | lst ps =>
  cases e
  obtain ⟨a,xs,rfl,ha,ra⟩:=rp.lst hs
  exact c4n pins s σ H _ v vl vu lo hi sl Q I rx hsl pl pu ⟨a,xs,rfl,SqL.of ha,fun p hp=>k.lst _ _ p rfl (b8w ra) hp⟩
 | _=>cases e
end
section
variable {X:Cx} {K:Γd} {S H:Hp} {Q:VK}
noncomputable def Rc (K:Γd) (f:FV→Option FV):List V→Hp→VK→Prop:=fun xs H Q=>∃ S v x z,xs=[x]∧Same S H∧RH K S H v x∧f v=some z∧NewOr K S H Q z
noncomputable def Rc2 (K:Γd) (f:FV→FV→Option FV):List V→Hp→VK→Prop:=fun xs H Q=>∃ S v w x y z,xs=[x,y]∧Same S H∧RH K S H v x∧RH K S H w y∧f v w=some z∧NewOr K S H Q z
theorem c8n {b:Bool} {a:Addr} {xs:List V} (h:SqB b K H a xs):SqL K H a xs ∨ SqT K H a xs:=by cases b; exact .inr h; exact .inl h
theorem d9l:a1l X (.builtin "len") (Rc X.K a6z):=by
 rintro pins s σ H xs us Q I r ⟨S,v,x,z,rfl,hs,rv,e,k⟩
 obtain ⟨ps,e1,rfl⟩:=mpd e
 obtain ⟨a,ys,rfl,hq,ry⟩:=rv.seq hs e1
 refine b0f pins s σ H _ us Q I r ⟨a,ys,rfl,c8n hq,?_⟩
 rw [← ry.length]
 exact k.int
theorem d9o:a1l X (.builtin "abs") (Rc X.K d2c):=by
 rintro pins s σ H xs us Q I r ⟨S,v,x,z,rfl,hs,rv,e,k⟩
 obtain ⟨i,e1,rfl⟩:=mpd e
 cases a1m e1
 obtain rfl:=rv.int
 exact c2k pins s σ H _ us Q I r ⟨i,rfl,k.int⟩
theorem d9m:a1l X (.type "int") (Rc X.K b2a):=by
 rintro pins s σ H xs us Q I r ⟨S,v,x,z,rfl,hs,rv,e,k⟩
 cases v with
 | int i =>
  cases e
  obtain rfl:=rv.int
  exact b0g pins s σ H _ us Q I r (.inl ⟨i,rfl,k.int⟩)
 | bl b =>
  cases e
  obtain rfl:=rv.bl
  exact b0g pins s σ H _ us Q I r (.inr ⟨b,rfl,k.int⟩)
 | _=>cases e
theorem c7g:a1l X (.type "tuple") (Rc X.K a2m):=by
 rintro pins s σ H xs us Q I r ⟨S,v,x,z,rfl,hs,rv,e,k⟩
 obtain ⟨ps,e1,rfl⟩:=mpd e
 obtain ⟨a,ys,rfl,hq,ry⟩:=rv.seq hs e1
 cases v with
 | tup qs=>cases e1; exact a2t pins s σ H _ us Q I r ⟨a,ys,rfl,.inr ⟨hq,k.old _ (fun _ z=>nomatch z) (rv.val rfl)⟩⟩
 | lst qs=>exact a2t pins s σ H _ us Q I r ⟨a,ys,rfl,.inl ⟨hq,fun l hl=>k.tup _ _ l rfl ry hl⟩⟩
 | scr qs=>exact a2t pins s σ H _ us Q I r ⟨a,ys,rfl,.inl ⟨hq,fun l hl=>k.tup _ _ l rfl ry hl⟩⟩
 | _=>cases e1
theorem d1u:a1l X (.type "list") (Rc X.K a4q):=by
 rintro pins s σ H xs us Q I r ⟨S,v,x,z,rfl,hs,rv,e,k⟩
 obtain ⟨ps,e1,rfl⟩:=mpd e
 obtain ⟨a,ys,rfl,hq,ry⟩:=rv.seq hs e1
 exact b0e pins s σ H _ us Q I r ⟨a,ys,rfl,c8n hq,fun l hl=>k.lst _ _ l rfl ry hl⟩
theorem d1t (hc:X.calm=true):a1l X (.builtin "min") (Rc2 X.K c1d):=by
 rintro pins s σ H xs us Q I r ⟨S,v,w,x,y,z,rfl,hs,rv,rw',e,k⟩
 obtain ⟨i,e1,e2⟩:=bnd e
 obtain ⟨j,e3,e4⟩:=bnd e2
 cases a1m e1; cases a1m e3; cases e4
 obtain rfl:=rv.int
 obtain rfl:=rw'.int
 exact b9e hc pins s σ H _ us Q I r ⟨i,j,rfl,k.int⟩
theorem Vals.mapInt {ns:List Int}:∀ {us:List Value},Vals (ns.map V.int) us→∀ i:Nat,i < ns.length→∃ t,us[i]?=some (.int (ns.getD i 0) t):=fun {us} r i hi=>by
 obtain ⟨u,e,t,rfl⟩:=r.get (i:=i) (x:=.int (ns.getD i 0)) (by simp [hi])
 exact ⟨t,e⟩
theorem a1s (ns:List Int):∀ j,j≤ns.length→preSum (fun i=>ns.getD i 0) j=(ns.take j).sum
 | 0,_=>by simp [preSum]
 | j + 1,h=>by
  have hj:j < ns.length:=h
  show preSum _ j + ns.getD j 0=_
  rw [a1s ns j (by lia),List.take_succ_eq_append_getElem hj,List.sum_append]
  simp [List.getD,hj]
theorem b5v (B:Int) (hB:0≤B):∀ ns:List Int,(∀ n∈ns,-B≤n∧n≤B)→-(B * ns.length)≤ns.sum∧ns.sum≤B * ns.length
 | [],_=>by simp
 | n :: r,h=>by
  have ih:=b5v B hB r fun m hm=>h m (List.mem_cons_of_mem _ hm)
  have hn:=h n List.mem_cons_self
  rw [List.sum_cons,List.length_cons]
  have e:B * ((r.length + 1:Nat):Int)=B * (r.length:Int) + B:=by rw [Int.natCast_add,Int.mul_add]; simp
  rw [e]
  lia
theorem b4w (hc:X.calm=true):a1l X (.builtin "sum") (fun xs H Q=>∃ (a:Addr) (ns:List Int),xs=[.ref a]∧SqL X.K H a (ns.map V.int)∧ns.length≤big∧(∀ n∈ns,-(2 ^ 40)≤n∧n≤2 ^ 40)∧Q (.int ns.sum) H):=by
 intro pins s σ H xs us Q I r h
 obtain ⟨a,ns,rfl,hq,hz,hb,q⟩:=h
 obtain ⟨u,rfl,rx⟩:=a2w r
 cases rx
 obtain ⟨its,r',pl,hz'⟩:=I.list hq
 have hlen:ns.length=its.length:=by have:=r'.length; simpa using this
 have alt:a < s.heap.objs.size:=by obtain ⟨_,e,_⟩:=pl.isList; exact Heap.lt_size e
 have hh:X.A.in1.handled=none:=I.ok.hd hc
 refine call_sum_walk (wpAny_pyIter_list pl.isList ?_)
 refine ⟨s.heap.objs.size,_,_,_,_,_,fun i=>ns.getD i 0,rfl,Walks.list hh s.heap.objs.size a (Nat.ne_of_lt alt) its.toArray,⟨⟨_,Heap.get?_push_size _ rfl,rfl,rfl⟩,pl.isList.at fun o e=>Γc _ e⟩,?_,?_,?_,?_⟩
 ·intro b hb'
  simp at hb'
  rcases hb' with rfl | rfl
  ·show _ < (s.heap.push _).objs.size; rw [Heap.size_push]; exact Nat.lt_succ_self _
  ·show _ < (s.heap.push _).objs.size; rw [Heap.size_push]; exact Nat.lt_succ_of_lt alt
 ·intro i v hv
  have hv:its.toArray[i]?=some v:=hv
  have hi:i < ns.length:=by rw [hlen]; simpa using (Array.getElem?_eq_some_iff.mp hv).1
  obtain ⟨t,e⟩:=Vals.mapInt r' i hi
  refine ⟨t,?_⟩
  have e':its.toArray[i]?=some (.int (ns.getD i 0) t):=by simpa using e
  rw [hv] at e'
  exact Option.some.inj e'
 ·intro j hj
  have hj':j < ns.length:=by rw [hlen]; simpa using hj
  have hm:ns.getD j 0∈ns:=by simp [List.getD,hj']
  refine ⟨?_,?_⟩
  ·have:=hb _ hm
   show -(2 ^ 63)≤ns.getD j 0∧ns.getD j 0 < 2 ^ 63
   lia
  ·rw [a1s ns (j + 1) hj']
   have b2:=b5v 1099511627776 (by decide) (ns.take (j + 1)) fun n hn=>by have:=hb n (List.mem_of_mem_take hn); lia
   have l2:(ns.take (j + 1)).length≤100000:=by rw [List.length_take]; unfold big at hz; lia
   unfold InLong; lia
 ·intro h' tk t' hk
  have e:preSum (fun i=>ns.getD i 0) its.toArray.size=ns.sum:=by
   rw [List.size_toArray,← hlen,a1s ns _ (Nat.le_refl _),List.take_length]
  rw [e]
  refine ⟨.int ns.sum,H,?_,⟨t',rfl⟩,q⟩
  exact I.kept (t':=tk) fun b o e=>hk b o (by simp; exact Nat.ne_of_lt (Heap.lt_size e)) (Γc _ e)
theorem b9x {prog:Program} {w:World} {A:Around} {its:List Value} {bs:List Bool} (r:Vals (bs.map V.bl) its):TruthOf prog w A (fun i v=>its.toArray[i]?=some v) (fun i=>bs.getD i false):=by
 intro i v s Q E hv hq
 have hlen:bs.length=its.length:=by have:=r.length; simpa using this
 have hi:i < bs.length:=by rw [hlen]; simpa using (Array.getElem?_eq_some_iff.mp hv).1
 obtain ⟨u,e,ru⟩:=r.get (i:=i) (x:=.bl (bs.getD i false)) (by simp [hi])
 have e':its.toArray[i]?=some u:=by simpa using e
 rw [hv] at e'
 cases e'
 cases ru
 exact Γb hq
theorem b6i (bs:List Bool):(List.range bs.length).all (fun i=>bs.getD i false)=bs.all id:=by
 rw [Bool.eq_iff_iff]
 simp only [List.all_eq_true,List.mem_range,id]
 constructor
 ·intro h b hb
  obtain ⟨i,hi,e⟩:=List.mem_iff_getElem.mp hb
  have:=h i hi
  simpa [List.getD,hi,e] using this
 ·intro h i hi
  have:=h bs[i] (List.getElem_mem hi)
  simpa [List.getD,hi] using this
theorem b4y (hc:X.calm=true):a1l X (.builtin "all") (fun xs H Q=>∃ (a:Addr) (bs:List Bool),xs=[.ref a]∧SqL X.K H a (bs.map V.bl)∧Q (.bl (bs.all id)) H):=by
 intro pins s σ H xs us Q I r h
 obtain ⟨a,bs,rfl,hq,q⟩:=h
 obtain ⟨u,rfl,rx⟩:=a2w r
 cases rx
 obtain ⟨its,r',pl,hz'⟩:=I.list hq
 have hlen:bs.length=its.length:=by have:=r'.length; simpa using this
 have alt:a < s.heap.objs.size:=by obtain ⟨_,e,_⟩:=pl.isList; exact Heap.lt_size e
 have hh:X.A.in1.handled=none:=I.ok.hd hc
 refine call_all_walk (wpAny_pyIter_list pl.isList ?_)
 refine ⟨s.heap.objs.size,_,_,_,_,_,fun i=>bs.getD i false,rfl,Walks.list hh s.heap.objs.size a (Nat.ne_of_lt alt) its.toArray,⟨⟨_,Heap.get?_push_size _ rfl,rfl,rfl⟩,pl.isList.at fun o e=>Γc _ e⟩,b9x r',?_⟩
 intro h' tk hk
 rw [List.size_toArray,← hlen,b6i]
 exact ⟨.bl _,H,I.kept (t':=tk) fun b o e=>hk b o (by simp; exact Nat.ne_of_lt (Heap.lt_size e)) (Γc _ e),rfl,q⟩
theorem d1q (hc:X.calm=true):a1l X (.builtin "sum") (Rc X.K sumF):=by
 rintro pins s σ H xs us Q I r ⟨S,v,x,z,rfl,hs,rv,e,k⟩
 obtain ⟨ps,e1,e2⟩:=bnd e
 obtain ⟨n,e3,rfl⟩:=mpd e2
 obtain ⟨ns,e4,e5⟩:=bnd e3
 obtain ⟨hb,rfl⟩:=itd e5
 obtain ⟨a,ys,rfl,hq,ry⟩:=rv.list hs e1
 cases a1b ry e4
 refine b4w hc pins s σ H _ us Q I r ⟨a,ns,rfl,hq,hb.1,fun n hn=>?_,k.int⟩
 have:=List.all_eq_true.mp hb.2 n hn
 simpa [a7r] using this
theorem d9n (hc:X.calm=true):a1l X (.builtin "all") (Rc X.K c7r):=by
 rintro pins s σ H xs us Q I r ⟨S,v,x,z,rfl,hs,rv,e,k⟩
 obtain ⟨ps,e1,e2⟩:=bnd e
 obtain ⟨bs,e3,rfl⟩:=mpd e2
 obtain ⟨a,ys,rfl,hq,ry⟩:=rv.list hs e1
 cases a7l ry e3
 exact b4y hc pins s σ H _ us Q I r ⟨a,bs,rfl,hq,k.bl⟩
theorem a7a:∀ (xs:List Int) (b x:Int),a1g b (xs++[x])=if x < a1g b xs then x else a1g b xs
 | [],b,x=>rfl
 | y :: ys,b,x=>by
  show a1g (if y < b then y else b) (ys++[x])=_
  rw [a7a ys]; rfl
theorem a9r (n:Int) (r:List Int):∀ k,k≤r.length→(n :: r)[argBest (fun i j=>decide ((n :: r).getD i 0 < (n :: r).getD j 0)) k]?=some (a1g n (r.take k))
 | 0,_=>by simp [argBest,a1g]
 | k + 1,h=>by
  have ih:=a9r n r k (by lia)
  have hk:k < r.length:=h
  have e1:(n :: r).getD (argBest (fun i j=>decide ((n :: r).getD i 0 < (n :: r).getD j 0)) k) 0=a1g n (r.take k):=by rw [List.getD_eq_getElem?_getD,ih]; rfl
  have e2:(n :: r).getD (k + 1) 0=r[k]:=by simp [List.getD,hk]
  rw [List.take_succ_eq_append_getElem hk,a7a]
  simp only [argBest,e1,e2,decide_eq_true_eq]
  split
  ·simp [hk]
  ·exact ih
theorem d1r (hc:X.calm=true):a1l X (.builtin "min") (Rc X.K b7g):=by
 rintro pins s σ H xs us Q I r ⟨S,v,x,z,rfl,hs,rv,e,k⟩
 obtain ⟨ps,e1,e2⟩:=bnd e
 obtain ⟨ns,e3,e4⟩:=bnd e2
 obtain ⟨a,ys,rfl,hq,ry⟩:=rv.list hs e1
 obtain ⟨u,rfl,ru⟩:=a2w r
 cases (show u=Value.ref a from ru)
 obtain ⟨its,r',pl,hz'⟩:=I.list hq
 have hh:X.A.in1.handled=none:=I.ok.hd hc
 have hlen:ys.length=its.length:=r'.length
 cases a1b ry e3
 cases ns with
 | nil=>cases e4
 | cons n r =>
  cases e4
  have hl2:its.length=r.length + 1:=by rw [← hlen]; simp
  have it:∀ (i:Nat) (v:Value),its.toArray[i]?=some v→∃ t,v=Value.int ((n :: r).getD i 0) t:=fun i v hv=>by
   have hv:its[i]?=some v:=by simpa using hv
   have hi:=(List.getElem?_eq_some_iff.mp hv).1
   obtain ⟨t,e⟩:=Vals.mapInt r' i (by simp; lia)
   rw [hv] at e
   exact ⟨t,Option.some.inj e⟩
  refine a7j (bt:=fun i j=>decide ((n :: r).getD i 0 < (n :: r).getD j 0)) hh pl.isList (by simp; lia) (fun i j u v s1 Q1 E1 _ hi hj q1=>?_) fun v h' tk hv hk=>?_
  ·obtain ⟨t1,rfl⟩:=it i u hi
   obtain ⟨t2,rfl⟩:=it j v hj
   exact PyProof.Rows.lt_int q1
  ·have hv:its[argBest (fun i j=>decide ((n :: r).getD i 0 < (n :: r).getD j 0)) (its.toArray.size - 1)]?=some v:=by simpa using hv
   have hb:=a9r n r r.length (Nat.le_refl _)
   rw [List.take_length] at hb
   have hsz:its.toArray.size - 1=r.length:=by simp; lia
   rw [hsz] at hv
   generalize argBest (fun i j=>decide ((n :: r).getD i 0 < (n :: r).getD j 0)) r.length=z at hv hb
   obtain ⟨t,rfl⟩:=it z v (by simpa using hv)
   rw [List.getD_eq_getElem?_getD,hb]
   exact ⟨.int (a1g n r),H,I.kept (t':=tk) hk,⟨t,rfl⟩,k.int⟩
theorem b2f (hu:X.A.units + 64 < cLine) (hg:X.A.guards=some []) {pins:List (Addr×Obj)} {s:Shared} {σ:L2.St} {v z:FV} {a:Addr} (I:Inv X pins σ H s) (hs:Same S H) (rv:RH X.K S H v (.ref a)) (e:d4o v=some z) (k:NewOr X.K S H Q z):wpAny (model X.prog X.w) X.A (PySem.call (.type "str") [.ref a]) (EP X pins σ Q) X.xe s:=by
 obtain ⟨d,e1,e2⟩:=bnd e
 obtain ⟨hf,rfl⟩:=itd e2
 obtain ⟨as,ra⟩:=a2q I hs rv (show RelV (.ref a) (.ref a) from rfl) e1
 have hdp:=a4f e1
 unfold a0l at hdp
 refine str_of_reads (h₀:=s.heap) ra (c7c d hf.1).1 (fun z=>by rw [b3n] at z; cases z) hg (by lia) (fun _ _ h=>h) (fun h' u' tk hk=>?_) (c7b hf.1 hf.2)
 exact ⟨.str (dPy d).shown,H,I.kept (t':=tk) hk,⟨u',rfl⟩,k.old _ (fun _ z=>nomatch z) rfl⟩
theorem d9j (hu:X.A.units + 64 < cLine) (hg:X.A.guards=some []):a1l X (.type "str") (Rc X.K c4i):=by
 rintro pins s σ H xs us Q I r ⟨S,v,x,z,rfl,hs,rv,e,k⟩
 obtain ⟨u,rfl,ru⟩:=a2w r
 cases v with
 | int i =>
  obtain ⟨hc,rfl⟩:=itd e
  obtain rfl:=rv.int
  exact b0d pins s σ H _ _ Q I r ⟨i,rfl,by have:=log2_lt (k:=150) (by decide) hc; lia,k.str⟩
 | non =>
  cases e
  cases (show x=.non from rv.val rfl); cases (show u=_ from ru)
  exact PySem.P.str_of_none ⟨.str _,H,I.tok _,⟨_,rfl⟩,k.str⟩
 | bl b =>
  cases e
  obtain rfl:=rv.bl
  cases (show u=_ from ru)
  exact PySem.P.str_of_bool ⟨.str (Γe (if b then "True" else "False")),H,I.tok _,⟨_,by cases b <;> rfl⟩,k.str⟩
 | str x =>
  cases e
  cases (show _=V.str _ from rv.val rfl); obtain ⟨t,rfl⟩:=ru
  exact PySem.P.str_of_str ⟨.str _,H,I,⟨_,rfl⟩,k.str⟩
 | tup xs =>
  obtain ⟨a,ys,rfl,_⟩:=rv.tup hs
  cases (show u=_ from ru)
  exact b2f hu hg I hs rv e k
 | lst xs =>
  obtain ⟨a,ys,rfl,_⟩:=rv.lst hs
  cases (show u=_ from ru)
  exact b2f hu hg I hs rv e k
 | _=>cases e
end
structure CC where
 N:List Str
 sc:List (Str×NameKind)
 fns:List Str
 md:Md
 top:Bool
noncomputable def CC.vis (C:CC) (x:Str):Bool:=match C.sc.lookup x with
 | some .local=>true
 | some .cell=>true
 | some .free=>true
 | _=>false
noncomputable def CC.gl (C:CC) (x:Str):Bool:=decide (C.sc.lookup x=some .globalImplicit)
noncomputable def CC.loc (C:CC) (x:Str):Bool:=match C.sc.lookup x with
 | some .local=>true
 | some .cell=>C.top
 | _=>false
noncomputable def CC.nm (C:CC) (i:Nat) (x:Str):Bool:=decide (C.N[i]?=some x) && C.vis x && !(x == ("__debug__":Str)) && !(x == ("__classdict__":Str))
noncomputable def bltNames:List String:=["len","abs","int","sum","all","any","min","max","tuple","list","isinstance","range","zip","bool","str","enumerate","reversed","sorted","dict","set"]
structure Good (X:Cx) (C:CC) (n:Nat) (sp:Γd→Nat→Sp):Prop where
 N:X.N=C.N
 sc:X.env.scope.names=C.sc
 kind:X.env.scope.kind=.function
 nd:C.N.Nodup
 calm:X.calm=true
 fn:C.top=true→∀ x,X.fn x=true
 room:Room n X.A
 fns:∀ (f:Nat) (x:Str),C.fns[f]?=some x→∃ fa fd ps,X.mg x=some (.ref fa)∧PySem.W.keepIn X.K (.ref fa)=true∧Binds X.K fd ps []∧FnOk X.prog X.w X.K X.mg X.base CX0 n fa fd ps (sp X.K f)
 blt:∀ b∈bltNames,X.mg (Γe b)=none
theorem b2 {a b:Bool} (h:(a && b)=true):a=true∧b=true:=by simpa using h
theorem nb {a:Bool} (h:(!a)=true):a=false:=by simpa using h
theorem de {p:Prop} [Decidable p] (h:decide p=true):p:=by simpa using h
noncomputable def lv (K:Γd) (md:Md) (e:EW):TE:=fun σ H Q=>∃ c L S Q0,Iv K c md L σ S H∧e L Q0∧∀ v L',Q0 v L'→∀ x S' H',RV K S' v x→Iv K c md L' σ S' H'→Same S S'→Q x H'
noncomputable def lr (K:Γd) (md:Md) (e:EW):TE:=fun σ H Q=>∃ c L S Q0,Iv K c md L σ S H∧e L Q0∧∀ v L',Q0 v L'→∀ x S' H',RH K S' H' v x→Iv K c md L' σ S' H'→Same S S'→Q x H'
noncomputable def a8t (c:Cn) (md:Md) (L:a0c) (σ:L2.St) (a:Addr):Prop:=c.H0 a=none∧(∀ p∈c.pr,p.1≠a)∧∀ j w,a0q md j≠.imm→L[j]?=some (some w)→σ[j]?≠some (some (.ref a))
noncomputable def lf (K:Γd) (md:Md) (e:EW):TE:=fun σ H Q=>∃ c L S Q0,Iv K c md L σ S H∧e L Q0∧∀ v L',Q0 v L'→∀ a S' H',a3n K S' H' a v→a8t c md L' σ a→Iv K c md L' σ S' H'→Same S S'→Q (.ref a) H'
noncomputable def lb (K:Γd) (md:Md) (e:BW):TT:=fun σ H Q=>∃ c L S Q0,Iv K c md L σ S H∧e L Q0∧∀ v L',Q0 v L'→∀ S' H',Iv K c md L' σ S' H'→Same S S'→Q v H'
noncomputable def la (K:Γd) (md:Md) (e:AW):TA:=fun σ H Q=>∃ c L S Q0,Iv K c md L σ S H∧e L Q0∧∀ v L',Q0 v L'→∀ x S' H',RVs K S' v x→Iv K c md L' σ S' H'→Same S S'→Q x H'
noncomputable def lo (K:Γd) (md:Md) (e:OW):TO:=fun σ H Q=>∃ c L S Q0,Iv K c md L σ S H∧e L Q0∧∀ v L',Q0 v L'→∀ S' H',Iv K c md L' σ S' H'→Same S S'→Q v H'
noncomputable def FE (X:Cx) (C:CC) (x:Expr) (e:EW):Prop:=PE X.nox x (lv X.K C.md e)
noncomputable def FR (X:Cx) (C:CC) (x:Expr) (e:EW):Prop:=PE X.nox x (lr X.K C.md e)
noncomputable def FF (X:Cx) (C:CC) (x:Expr) (e:EW):Prop:=PE X.nox x (lf X.K C.md e)
noncomputable def FB (X:Cx) (C:CC) (x:Expr) (e:BW):Prop:=PT X.nox x (lb X.K C.md e)
noncomputable def FW (X:Cx) (C:CC) (x:Expr) (e:BW):Prop:=PW X.nox x (lb X.K C.md e)
noncomputable def FA (X:Cx) (C:CC) (x:List Expr) (e:AW):Prop:=PA X.nox x (la X.K C.md e)
noncomputable def FO (X:Cx) (C:CC) (x:Option Expr) (e:OW):Prop:=L2.PO X.nox x (lo X.K C.md e)
section
variable {X:Cx}
theorem PE.imp {e:Expr} {t u:TE} (h:PE X e t) (f:∀ σ H Q,u σ H Q→t σ H Q):PE X e u:=fun pins s σ H Q I hu=>h pins s σ H Q I (f σ H Q hu)
theorem PT.imp {e:Expr} {t u:TT} (h:PT X e t) (f:∀ σ H Q,u σ H Q→t σ H Q):PT X e u:=fun pins s σ H Q I hu=>h pins s σ H Q I (f σ H Q hu)
theorem PW.imp {e:Expr} {t u:TT} (h:PW X e t) (f:∀ σ H Q,u σ H Q→t σ H Q):PW X e u:=fun w pins s σ H Q I hu=>h w pins s σ H Q I (f σ H Q hu)
theorem PA.imp {e:List Expr} {t u:TA} (h:PA X e t) (f:∀ σ H Q,u σ H Q→t σ H Q):PA X e u:=fun p pins s σ H Q I hu=>h p pins s σ H Q I (f σ H Q hu)
theorem PO.imp {e:Option Expr} {t u:TO} (h:L2.PO X e t) (f:∀ σ H Q,u σ H Q→t σ H Q):L2.PO X e u:=fun pins s σ H Q I hu=>h pins s σ H Q I (f σ H Q hu)
end
section
variable {X:Cx} {C:CC} {n:Nat} {sp:Γd→Nat→Sp}
theorem Good.vis (G:Good X C n sp) {x:Str} (h:C.vis x=true):Vis X.env.scope x:=by
 unfold CC.vis at h
 unfold Vis
 rw [G.sc]
 split at h
 ·rename_i e; exact .inl e
 ·rename_i e; exact .inr (.inl e)
 ·rename_i e; exact .inr (.inr e)
 ·cases h
theorem Good.gl (G:Good X C n sp) {x:Str} (h:C.gl x=true):Gl X x:=by
 show X.env.scope.names.lookup x=_
 rw [G.sc]; exact de h
theorem Good.loc (G:Good X C n sp) {x:Str} (h:C.loc x=true):L2.Loc X.env.scope x∧(X.fn x=true ∨ X.env.scope.names.lookup x=some .local):=by
 unfold CC.loc at h
 unfold L2.Loc
 rw [G.sc]
 split at h
 ·rename_i e; exact ⟨.inl e,.inr e⟩
 ·rename_i e; exact ⟨.inr e,.inl (G.fn h x)⟩
 ·cases h
variable {K:Γd} {c:Cn} {md:Md} {L:a0c} {σ:L2.St} {S H:Hp}
theorem Iv.rd (I:Iv K c md L σ S H) {i:Nat} {v:FV} (e:lk L i=some v):∃ x,σ[i]?=some (some x)∧RH K S H v x:=by
 rw [a4c] at e
 by_cases m:a0q md i=.imm
 ·obtain ⟨x,h1,h2⟩:=I.imm i v m e
  exact ⟨x,h1,.inl h2⟩
 ·obtain ⟨a,h1,h2,_⟩:=I.own i v m e
  exact ⟨_,h1,.inr ⟨a,rfl,h2⟩⟩
theorem a9i {Q:VK} {z:FV} (I:Iv K c md L σ S H) (k:∀ x S' H',RV K S' z x→Iv K c md L σ S' H'→Same S S'→Q x H'):NewOr K S H Q z where
 old:=fun x _ r=>k x S H r I (Same.refl S)
 tup:=fun ps xs p e r hp=>k _ _ _ (by rw [e]; exact ⟨p,xs,rfl,a0f,r.mono (a0p (I.sn hp))⟩) (I.new hp _) (a0p (I.sn hp))
 lst:=fun ps xs p e r hp=>k _ _ _ (by rw [e]; exact ⟨p,xs,rfl,a0f,r.mono (a0p (I.sn hp))⟩) (I.new hp _) (a0p (I.sn hp))
theorem Iv.fresh (I:Iv K c md L σ S H) {p:Addr} (h:H p=none):a8t c md L σ p:=by
 refine ⟨I.h0 h,fun q hq z=>?_,fun j w m e z=>?_⟩
 ·rw [← z,(I.prs q hq).1] at h; cases h
 ·obtain ⟨a,e1,⟨_,_,_,_,e2,_⟩,_⟩:=I.own j w m e
  rw [z] at e1; cases e1
  rw [h] at e2; cases e2
theorem d6h {Q:VK} {z:FV} (I:Iv K c md L σ S H) (hz:∃ ps,z=.lst ps) (k:∀ a S' H',a3n K S' H' a z→a8t c md L σ a→Iv K c md L σ S' H'→Same S S'→Q (.ref a) H'):NewOr K S H Q z where
 old:=fun x n _=>let ⟨ps,e⟩:=hz; absurd e (n ps)
 tup:=fun ps xs p e r hp=>by obtain ⟨qs,e2⟩:=hz; rw [e2] at e; cases e
 lst:=fun ps xs p e r hp=>by subst e; exact k p S _ ⟨I.sn hp,ps,xs,rfl,a0f,r⟩ (I.fresh hp) (I.lay hp _) (Same.refl S)
theorem fe_var (G:Good X C n sp) {i:Nat} {x:Str} {pos:Pos} (h:C.nm i x=true) (m:a0q C.md i=.imm):FE X C (.Name x pos) (a0b i):=by
 have h:=b2 h; have h1:=b2 h.1; have h2:=b2 h1.1
 refine PE.imp (b2o (by show X.N[i]?=_; rw [G.N]; exact de h2.1) (G.vis h2.2) (nb h1.2) (nb h.2)) fun σ H Q ⟨c,L,S,Q0,I,h,k⟩=>?_
 obtain ⟨v,e,q⟩:=wpx h
 obtain ⟨x,e1,r⟩:=I.imm i v m ((a4c _ _ _).mp e)
 exact ⟨x,e1,k v L q x S H r I (Same.refl S)⟩
theorem fr_var (G:Good X C n sp) {i:Nat} {x:Str} {pos:Pos} (h:C.nm i x=true):FR X C (.Name x pos) (a0b i):=by
 have h:=b2 h; have h1:=b2 h.1; have h2:=b2 h1.1
 refine PE.imp (b2o (by show X.N[i]?=_; rw [G.N]; exact de h2.1) (G.vis h2.2) (nb h1.2) (nb h.2)) fun σ H Q ⟨c,L,S,Q0,I,h,k⟩=>?_
 obtain ⟨v,e,q⟩:=wpx h
 obtain ⟨x,e1,r⟩:=I.rd e
 exact ⟨x,e1,k v L q x S H r I (Same.refl S)⟩
theorem fr_of {x:Expr} {e:EW} (h:FE X C x e):FR X C x e:=PE.imp h fun σ H Q ⟨c,L,S,Q0,I,h,k⟩=>⟨c,L,S,Q0,I,h,fun v L' q x S' H' r=>k v L' q x S' H' (.inl r)⟩
theorem d3d {x:Expr} {v:FV} {u:V} (h:PE X.nox x (tC u)) (r:∀ S,RV X.K S v u):FE X C x (eC v):=PE.imp h fun σ H Q ⟨c,L,S,Q0,I,h,k⟩=>k v L h u S H (r S) I (Same.refl S)
theorem d0y {i j pos}:FE X C (.Constant (.int i) j pos) (eC (.int i)):=d3d c9s fun _=>rfl
theorem fe_bl {i j pos}:FE X C (.Constant (.bool i) j pos) (eC (.bl i)):=d3d d5w fun _=>rfl
theorem fe_non {j pos}:FE X C (.Constant .none j pos) (eC .non):=d3d c9q fun _=>rfl
theorem fe_str {i:String} {j pos}:FE X C (.Constant (.str (Γe i)) j pos) (eC (.str i)):=d3d c9n fun _=>rfl
section
variable {f:FV→FV→Option FV} {a b:Expr} {ea eb:EW} {pos:Pos} {i:Nat} {x:Str}
theorem a4n (G:Good X C n sp) (h:C.nm i x=true):PE X.nox (.Name x pos) (c7x i):=by
 have h:=b2 h; have h1:=b2 h.1; have h2:=b2 h1.1
 exact b2o (by show X.N[i]?=_; rw [G.N]; exact de h2.1) (G.vis h2.2) (nb h1.2) (nb h.2)
theorem go2 {r:R2} {σ:L2.St} {H:Hp} {Q:VK} (hh:∃ (c:Cn) (L:a0c) (S:Hp) (Q0:FV→FV→a0c→Prop),Iv K c md L σ S H∧ea L (fun x L1=>eb L1 fun y L2=>Q0 x y L2)∧∀ v w L' S' H' x y,Q0 v w L'→RV K S' v x→RH K S' H' w y→Iv K c md L' σ S' H'→Same S S'→r x y H' Q):tOp r (lv K md ea) (lr K md eb) σ H Q:=by
 obtain ⟨c,L,S,Q0,I,h,k⟩:=hh
 exact ⟨c,L,S,_,I,h,fun v L1 hv x S1 H1 r1 I1 s1=>⟨c,L1,S1,_,I1,hv,fun w L2 hw y S2 H2 r2 I2 s2=>k v w L2 S2 H2 x y hw (r1.mono s2) r2 I2 (s1.trans s2)⟩⟩
theorem go2N {r:R2} {σ:L2.St} {H:Hp} {Q:VK} (hh:∃ (c:Cn) (L:a0c) (S:Hp) (Q0:FV→FV→a0c→Prop),Iv K c md L σ S H∧(wp (lk L i) fun _=>eb L fun y L1=>wp (lk L1 i) fun x=>Q0 x y L1)∧∀ v w L' S' H' x y,Q0 v w L'→RH K S' H' v x→RH K S' H' w y→Iv K c md L' σ S' H'→Same S S'→r x y H' Q):tOp r (c7x i) (lr K md eb) σ H Q:=by
 obtain ⟨c,L,S,Q0,I,h,k⟩:=hh
 obtain ⟨_,e,h⟩:=wpx h
 obtain ⟨x,e1,_⟩:=I.rd e
 refine ⟨x,e1,c,L,S,_,I,h,fun w L2 hw y S2 H2 r2 I2 s2=>?_⟩
 obtain ⟨v,e2,q⟩:=wpx hw
 obtain ⟨x',e3,r1⟩:=I2.rd e2
 rw [e1] at e3; cases e3
 exact k v w L2 S2 H2 x y q r1 r2 I2 s2
theorem rq_v {Q0:FV→a0c→Prop} {Q:VK} {v w:FV} {x y:V} (I:Iv K c md L σ S H) (rv:RH K S H v x) (rw':RH K S H w y) (h:wp (f v w) fun z=>Q0 z L) (k:∀ z,Q0 z L→∀ x S' H',RV K S' z x→Iv K c md L σ S' H'→Same S S'→Q x H'):Rq K f x y H Q:=by
 obtain ⟨z,e,q⟩:=wpx h
 exact ⟨S,v,w,z,I.sub,rv,rw',e,a9i I (k z q)⟩
theorem op_v (h:PE X.nox a (tOp (Rq X.K f) (lv X.K C.md ea) (lr X.K C.md eb))):FE X C a (eOp f ea eb):=PE.imp h fun σ H Q ⟨c,L,S,Q0,I,h,k⟩ =>
 go2 ⟨c,L,S,fun x y L2=>wp (f x y) fun z=>Q0 z L2,I,h,fun v w L' S' H' x y q r1 r2 I' s'=>rq_v I' (.inl r1) r2 q fun z qz x S2 H2 r I2 s2=>k z L' qz x S2 H2 r I2 (s'.trans s2)⟩
variable {op:Operator}
theorem b4m (ho:OpR X.nox (binaryOp op) (Rq X.K f)) (ha:FE X C a ea) (hb:FR X C b eb):FE X C (.BinOp a op b pos) (eOp f ea eb):=op_v (d5u ho ha hb)
theorem fe_add (ha:FE X C a ea) (hb:FR X C b eb):FE X C (.BinOp a .Add b pos) (eOp a1r ea eb):=b4m d5n ha hb
theorem fe_sub (ha:FE X C a ea) (hb:FR X C b eb):FE X C (.BinOp a .Sub b pos) (eOp b2d ea eb):=b4m d5e ha hb
theorem fe_mul (ha:FE X C a ea) (hb:FR X C b eb):FE X C (.BinOp a .Mult b pos) (eOp a9k ea eb):=b4m d5g ha hb
theorem d7v (ha:FE X C a ea) (hb:FR X C b eb):FE X C (.BinOp a .FloorDiv b pos) (eOp b4n ea eb):=b4m c8z ha hb
theorem fe_mod (ha:FE X C a ea) (hb:FR X C b eb):FE X C (.BinOp a .Mod b pos) (eOp c3f ea eb):=b4m d5h ha hb
theorem fe_pow (ha:FE X C a ea) (hb:FR X C b eb):FE X C (.BinOp a .Pow b pos) (eOp c5d ea eb):=b4m d5f ha hb
noncomputable def d6i (f:FV→FV→Option FV) (v w:FV):Option FV:=(f v w).bind fun z=>(a8u z).map fun xs=>.lst xs
variable {cop:CmpOp}
theorem b8d (ho:OpR X.nox (compareOp cop) (Rq X.K f)) (ha:FE X C a ea) (hb:FR X C b eb) (hm:behindInMarks cop b=false):FE X C (.Compare a [cop] [b] pos) (eOp f ea eb):=op_v (c5j ho ha hb hm)
noncomputable def a4j (f:FV→FV→Option FV):Prop:=∀ v w z,f v w=some z→∃ b,z=.bl b
theorem c8e {Q0:Bool→a0c→Prop} {Q:Bool→Hp→Prop} {v w:FV} {x y:V} (tb:a4j f) (I:Iv K c md L σ S H) (rv:RH K S H v x) (rw':RH K S H w y) (h:wp (f v w) fun z=>wp (b9n z) fun b=>Q0 b L) (k:∀ z,Q0 z L→Q z H):Rq K f x y H (fun x H'=>∃ k,x=.bl k∧Q k H'):=by
 obtain ⟨z,e,q⟩:=wpx h
 obtain ⟨b,rfl⟩:=tb v w z e
 exact ⟨S,v,w,_,I.sub,rv,rw',e,⟨fun x _ r=>⟨b,r,k b q⟩,fun _ _ _ e=>(nomatch e),fun _ _ _ e=>(nomatch e)⟩⟩
theorem a7h (tb:a4j f) (ho:OpR X.nox (compareOp cop) (Rq X.K f)) (ha:FE X C a ea) (hb:FR X C b eb) (hm:behindInMarks cop b=false):FB X C (.Compare a [cop] [b] pos) (a1i (eOp f ea eb)):=PT.imp (c4w ho ha hb hm) fun σ H Q ⟨c,L,S,Q0,I,h,k⟩ =>
 go2 ⟨c,L,S,fun x y L2=>wp (f x y) fun z=>wp (b9n z) fun b=>Q0 b L2,I,h,fun v w L' S' H' x y q r1 r2 I' s'=>c8e tb I' (.inl r1) r2 q fun z qz=>k z L' qz S' H' I' s'⟩
end
end
noncomputable def a0k:Expr→Bool | .Starred ..=>true | _=>false
noncomputable def a4r:Expr→Bool | .Slice ..=>true | _=>false
noncomputable def c2y:Expr→Bool
 | .UnaryOp .Not _ _=>false
 | .BoolOp ..=>false
 | .IfExp ..=>false
 | .Compare ..=>false
 | _=>true
section
variable {X:Cx} {C:CC} {n:Nat} {sp:Γd→Nat→Sp} {a b d x y z:Expr} {ea eb ec:EW} {pos:Pos}
theorem a0d {xs:List Expr} {env:Env} (h:a0k x=false):starEach (x :: xs) env=(false,eval x env) :: starEach xs env:=by
 cases x <;> first | rfl | (cases h; done)
theorem b2n (h:a4r y=false):b9l y:=by
 intro o i
 cases y <;> first | rfl | (cases h; done)
theorem a9e {env:Env} (h:c2y x=true):∀ whole,isTrue x env whole=(do let v ← whole; standAt x.pos; holding [v] (PySem.truthy v)):=by
 intro whole
 cases x <;> first | rfl | (cases h; done) | (rename_i op x pos; cases op <;> first | rfl | (cases h; done))
theorem fe_eq (G:Good X C n sp) (ha:FE X C a ea) (hb:FR X C b eb):FE X C (.Compare a [.Eq] [b] pos) (eOp eqB ea eb):=b8d (q_eq G.room.units) ha hb (a2b _ (by decide) (by decide))
theorem fe_lt (G:Good X C n sp) (ha:FE X C a ea) (hb:FR X C b eb):FE X C (.Compare a [.Lt] [b] pos) (eOp ltB ea eb):=b8d (d5j G.room.units) ha hb (a2b _ (by decide) (by decide))
theorem fe_ge (ha:FE X C a ea) (hb:FR X C b eb):FE X C (.Compare a [.GtE] [b] pos) (eOp geB ea eb):=b8d q_ge ha hb (a2b _ (by decide) (by decide))
theorem c2r {f:FV→FV→Option Bool} {g:Bool→FV} (h:∀ b,∃ c,g b=.bl c):a4j fun v w=>(f v w).map g:=fun v w z e=>by
 obtain ⟨b,_,rfl⟩:=mpd e
 exact h b
theorem b2b {f:Int→Int→Bool}:a4j (a2x fun i j=>some (.bl (f i j))):=fun v w z e=>by
 obtain ⟨i,_,e⟩:=bnd e
 obtain ⟨j,_,e⟩:=bnd e
 cases e; exact ⟨_,rfl⟩
theorem d3y:a4j ltB:=fun v w z e=>by
 cases v with
 | tup xs =>
  obtain ⟨_,_,e⟩:=bnd e
  obtain ⟨_,_,e⟩:=bnd e
  obtain ⟨_,_,e⟩:=bnd e
  cases e; exact ⟨_,rfl⟩
 | _=>exact b2b _ w z e
theorem d3z:a4j leB:=fun v w z e=>by
 cases v with
 | tup xs =>
  obtain ⟨_,_,e⟩:=bnd e
  obtain ⟨_,_,e⟩:=bnd e
  obtain ⟨_,_,e⟩:=bnd e
  cases e; exact ⟨_,rfl⟩
 | _=>exact b2b _ w z e
theorem fb_eq (G:Good X C n sp) (ha:FE X C a ea) (hb:FR X C b eb):FB X C (.Compare a [.Eq] [b] pos) (a1i (eOp eqB ea eb)):=a7h (c2r fun b=>⟨b,rfl⟩) (q_eq G.room.units) ha hb (a2b _ (by decide) (by decide))
theorem fb_ne (G:Good X C n sp) (ha:FE X C a ea) (hb:FR X C b eb):FB X C (.Compare a [.NotEq] [b] pos) (a1i (eOp neB ea eb)):=a7h (c2r fun b=>⟨!b,rfl⟩) (q_ne G.room.units) ha hb (a2b _ (by decide) (by decide))
theorem fb_lt (G:Good X C n sp) (ha:FE X C a ea) (hb:FR X C b eb):FB X C (.Compare a [.Lt] [b] pos) (a1i (eOp ltB ea eb)):=a7h d3y (d5j G.room.units) ha hb (a2b _ (by decide) (by decide))
theorem fb_gt (ha:FE X C a ea) (hb:FR X C b eb):FB X C (.Compare a [.Gt] [b] pos) (a1i (eOp gtB ea eb)):=a7h b2b q_gt ha hb (a2b _ (by decide) (by decide))
theorem fb_ge (ha:FE X C a ea) (hb:FR X C b eb):FB X C (.Compare a [.GtE] [b] pos) (a1i (eOp geB ea eb)):=a7h b2b q_ge ha hb (a2b _ (by decide) (by decide))
variable {i:Nat} {nx:Str} {p:Pos}
section
variable {cop cop':CmpOp} {f g:FV→FV→Option FV}
theorem c2i (tf:a4j f) {σ:L2.St} {S H:Hp} {Q:VK} {c:Cn} {L:a0c} {Q1:FV→a0c→Prop} (I:Iv X.K c C.md L σ S H) (h:a9y f g ea eb ec L Q1)
  (kf:∀ L' S' H',Q1 (.bl false) L'→Iv X.K c C.md L' σ S' H'→Same S S'→Q (.bl false) H') (kg:∀ w z L' S' H' y u,(wp (g w z) fun q=>Q1 q L')→RV X.K S' w y→RH X.K S' H' z u→Iv X.K c C.md L' σ S' H'→Same S S'→Rq X.K g y u H' Q) :
  c2t (Rq X.K f) (Rq X.K g) (lv X.K C.md ea) (lv X.K C.md eb) (lr X.K C.md ec) σ H Q:=by
 refine ⟨c,L,S,_,I,h,fun v L1 hv x S1 H1 r1 I1 s1=>⟨c,L1,S1,_,I1,hv,fun w L2 hw y S2 H2 r2 I2 s2=>?_⟩⟩
 obtain ⟨r,e,q⟩:=wpx hw
 obtain ⟨b,rfl⟩:=tf v w r e
 refine ⟨S2,v,w,_,I2.sub,.inl (r1.mono s2),.inl r2,e,⟨fun u _ ru=>⟨b,ru,?_⟩,fun _ _ _ e=>(nomatch e),fun _ _ _ e=>(nomatch e)⟩⟩
 have q:if b=true then ec L2 fun z L3=>wp (g w z) fun q=>Q1 q L3 else Q1 (.bl false) L2:=q
 cases b with
 | false=>rw [if_neg Bool.false_ne_true] at q ⊢; exact kf L2 S2 H2 q I2 (s1.trans s2)
 | true =>
  rw [if_pos rfl] at q ⊢
  exact ⟨c,L2,S2,_,I2,q,fun z L3 hz u S3 H3 r3 I3 s3=>kg w z L3 S3 H3 y u hz (r2.mono s3) r3 I3 (s1.trans (s2.trans s3))⟩
theorem c1t (tf:a4j f) (ho:OpR X.nox (compareOp cop) (Rq X.K f)) (ho':OpR X.nox (compareOp cop') (Rq X.K g)) (ha:FE X C a ea) (hb:FE X C b eb) (hc:FR X C d ec) (hm:lastMarks [cop,cop'] [b,d]=false):FE X C (.Compare a [cop,cop'] [b,d] pos) (a9y f g ea eb ec) :=
 PE.imp (c0x ho ho' ha hb hc hm) fun σ H Q ⟨c,L,S,Q0,I,h,k⟩=>c2i tf I h (fun L' S' H' q I' s'=>k _ L' q _ S' H' rfl I' s') fun w z L' S' H' y u q r1 r2 I' s'=>rq_v I' (.inl r1) r2 q fun t qt x S4 H4 rt I4 s4=>k t L' qt x S4 H4 rt I4 (s'.trans s4)
theorem d7u (G:Good X C n sp) (ha:FE X C a ea) (hb:FE X C b eb) (hc:FR X C d ec) (hm:lastMarks [.LtE,.Lt] [b,d]=false):FE X C (.Compare a [.LtE,.Lt] [b,d] pos) (a9y leB ltB ea eb ec):=c1t d3z (q_le G.room.units) (d5j G.room.units) ha hb hc hm
end
end
section
variable {X:Cx} {C:CC} {n:Nat} {sp:Γd→Nat→Sp} {a b d x y z:Expr} {ea eb ec:EW} {ba bb:BW} {pos p:Pos}
variable {K:Γd} {c:Cn} {md:Md} {L:a0c} {σ:L2.St} {S H:Hp}
theorem c3e {v:FV} {x:V} (r1:RH K S H v x):a2r v=some (.bl (decide (x=V.non)))∧a2a v=some (.bl (!decide (x=V.non))):=by
 rcases r1 with r1 | ⟨a,rfl,_,ps,xs,e9,_⟩
 ·cases v <;> first | (cases (show x=_ from r1); simp [a2r,a2a]; done) | (obtain ⟨a,_,rfl,_⟩:=r1; simp [a2r,a2a]; done) | (obtain ⟨a,rfl,_⟩:=r1; simp [a2r,a2a]; done)
 ·cases v <;> first | (cases e9; done) | simp [a2r,a2a]
theorem d9p {t:Bool} {v:FV} {x:V} (r1:RH K S H v x):b7u t v=some (.bl (decide (x=V.bl t)))∧a4v t v=some (.bl (!decide (x=V.bl t))):=by
 rcases r1 with r1 | ⟨a,rfl,_,ps,xs,e9,_⟩
 ·cases v <;> first | (cases (show x=_ from r1); simp [b7u,a4v]; done) | (cases (show x=_ from r1); rename_i u; cases t <;> cases u <;> exact ⟨rfl,rfl⟩) | (obtain ⟨a,_,rfl,_⟩:=r1; simp [b7u,a4v]; done) | (obtain ⟨a,rfl,_⟩:=r1; simp [b7u,a4v]; done)
 ·cases v <;> first | (cases e9; done) | simp [b7u,a4v]
theorem fb_isN {j pos'} (ha:FR X C a ea):FB X C (.Compare a [.Is] [.Constant .none j pos'] pos) (a1i (eUn a2r ea)):=PT.imp (b6n (c9t ha)) fun σ H Q ⟨c,L,S,Q0,I,h,k⟩ =>
 ⟨c,L,S,_,I,h,fun v L1 hv x S1 H1 r1 I1 s1=>by
  obtain ⟨z,e3,q⟩:=wpx hv
  rw [(c3e r1).1] at e3; cases e3
  exact ⟨_,rfl,k _ L1 q S1 H1 I1 s1⟩⟩
theorem d8v {j pos'} (ha:FR X C a ea):FB X C (.Compare a [.IsNot] [.Constant .none j pos'] pos) (a1i (eUn a2a ea)):=PT.imp (b6n (c5n ha)) fun σ H Q ⟨c,L,S,Q0,I,h,k⟩ =>
 ⟨c,L,S,_,I,h,fun v L1 hv x S1 H1 r1 I1 s1=>by
  obtain ⟨z,e3,q⟩:=wpx hv
  rw [(c3e r1).2] at e3; cases e3
  exact ⟨_,rfl,k _ L1 q S1 H1 I1 s1⟩⟩
theorem d8w {t:Bool} {j pos'} (ha:FR X C a ea):FB X C (.Compare a [.IsNot] [.Constant (.bool t) j pos'] pos) (a1i (eUn (a4v t) ea)):=PT.imp (b6n (c5o ha)) fun σ H Q ⟨c,L,S,Q0,I,h,k⟩ =>
 ⟨c,L,S,_,I,h,fun v L1 hv x S1 H1 r1 I1 s1=>by
  obtain ⟨z,e3,q⟩:=wpx hv
  rw [(d9p r1).2] at e3; cases e3
  exact ⟨_,rfl,k _ L1 q S1 H1 I1 s1⟩⟩
theorem fe_not (ha:FE X C a ea):FE X C (.UnaryOp .Not a pos) (eUn d2o ea):=PE.imp (c9p ha) fun σ H Q ⟨c,L,S,Q0,I,h,k⟩ =>
 ⟨c,L,S,_,I,h,fun v L1 hv x S1 H1 r1 I1 s1=>by
  obtain ⟨z,e,q⟩:=wpx hv
  obtain ⟨b,e1,rfl⟩:=mpd e
  cases d1w e1
  exact ⟨b,r1,k _ L1 q _ S1 H1 rfl I1 s1⟩⟩
theorem d0x (ha:FE X C a ea):FE X C (.UnaryOp .USub a pos) (eUn d2p ea):=PE.imp (d5t c8b ha) fun σ H Q ⟨c,L,S,Q0,I,h,k⟩ =>
 ⟨c,L,S,_,I,h,fun v L1 hv x S1 H1 r1 I1 s1=>by
  obtain ⟨z,e,q⟩:=wpx hv
  obtain ⟨b,e1,rfl⟩:=mpd e
  cases a1m e1
  exact ⟨b,r1,k _ L1 q _ S1 H1 rfl I1 s1⟩⟩
theorem d7m {p2 p3 p4:Pos} {j} (ha:FE X C a ea):FE X C (.Subscript a (.Slice none none (some (.UnaryOp .USub (.Constant (.int 1) j p3) p4)) p2) pos) (eUn c4a ea):=PE.imp (b6w ha (d0x (C:=C) (ea:=eC (.int 1)) d0y)) fun σ H Q ⟨c,L,S,Q0,I,h,k⟩ =>
 ⟨c,L,S,_,I,h,fun v L1 hv x S1 H1 r1 I1 s1=>by
  obtain ⟨z,e,q⟩:=wpx hv
  obtain ⟨ps,e1,rfl⟩:=mpd e
  cases a1x e1
  refine ⟨c,L1,S1,fun w L'=>w=.int (-1)∧L'=L1,I1,⟨rfl,rfl⟩,fun w L' hw y S2 H2 r2 I2 s2=>?_⟩
  obtain ⟨rfl,rfl⟩:=hw
  obtain ⟨t,xs,rfl,ht,rt⟩:=r1.mono s2
  exact ⟨r2,t,xs,rfl,SqT.of (I2.sub _ _ ht),fun p hp=>(a9i I2 fun x S' H' r I' s'=>k _ L' q x S' H' r I' (s1.trans (s2.trans s'))).tup _ _ p rfl rt.rev hp⟩⟩
theorem b5t {v:FV} {u:V} {t:Bool} (s:Same S H) (r:RH K S H v u) (e:b9n v=some t):d3w K u H t:=by
 have em:∀ {ps:List FV} {xs:List V},RVs K S ps xs→(!ps.isEmpty) = !xs.isEmpty:=fun {ps xs} h=>by cases ps <;> cases xs <;> first | rfl | (have:=h.length; simp at this)
 cases v with
 | non=>cases (show u=V.non from r.val rfl); cases e; exact rfl
 | bl c=>cases r.bl; cases e; exact rfl
 | int c=>cases r.int; cases e; exact rfl
 | str c=>cases e
 | shn c=>cases e
 | dct _ _=>cases e
 | dci _ _=>cases e
 | dcz _ _ _=>cases e
 | tup ps =>
  obtain ⟨a,xs,rfl,h1,h2⟩:=r.tup s
  cases e
  exact .inr (.inl ⟨xs,SqT.of h1,em h2⟩)
 | lst l =>
  obtain ⟨a,xs,rfl,h1,h2⟩:=r.lst s
  cases e
  exact .inl ⟨xs,SqL.of h1,em h2⟩
 | scr ns =>
  cases e
  obtain ⟨a,xs,rfl,h1,h2⟩:=r.list s (show a2e (.scr ns)=_ from rfl)
  refine .inl ⟨_,h1,?_⟩
  rw [← em h2]; cases ns <;> rfl
theorem c5m {rest:List Expr} {ta tb:TE} (ha:PE X a ta) (hb:PE X (.BoolOp .And (b :: rest) pos) tb) :
  PE X (.BoolOp .And (a :: b :: rest) pos) (fun σ H Q=>ta σ H fun x H1=>∃ c,d3w X.K x H1 c∧(if c=true then tb σ H1 Q else Q x H1)):=by
 intro pins s σ H Q I h
 refine BoolOp_and (thn (ha pins s σ H _ I h) fun v s1 ⟨x,H1,I1,r1,c,tv,q1⟩=>?_)
 refine thn (c2q pins s1 σ H1 x v (fun c' H'=>c'=c∧H'=H1) I1 r1 ⟨c,tv,rfl,rfl⟩) fun b s2 ⟨H2,I2,e1,e2⟩=>?_
 subst e1 e2
 cases b with
 | true=>exact hb pins s2 σ H2 Q I2 (by simpa using q1)
 | false=>exact ⟨x,H2,I2,r1,by simpa using q1⟩
theorem fe_one {op:BoolOp} (ha:FE X C a ea):FE X C (.BoolOp op [a] pos) ea:=c9o ha
theorem fe_and {rest:List Expr} (ha:FE X C a ea) (hb:FE X C (.BoolOp .And (b :: rest) pos) eb):FE X C (.BoolOp .And (a :: b :: rest) pos) (c3s ea eb):=PE.imp (c5m ha hb) fun σ H Q ⟨c,L,S,Q0,I,h,k⟩ =>
 ⟨c,L,S,_,I,h,fun v L1 hv x S1 H1 r1 I1 s1=>by
  obtain ⟨t,e,q⟩:=wpx hv
  refine ⟨t,b5t I1.sub (.inl r1) e,?_⟩
  cases t with
  | true=>exact ⟨c,L1,S1,Q0,I1,q,fun v L' q x S' H' r I' s'=>k v L' q x S' H' r I' (s1.trans s')⟩
  | false=>exact k v L1 q x S1 H1 r1 I1 s1⟩
theorem fe_if (hc:FB X C d ba) (ha:FE X C a ea) (hb:FE X C b eb):FE X C (.IfExp d a b pos) (eIf ba ea eb):=PE.imp (c0u hc ha hb) fun σ H Q ⟨c,L,S,Q0,I,h,k⟩ =>
 ⟨c,L,S,_,I,h,fun t L1 hv S1 H1 I1 s1=>by
  cases t with
  | true=>exact ⟨c,L1,S1,Q0,I1,hv,fun v L' q x S' H' r I' s'=>k v L' q x S' H' r I' (s1.trans s')⟩
  | false=>exact ⟨c,L1,S1,Q0,I1,hv,fun v L' q x S' H' r I' s'=>k v L' q x S' H' r I' (s1.trans s')⟩⟩
theorem fb_val (hp:c2y a=true) (ha:FR X C a ea):FB X C a (a1i ea):=PT.imp (c0p ha (a9e hp)) fun σ H Q ⟨c,L,S,Q0,I,h,k⟩ =>
 ⟨c,L,S,_,I,h,fun v L1 hv x S1 H1 r1 I1 s1=>by
  obtain ⟨t,e,q⟩:=wpx hv
  exact ⟨t,b5t I1.sub r1 e,k t L1 q S1 H1 I1 s1⟩⟩
theorem fb_not (ha:FB X C a ba):FB X C (.UnaryOp .Not a pos) (b0n ba):=PT.imp (c9f ha) fun σ H Q ⟨c,L,S,Q0,I,h,k⟩=>⟨c,L,S,_,I,h,fun t L1 hv S1 H1 I1 s1=>k _ L1 hv S1 H1 I1 s1⟩
theorem d6t (ha:FB X C a ba):FW X C (.BoolOp .And [a] pos) ba:=c4u ha
theorem fw_or1 (ha:FB X C a ba):FW X C (.BoolOp .Or [a] pos) ba:=c9d ha
theorem fw_and {rest:List Expr} (ha:FB X C a ba) (hb:FW X C (.BoolOp .And (b :: rest) pos) bb):FW X C (.BoolOp .And (a :: b :: rest) pos) (d1y ba bb):=PW.imp (c9e ha hb) fun σ H Q ⟨c,L,S,Q0,I,h,k⟩ =>
 ⟨c,L,S,_,I,h,fun t L1 hv S1 H1 I1 s1=>by
  cases t with
  | true=>exact ⟨c,L1,S1,Q0,I1,hv,fun v L' q S' H' I' s'=>k v L' q S' H' I' (s1.trans s')⟩
  | false=>exact k _ L1 hv S1 H1 I1 s1⟩
theorem fw_or {rest:List Expr} (ha:FB X C a ba) (hb:FW X C (.BoolOp .Or (b :: rest) pos) bb):FW X C (.BoolOp .Or (a :: b :: rest) pos) (bOr ba bb):=PW.imp (d5o ha hb) fun σ H Q ⟨c,L,S,Q0,I,h,k⟩ =>
 ⟨c,L,S,_,I,h,fun t L1 hv S1 H1 I1 s1=>by
  cases t with
  | false=>exact ⟨c,L1,S1,Q0,I1,hv,fun v L' q S' H' I' s'=>k v L' q S' H' I' (s1.trans s')⟩
  | true=>exact k _ L1 hv S1 H1 I1 s1⟩
theorem fb_w (h:FW X C a ba):FB X C a ba:=PW.pt h
theorem fa_nil:FA X C [] a0h:=PA.imp a1y fun σ H Q ⟨c,L,S,Q0,I,h,k⟩=>k [] L h [] S H rfl I (Same.refl S)
theorem d8x {xs:List Expr} {as:AW} (hs:a0k a=false) (ha:FE X C a ea) (hr:FA X C xs as):FA X C (a :: xs) (a0a ea as):=PA.imp (a0o ha hr (a0d hs)) fun σ H Q ⟨c,L,S,Q0,I,h,k⟩ =>
 ⟨c,L,S,_,I,h,fun v L1 hv x S1 H1 r1 I1 s1=>⟨c,L1,S1,_,I1,hv,fun vs L2 hvs us S2 H2 r2 I2 s2=>k _ L2 hvs _ S2 H2 ⟨x,us,rfl,r1.mono s2,r2⟩ I2 (s1.trans s2)⟩⟩
theorem fe_tup {xs:List Expr} {as:AW} {m:Nat} (h:FA X C xs as):FE X C (.Tuple xs m pos) (a3f as):=PE.imp (c9m h) fun σ H Q ⟨c,L,S,Q0,I,h,k⟩ =>
 ⟨c,L,S,_,I,h,fun vs L1 hv us S1 H1 r1 I1 s1=>⟨by have:=a1p; rw [← r1.length]; exact Nat.le_trans hv.1 this,fun p hp=>(a9i I1 fun x S' H' r I' s'=>k _ L1 hv.2 x S' H' r I' (s1.trans s')).tup _ _ p rfl r1 hp⟩⟩
theorem fe_lst {xs:List Expr} {as:AW} (h:FA X C xs as):FE X C (.List xs pos) (a5a as):=PE.imp (c3a h) fun σ H Q ⟨c,L,S,Q0,I,h,k⟩ =>
 ⟨c,L,S,_,I,h,fun vs L1 hv us S1 H1 r1 I1 s1=>⟨by have:=a1p; rw [← r1.length]; exact Nat.le_trans hv.1 this,fun p hp=>(a9i I1 fun x S' H' r I' s'=>k _ L1 hv.2 x S' H' r I' (s1.trans s')).lst _ _ p rfl r1 hp⟩⟩
theorem ff_lst {xs:List Expr} {as:AW} (h:FA X C xs as):FF X C (.List xs pos) (a5a as):=PE.imp (c3a h) fun σ H Q ⟨c,L,S,Q0,I,h,k⟩ =>
 ⟨c,L,S,_,I,h,fun vs L1 hv us S1 H1 r1 I1 s1=>⟨by have:=a1p; rw [← r1.length]; exact Nat.le_trans hv.1 this,fun p hp=>(d6h I1 ⟨vs,rfl⟩ fun a S' H' o fr I' s'=>k _ L1 hv.2 a S' H' o fr I' (s1.trans s')).lst _ _ p rfl r1 hp⟩⟩
theorem fe_ix (hs:a4r b=false) (ha:FE X C a ea) (hb:FR X C b eb):FE X C (.Subscript a b pos) (eOp ixF ea eb):=PE.imp (c9r q_ix ha hb (b2n hs)) fun σ H Q ⟨c,L,S,Q0,I,h,k⟩ =>
 go2 ⟨c,L,S,fun x y L2=>wp (ixF x y) fun z=>Q0 z L2,I,h,fun v w L' S' H' x y q r1 r2 I' s'=>by
  obtain ⟨z,e,q⟩:=wpx q
  exact ⟨S',v,w,z,I'.sub,.inl r1,r2,e,fun u r=>k z L' q u S' H' r I' s'⟩⟩
theorem fe_ixN (G:Good X C n sp) {i:Nat} {nx:Str} (hs:a4r b=false) (h:C.nm i nx=true) (hb:FR X C b eb):FE X C (.Subscript (.Name nx p) b pos) (c1z ixF i eb):=PE.imp (c9r q_ix (a4n G h) hb (b2n hs)) fun σ H Q ⟨c,L,S,Q0,I,h,k⟩ =>
 go2N ⟨c,L,S,fun x y L2=>wp (ixF x y) fun z=>Q0 z L2,I,h,fun v w L' S' H' x y q r1 r2 I' s'=>by
  obtain ⟨z,e,q⟩:=wpx q
  exact ⟨S',v,w,z,I'.sub,r1,r2,e,fun u r=>k z L' q u S' H' r I' s'⟩⟩
theorem d7e:FO X C none a4p:=PO.imp c5f fun σ H Q ⟨c,L,S,Q0,I,h,k⟩=>k none L h S H I (Same.refl S)
theorem d7d (h:FE X C a ea):FO X C (some a) (a3e ea):=PO.imp (c5e h) fun σ H Q ⟨c,L,S,Q0,I,h,k⟩ =>
 ⟨c,L,S,_,I,h,fun v L1 hv x S1 H1 r1 I1 s1=>by
  obtain ⟨i,e,q⟩:=wpx hv
  cases a1m e
  exact ⟨i,r1,k _ L1 q S1 H1 I1 s1⟩⟩
variable {xl xh:Option Expr} {wl wh:OW} {p2:Pos}
theorem fe_sl (ha:FE X C a ea) (hl:FO X C xl wl) (hh:FO X C xh wh):FE X C (.Subscript a (.Slice xl xh none p2) pos) (eSl ea wl wh):=PE.imp (c0t q_sl ha hl hh) fun σ H Q ⟨c,L,S,Q0,I,h,k⟩ =>
 ⟨c,L,S,_,I,h,fun v L1 hv x S1 H1 r1 I1 s1=>⟨c,L1,S1,_,I1,hv,fun o1 L2 h1 S2 H2 I2 s2=>⟨c,L2,S2,_,I2,h1,fun o2 L3 h2 S3 H3 I3 s3=>by
  obtain ⟨z,e,q⟩:=wpx h2
  exact ⟨S3,v,z,I3.sub,.inl (r1.mono (s2.trans s3)),e,a9i I3 fun x S' H' r I' s'=>k z L3 q x S' H' r I' (s1.trans (s2.trans (s3.trans s')))⟩⟩⟩⟩
end
section
variable {X:Cx} {C:CC} {n:Nat} {sp:Γd→Nat→Sp} {a b d x y z:Expr} {ea eb ec:EW} {ba bb:BW} {pos p:Pos}
variable {K:Γd} {c:Cn} {md:Md} {L:a0c} {σ:L2.St} {S H:Hp} {i:Nat} {nx:Str}
variable {xl xh:Option Expr} {wl wh:OW} {p2:Pos}
noncomputable def sliceL (k:Nat) (l h:OW):EW:=fun L Q=>eSlN k l h L fun z L'=>isL z=true∧(∃ ps,z=.lst ps)∧Q z L'
theorem d1n {f:FV→Option FV} {Q:VK} (hh:lv K md (eUn f ea) σ H Q):tCB (Rc K f) (c0a (lr K md ea) tNil) σ H Q:=by
 obtain ⟨c,L,S,Q0,I,h,k⟩:=hh
 refine ⟨c,L,S,_,I,h,fun v L1 hv x S1 H1 r1 I1 s1=>?_⟩
 obtain ⟨z,e,q⟩:=wpx hv
 exact ⟨S1,v,x,z,rfl,I1.sub,r1,e,a9i I1 fun x S' H' r I' s'=>k z L1 q x S' H' r I' (s1.trans s')⟩
theorem b1k {id nm:String} {f:FV→Option FV} (hc:a1l X.nox (.builtin id) (Rc X.K f)) (G:Good X C n sp) (hb:nm∈bltNames) (hv:bootBuiltins (Γe nm)=some (.builtin id)) (h1:Γe nm≠"__name__") (h2:(Γe nm == ("__debug__":Str))=false) (hg:C.gl (Γe nm)=true) (hs:a0k a=false) (ha:FR X C a ea) :
  FE X C (.Call (.Name (Γe nm) p) [a] [] pos) (eUn f ea):=PE.imp (a5e hc (G.gl hg) (G.blt nm hb) hv (a0o ha a1y (a0d hs)) h1 h2 (a0d hs) rfl) fun σ H Q h=>d1n h
theorem c1u {T nm:String} {f:FV→Option FV} (hc:a1l X.nox (.type T) (Rc X.K f)) (G:Good X C n sp) (hb:nm∈bltNames) (hv:bootBuiltins (Γe nm)=some (.type T)) (h1:Γe nm≠"__name__") (h2:(Γe nm == ("__debug__":Str))=false) (hg:C.gl (Γe nm)=true) (hs:a0k a=false) (ha:FR X C a ea) :
  FE X C (.Call (.Name (Γe nm) p) [a] [] pos) (eUn f ea):=PE.imp (a9f hc (G.gl hg) (G.blt nm hb) hv (a0o ha a1y (a0d hs)) h1 h2 (a0d hs) rfl) fun σ H Q h=>d1n h
theorem fe_len (G:Good X C n sp) (hg:C.gl (Γe "len")=true) (hs:a0k a=false) (ha:FR X C a ea):FE X C (.Call (.Name (Γe "len") p) [a] [] pos) (eUn a6z ea):=b1k d9l G (by decide) (by nofun) (by nofun) (by nofun) hg hs ha
theorem fe_abs (G:Good X C n sp) (hg:C.gl (Γe "abs")=true) (hs:a0k a=false) (ha:FR X C a ea):FE X C (.Call (.Name (Γe "abs") p) [a] [] pos) (eUn d2c ea):=b1k d9o G (by decide) (by nofun) (by nofun) (by nofun) hg hs ha
theorem fe_all (G:Good X C n sp) (hg:C.gl (Γe "all")=true) (hs:a0k a=false) (ha:FR X C a ea):FE X C (.Call (.Name (Γe "all") p) [a] [] pos) (eUn c7r ea):=b1k (d9n G.calm) G (by decide) (by nofun) (by nofun) (by nofun) hg hs ha
theorem d7q (G:Good X C n sp) (hg:C.gl (Γe "min")=true) (hs:a0k a=false) (ha:FR X C a ea):FE X C (.Call (.Name (Γe "min") p) [a] [] pos) (eUn b7g ea):=b1k (d1r G.calm) G (by decide) (by nofun) (by nofun) (by nofun) hg hs ha
theorem d3a (G:Good X C n sp) (hg:C.gl (Γe "int")=true) (hs:a0k a=false) (ha:FR X C a ea):FE X C (.Call (.Name (Γe "int") p) [a] [] pos) (eUn b2a ea):=c1u d9m G (by decide) (by nofun) (by nofun) (by nofun) hg hs ha
theorem d2y (G:Good X C n sp) (hg:C.gl (Γe "tuple")=true) (hs:a0k a=false) (ha:FR X C a ea):FE X C (.Call (.Name (Γe "tuple") p) [a] [] pos) (eUn a2m ea):=c1u c7g G (by decide) (by nofun) (by nofun) (by nofun) hg hs ha
theorem d7t (G:Good X C n sp) (hg:C.gl (Γe "list")=true) (hs:a0k a=false) (ha:FR X C a ea):FE X C (.Call (.Name (Γe "list") p) [a] [] pos) (eUn a4q ea):=c1u d1u G (by decide) (by nofun) (by nofun) (by nofun) hg hs ha
theorem d2z (G:Good X C n sp) (hg:C.gl (Γe "str")=true) (hs:a0k a=false) (ha:FR X C a ea):FE X C (.Call (.Name (Γe "str") p) [a] [] pos) (eUn c4i ea):=c1u (d9j G.room.units G.room.gd) G (by decide) (by nofun) (by nofun) (by nofun) hg hs ha
theorem d7y {id nm:String} {f:FV→FV→Option FV} (hc:a1l X.nox (.builtin id) (Rc2 X.K f)) (G:Good X C n sp) (hb:nm∈bltNames) (hv:bootBuiltins (Γe nm)=some (.builtin id)) (h1:Γe nm≠"__name__") (h2:(Γe nm == ("__debug__":Str))=false) (hg:C.gl (Γe nm)=true) (hs:a0k a=false) (hs2:a0k b=false) (ha:FE X C a ea) (hb':FR X C b eb) :
  FE X C (.Call (.Name (Γe nm) p) [a,b] [] pos) (eOp f ea eb):=PE.imp (a5e hc (G.gl hg) (G.blt nm hb) hv (a0o ha (a0o hb' a1y (a0d hs2)) (a0d hs)) h1 h2 (a0d hs) (by rw [a0d hs2]; rfl)) fun σ H Q ⟨c,L,S,Q0,I,h,k⟩ =>
 ⟨c,L,S,_,I,h,fun v L1 hv x S1 H1 r1 I1 s1=>⟨c,L1,S1,_,I1,hv,fun w L2 hw y S2 H2 r2 I2 s2=>by
  obtain ⟨z,e,q⟩:=wpx hw
  exact ⟨S2,v,w,x,y,z,rfl,I2.sub,.inl (r1.mono s2),r2,e,a9i I2 fun x S' H' r I' s'=>k z L2 q x S' H' r I' (s1.trans (s2.trans s'))⟩⟩⟩
theorem d7s (G:Good X C n sp) (hg:C.gl (Γe "min")=true) (hs:a0k a=false) (hs2:a0k b=false) (ha:FE X C a ea) (hb':FR X C b eb):FE X C (.Call (.Name (Γe "min") p) [a,b] [] pos) (eOp c1d ea eb):=d7y (d1t G.calm) G (by decide) (by nofun) (by nofun) (by nofun) hg hs hs2 ha hb'
noncomputable def b1z:Ty→String | .int=>"int" | .bool=>"bool" | .str=>"str" | .list=>"list" | .tuple=>"tuple"
theorem b9w {v:FV} {u:V} {t:Ty} {r:Bool} (s:Same S H) (rv:RH K S H v u) (e:a5t v t=some r):∃ T,TyOf K H u (.type T)∧PySem.W.kitOne K (.type T) (.type (b1z t))=some r:=by
 cases v with
 | non=>cases (show u=V.non from rv.val rfl); exact ⟨_,.non,by cases e; cases t <;> rfl⟩
 | bl c=>cases rv.bl; exact ⟨_,.bl _,by cases e; cases t <;> rfl⟩
 | int c=>cases rv.int; exact ⟨_,.int _,by cases e; cases t <;> rfl⟩
 | str c=>cases (show u=V.str _ from rv.val rfl); exact ⟨_,.str _,by cases e; cases t <;> rfl⟩
 | tup ps =>
  obtain ⟨a,xs,rfl,h1,h2⟩:=rv.tup s
  exact ⟨_,.tup h1,by cases e; cases t <;> rfl⟩
 | lst l =>
  obtain ⟨a,xs,rfl,h1,h2⟩:=rv.lst s
  exact ⟨_,.lst h1,by cases e; cases t <;> rfl⟩
 | scr ns=>cases e
 | dct _ _=>cases e
 | dci _ _=>cases e
 | dcz _ _ _=>cases e
 | shn d=>cases (show u=V.str _ from rv.val rfl); exact ⟨_,.str _,by cases e; cases t <;> rfl⟩
theorem fe_isi {t:Ty} {tn:Str} (G:Good X C n sp) (hg:C.gl (Γe "isinstance")=true) (ht:tn=Γe (b1z t)) (hg2:C.gl tn=true) (hs:a0k a=false) (ha:FR X C a ea) :
  FE X C (.Call (.Name (Γe "isinstance") p) [a,.Name tn p2] [] pos) (eUn (b5c t) ea):=by
 subst ht
 have cc:a1l X.nox (.builtin "isinstance") (fun xs H Q=>∃ v c b T,xs=[v,.ty c]∧TyOf X.K H v (.type T)∧PySem.W.kitOne X.K (.type T) (.type c)=some b∧Q (.bl b) H):=by
  rintro pins s σ H xs us Q I r ⟨v,c,b,T,rfl,h1,h2,q⟩
  obtain ⟨u,u',rfl,ru,ru'⟩:=b9v r
  obtain rfl:u'=.type c:=ru'
  exact b7s I ru h1 h2 fun tk=>⟨.bl b,H,I.tok _,rfl,q⟩
 have tt:PE X.nox (.Name (Γe (b1z t)) p2) (tC (.ty (b1z t))):=by
  cases t <;> exact c5l (G.gl hg2) (G.blt _ (by decide)) (by nofun) rfl (by nofun) (by nofun)
 refine PE.imp (a5e cc (G.gl hg) (G.blt "isinstance" (by decide)) (by nofun) (a0o ha (a0o tt a1y rfl) (a0d hs)) (by nofun) (by nofun) (a0d hs) rfl) fun σ H Q ⟨c,L,S,Q0,I,h,k⟩ =>
  ⟨c,L,S,_,I,h,fun v L1 hv x S1 H1 r1 I1 s1=>?_⟩
 obtain ⟨z,e,q⟩:=wpx hv
 obtain ⟨r,e1,rfl⟩:=mpd e
 obtain ⟨T,t1,t2⟩:=b9w I1.sub r1 e1
 exact ⟨x,_,_,T,rfl,t1,t2,k _ L1 q _ S1 H1 rfl I1 s1⟩
noncomputable def bmOk (apos cpos:Pos):Bool:=apos.endLine == cpos.line
theorem fe_app (G:Good X C n sp) {apos cpos:Pos} (h:C.nm i nx=true) (m:a0q C.md i=.own) (hl:bmOk apos cpos=true) (hs:a0k a=false) (ha:FE X C a ea):FE X C (.Call (.Attribute (.Name nx p) (Γe "append") apos) [a] [] cpos) (b8h d2b i ea):=by
 refine PE.imp (d5v PySem.F.plainAttrs_list PySem.F.slot_list_append PySem.F.type_list_append a9l (a4n G h) (a0o ha a1y (a0d hs)) rfl (by rw [a0d hs]; rfl) hl (a0d hs) rfl) fun σ H Q ⟨c,L,S,Q0,I,h,k⟩=>?_
 obtain ⟨v,e,h⟩:=wpx h
 obtain ⟨v9,e9,h⟩:=wpx h
 cases a7z e9
 have e':=(a4c _ _ _).mp e
 have mi:a0q C.md i≠.imm:=fun z=>by rw [m] at z; cases z
 obtain ⟨l,e1,⟨_,ps,xs,e8,h1,_⟩,_⟩:=I.own i _ mi e'
 refine ⟨_,e1,.inl ⟨rfl,xs,SqL.of h1⟩,c,L,S,_,I,h,fun w L1 hw y S1 H1 r1 I1 s1=>?_⟩
 obtain ⟨v1,e2,hw⟩:=wpx hw
 obtain ⟨z,e3,q⟩:=wpx hw
 have e2':=(a4c _ _ _).mp e2
 obtain ⟨qs,e4,e5⟩:=bnd e3
 cases a7z e4
 obtain ⟨hb,rfl⟩:=itd e5
 obtain ⟨l',f1,⟨f2,rs,zs,f3,f4,f5⟩,_⟩:=I1.own i _ mi e2'
 rw [e1] at f1; cases f1
 cases f3
 have:=a1p
 exact ⟨l,zs,y,rfl,rfl,f4,by rw [← f5.length]; lia,k _ _ q .non S1 _ rfl (I1.write m e2' e1 (f5.append (RVs.one r1))) s1⟩
end
noncomputable def ArgsOk (K:Γd) (S H:Hp) (args:List FV) (vs:List V):Bool→Prop
 | false=>RVs K S args vs
 | true=>∃ v r a us,args=v :: r∧vs=.ref a :: us∧a3n K S H a v∧RVs K S r us
noncomputable def c7u (K:Γd) (S' H' H:Hp) (v:FV) (x:V):Bool→Prop
 | false=>RV K S' v x
 | true=>∃ a,x=.ref a∧a3n K S' H' a v∧H a=none
noncomputable def b2z (vs:List V):Bool→Option Addr
 | false=>none
 | true=>match vs with
  | .ref a :: _=>some a
  | _=>none
structure Kept (K:Γd) (S H S' H':Hp) (P:Option Addr) (w:FV):Prop where
 same:Same S S'
 sub:Same S' H'
 grow:∀ a o,S' a=some o→S a=some o ∨ H a=none ∨ a8g o=true
 keep:∀ a o,H a=some o→P≠some a→H' a=some o
 back:∀ a,P=some a→a3n K S' H' a w
noncomputable def spQ (K:Γd) (call:CW) (io fr:Bool) (f:Nat):Sp:=fun vs H Q E=>∃ S args Q0,Same S H∧ArgsOk K S H args vs io∧call f args Q0∧∀ z,Q0 z→∀ x S' H',Kept K S H S' H' (b2z vs io) z.2→c7u K S' H' H z.1 x fr→Q x H'
section
variable {X:Cx} {C:CC} {n:Nat} {sp:Γd→Nat→Sp} {a b d x y z:Expr} {ea eb ec:EW} {pos p:Pos} {call:CW}
variable {K:Γd} {c:Cn} {md:Md} {L:a0c} {σ:L2.St} {S H S' H':Hp} {i f:Nat} {nx:Str} {xs:List Expr} {as:AW}
noncomputable def a2j (xs:List Expr):Bool:=xs.all fun x=>!a0k x
theorem b2h:∀ {xs:List Expr} {env:Env},a2j xs=true→(backTo pos (starEach xs env)).any (·.1)=false
 | [],_,_=>rfl
 | x :: xs,env,h=>by
  have h:=b2 (show (!a0k x && a2j xs)=true from h)
  rw [a0d (nb h.1)]
  show (false || (backTo pos (starEach xs env)).any (·.1))=false
  rw [b2h h.2]; rfl
theorem Kept.iv (I:Iv K c md L σ S H) {w:FV} (k:Kept K S H S' H' none w):Iv K c md L σ S' H':=I.go3 k.same k.sub k.grow fun a o e=>k.keep a o e (by simp)
theorem a8r (G:Good X C n sp) {t:TA} (hf:C.fns[f]?=some nx) (hg:C.gl nx=true) (hd:(nx == ("__debug__":Str))=false) (hs:a2j (a :: xs)=true) (ha:PA X.nox (a :: xs) t):PE X.nox (.Call (.Name nx p) (a :: xs) [] pos) (fun σ H Q=>t σ H fun vs H1=>sp X.K f vs H1 Q E0):=by
 obtain ⟨fa,fd,ps,h1,h2,h3,h4⟩:=G.fns f nx hf
 have h:=b2 (show (!a0k a && a2j xs)=true from hs)
 refine PE.imp (c5k (X:=X.nox) h4 G.room (G.gl hg) h1 h2 h3 .nil d5x ha hd (a0d (nb h.1)) (b2h h.2)) fun σ H Q q=>?_
 show t σ H fun vs H1=>sp X.K f (vs++[]) H1 Q E0
 have e:(fun vs H1=>sp X.K f (vs++[]) H1 Q E0)=fun vs H1=>sp X.K f vs H1 Q E0:=by funext vs H1; rw [List.append_nil]
 rw [e]; exact q
theorem d7x (G:Good X C n sp) (e:sp X.K f=spQ X.K call false false f) (hf:C.fns[f]?=some nx) (hg:C.gl nx=true) (hd:(nx == ("__debug__":Str))=false) (hs:a2j (a :: xs)=true) (ha:FA X C (a :: xs) as):FE X C (.Call (.Name nx p) (a :: xs) [] pos) (a0v call f as) :=
 PE.imp (a8r G hf hg hd hs ha) fun σ H Q ⟨c,L,S,Q0,I,h,k⟩=>⟨c,L,S,_,I,h,fun vs L1 hv us S1 H1 r1 I1 s1=>by
  rw [e]
  exact ⟨S1,vs,_,I1.sub,r1,hv,fun z q x S' H' kp r=>k _ L1 q x S' H' r (kp.iv I1) (s1.trans kp.same)⟩⟩
theorem d7l (G:Good X C n sp) (e:sp X.K f=spQ X.K call false true f) (hf:C.fns[f]?=some nx) (hg:C.gl nx=true) (hd:(nx == ("__debug__":Str))=false) (hs:a2j (a :: xs)=true) (ha:FA X C (a :: xs) as):FF X C (.Call (.Name nx p) (a :: xs) [] pos) (a0v call f as) :=
 PE.imp (a8r G hf hg hd hs ha) fun σ H Q ⟨c,L,S,Q0,I,h,k⟩=>⟨c,L,S,_,I,h,fun vs L1 hv us S1 H1 r1 I1 s1=>by
  rw [e]
  refine ⟨S1,vs,_,I1.sub,r1,hv,fun z q x S' H' kp r=>?_⟩
  obtain ⟨a,rfl,o,hn⟩:=r
  exact k _ L1 q a S' H' o (I1.fresh hn) (kp.iv I1) (s1.trans kp.same)⟩
theorem b7d {v:FV} {q:Addr} (I:Iv K c md L σ S H) (o:a3n K S H q v) (fr:a8t c md L σ q):∃ u,H q=some u∧Iv K c md L σ (upd S q u) H∧RV K (upd S q u) v (.ref q):=by
 obtain ⟨h1,ps,us,e0,h2,h3⟩:=o
 have s:=a0p (o:=d2k v us) h1
 refine ⟨_,h2,⟨I.len,fun i v h e=>let ⟨x,e1,r⟩:=I.imm i v h e; ⟨x,e1,r.mono s⟩,fun i v h e=>?_,I.dis,fun a u e=>?_,I.frame,I.s0.trans s,fun a u e=>?_,I.lent,I.fzs,I.fzm,I.fzp,fun p hp=>let ⟨g1,g2,g3⟩:=I.prs p hp; ⟨g1,by rw [a0e (fr.2.1 p hp)]; exact g2,g3⟩,I.ntp⟩,?_⟩
 ·obtain ⟨b,e1,⟨g1,rs,zs,g2,g3,g4⟩,g5⟩:=I.own i v h e
  have hb:b≠q:=fun z=>by subst z; exact fr.2.2 i v h e e1
  exact ⟨b,e1,⟨by rw [a0e hb]; exact g1,rs,zs,g2,g3,g4.mono s⟩,g5⟩
 ·by_cases z:a=q
  ·subst z; rw [a0f] at e; cases e; exact h2
  ·rw [a0e z] at e; exact I.sub a u e
 ·by_cases z:a=q
  ·subst z; exact .inr (.inl fr.1)
  ·rw [a0e z] at e; exact I.grow a u e
 ·cases v with
  | lst qs=>cases e0; exact ⟨q,us,rfl,a0f,h3.mono s⟩
  | dct ks vs=>obtain ⟨hl,rfl⟩:=itd e0; exact ⟨q,us,rfl,hl,a0f,h3.mono s⟩
  | dci ks vs=>obtain ⟨hl,rfl⟩:=itd e0; exact ⟨q,us,rfl,hl,a0f,h3.mono s⟩
  | dcz o ks vs=>obtain ⟨hl,rfl⟩:=itd e0; exact ⟨q,us,rfl,hl,a0f,h3.mono s⟩
  | _=>cases e0
theorem a2y (h:FF X C a ea):FE X C a ea:=PE.imp h fun σ H Q ⟨c,L,S,Q0,I,h,k⟩=>⟨c,L,S,Q0,I,h,fun v L' q a S' H' o fr I' s'=>by
 obtain ⟨u,hu,I2,r⟩:=b7d I' o fr
 exact k v L' q _ _ H' r I2 (s'.trans (a0p o.1))⟩
theorem b7b (G:Good X C n sp) {t:TA} (h:C.nm i nx=true) (hr:PA X.nox xs t):PA X.nox (.Name nx p :: xs) (c0a (c7x i) t):=a0o (a4n G h) hr rfl
theorem b3r {Q:VK} {fr:Bool} {Q1:FV→a0c→Prop} (I:Iv K c md L σ S H) (m:a0q md i=.own) (h:a0i call f i as L Q1)
  (k:∀ v L' x H1 S' H',Q1 v L'→c7u K S' H' H1 v x fr→Iv K c md L' σ S' H'→Same S S'→(∀ a,H1 a=none→a8t c md L' σ a)→Q x H'):c0a (c7x i) (la K md as) σ H fun vs H1=>spQ K call true fr f vs H1 Q E0:=by
 obtain ⟨v0,e,h⟩:=wpx h
 have mi:a0q md i≠.imm:=fun z=>by rw [m] at z; cases z
 obtain ⟨l,e1,_⟩:=I.own i v0 mi ((a4c _ _ _).mp e)
 refine ⟨_,e1,c,L,S,_,I,h,fun vs L1 hv us S1 H1 r1 I1 s1=>?_⟩
 obtain ⟨v1,e2,q⟩:=wpx hv
 have e2:=(a4c _ _ _).mp e2
 obtain ⟨l',f1,o,_⟩:=I1.own i v1 mi e2
 rw [e1] at f1; cases f1
 refine ⟨S1,v1 :: vs,_,I1.sub,⟨v1,vs,l,us,rfl,rfl,o,r1⟩,q,fun z q x S' H' kp r=>?_⟩
 have I2:=I1.back3 m e2 e1 kp.same kp.sub kp.grow (fun b o e n=>kp.keep b o e fun z=>n (by cases z; rfl)) (kp.back l rfl)
 refine k _ _ x H1 S' H' q r I2 (s1.trans kp.same) fun a ha=>⟨I1.h0 ha,(I1.fresh ha).2.1,fun j w mj ej z=>?_⟩
 obtain ⟨_,_,g2⟩:=I1.fresh ha
 by_cases hj:j=i
 ·subst hj; exact g2 j v1 mj e2 z
 ·rw [List.getElem?_set_ne (Ne.symm hj)] at ej; exact g2 j w mj ej z
theorem d3c (G:Good X C n sp) {np:Str} {pp:Pos} (e:sp X.K f=spQ X.K call true false f) (hf:C.fns[f]?=some np) (hg:C.gl np=true) (hd:(np == ("__debug__":Str))=false) (h:C.nm i nx=true) (m:a0q C.md i=.own) (hs:a2j xs=true) (ha:FA X C xs as):FE X C (.Call (.Name np pp) (.Name nx p :: xs) [] pos) (a0i call f i as) :=
 PE.imp (a8r G hf hg hd (show (true && a2j xs)=true by rw [hs]; rfl) (b7b G h ha)) fun σ H Q ⟨c,L,S,Q0,I,h,k⟩=>by
  rw [e]
  exact b3r I m h fun v L' x H1 S' H' q r I' s' _=>k v L' q x S' H' r I' s'
theorem d2x (G:Good X C n sp) {np:Str} {pp:Pos} (e:sp X.K f=spQ X.K call true true f) (hf:C.fns[f]?=some np) (hg:C.gl np=true) (hd:(np == ("__debug__":Str))=false) (h:C.nm i nx=true) (m:a0q C.md i=.own) (hs:a2j xs=true) (ha:FA X C xs as):FF X C (.Call (.Name np pp) (.Name nx p :: xs) [] pos) (a0i call f i as) :=
 PE.imp (a8r G hf hg hd (show (true && a2j xs)=true by rw [hs]; rfl) (b7b G h ha)) fun σ H Q ⟨c,L,S,Q0,I,h,k⟩=>by
  rw [e]
  refine b3r I m h fun v L' x H1 S' H' q r I' s' fr=>?_
  obtain ⟨a,rfl,o,hn⟩:=r
  exact k v L' q a S' H' o (fr a hn) I' s'
end
section
variable {K:Γd} {c:Cn} {md:Md} {L:a0c} {σ:L2.St} {S H:Hp} {i:Nat} {v:FV} {x:V} {a:Addr}
theorem Iv.setI (I:Iv K c md L σ S H) (m:a0q md i=.imm) (r:RV K S v x):Iv K c md (L.set i (some v)) (σ.set i (some x)) S H :=
 I.set (fun a h z=>by subst z; exact (I.lent a h).1 m) (fun z=>by rw [m] at z; cases z) (.inl ⟨m,r⟩)
theorem Iv.prot (I:Iv K c md L σ S H) {o:HO} (h:H a=some o) (hs:S a=none) (ho:∀ i v,a0q md i=.own→L[i]?=some (some v)→σ[i]?≠some (some (.ref a))) (nt:a8g o=false:=by first | rfl | exact a5n _ _):Iv K { c with pr:=(a,o) :: c.pr } md L σ S H :=
 ⟨I.len,I.imm,I.own,I.dis,I.sub,I.frame,I.s0,I.grow,I.lent,I.fzs,I.fzm,fun p hp=>let ⟨xs,h⟩:=I.fzp p hp; ⟨xs,List.mem_cons_of_mem _ h⟩,fun p hp=>(List.mem_cons.mp hp).elim (fun e=>e ▸ ⟨h,hs,ho⟩) (I.prs p),fun p hp=>(List.mem_cons.mp hp).elim (fun e=>e ▸ nt) (I.ntp p)⟩
theorem b2s:∀ {md:Md} {i j:Nat} {m:Mo},i < md.length→a0q (md.set i m) j=if j=i then m else a0q md j
 | [],i,j,m,h=>absurd h (Nat.not_lt_zero _)
 | a :: md,0,0,m,h=>rfl
 | a :: md,0,j + 1,m,h=>by simp [a0q]
 | a :: md,i + 1,0,m,h=>by simp [a0q]
 | a :: md,i + 1,j + 1,m,h=>by
  have:=b2s (md:=md) (i:=i) (j:=j) (m:=m) (by simpa using h)
  simpa [a0q] using this
theorem c3g:∀ {md:Md} {i:Nat},a0q md i=.own→i < md.length
 | [],i,h=>by simp [a0q] at h
 | a :: md,0,h=>by simp
 | a :: md,i + 1,h=>by simpa using c3g (md:=md) (i:=i) h
theorem Iv.frz (I:Iv K c md L σ S H) {ob:HO} (m:a0q md i=.own) (e:L[i]?=some (some v)) (e1:σ[i]?=some (some (.ref a))) (h:H a=some ob) :
  Iv K { c with fz:=(i,a) :: c.fz,pr:=(a,ob) :: c.pr } (md.set i .frz) L σ S H∧∀ L σ S H,Iv K { c with fz:=(i,a) :: c.fz,pr:=(a,ob) :: c.pr } (md.set i .frz) L σ S H→Iv K c md L σ S H:=by
 have hl:=c3g m
 have mi:a0q md i≠.imm:=fun z=>by rw [m] at z; cases z
 have M:∀ j,a0q (md.set i .frz) j=if j=i then .frz else a0q md j:=fun j=>b2s hl
 have im:∀ {j},a0q (md.set i .frz) j=.imm↔a0q md j=.imm:=fun {j}=>by
  rw [M]
  by_cases q:j=i
  ·subst q; rw [if_pos rfl,m]; simp
  ·rw [if_neg q]
 have nfz:∀ p∈c.fz,p.1≠i:=fun p hp z=>by have:=(I.fzs p hp).1; rw [z,m] at this; cases this
 have npr:∀ p∈c.pr,p.1≠a:=fun p hp z=>(I.prs p hp).2.2 i v m e (by rw [z]; exact e1)
 obtain ⟨a',f1,o,_⟩:=I.own i v mi e
 rw [e1] at f1; cases f1
 have nt:a8g ob=false:=by
  obtain ⟨_,_,_,_,h5,_⟩:=o
  rw [h] at h5; rw [Option.some.inj h5,a5n]
 constructor
 ·refine ⟨I.len,fun j w h=>I.imm j w (im.mp h),fun j w h=>I.own j w (fun z=>h (im.mpr z)),fun j k w u b h1 h2=>I.dis j k w u b (fun z=>h1 (im.mpr z)) (fun z=>h2 (im.mpr z)),I.sub,I.frame,I.s0,I.grow,fun b hb=>let ⟨g1,g2⟩:=I.lent b hb; ⟨fun z=>g1 (im.mp z),g2⟩,fun p hp=>?_,fun j w hm hj=>?_,fun p hp=>?_,fun p hp=>?_,fun p hp=>(List.mem_cons.mp hp).elim (fun z=>by rw [z]; exact nt) (I.ntp p)⟩
  ·rcases List.mem_cons.mp hp with rfl | hp
   ·exact ⟨by rw [M,if_pos rfl],e1,v,e⟩
   ·obtain ⟨g1,g2⟩:=I.fzs p hp
    exact ⟨by rw [M,if_neg (nfz p hp)]; exact g1,g2⟩
  ·by_cases q:j=i
   ·subst q; exact ⟨a,List.mem_cons_self⟩
   ·rw [M,if_neg q] at hm
    obtain ⟨b,g1⟩:=I.fzm j w hm hj
    exact ⟨b,List.mem_cons_of_mem _ g1⟩
  ·rcases List.mem_cons.mp hp with rfl | hp
   ·exact ⟨_,List.mem_cons_self⟩
   ·obtain ⟨ys,g⟩:=I.fzp p hp
    exact ⟨ys,List.mem_cons_of_mem _ g⟩
  ·have own':∀ {j},a0q (md.set i .frz) j=.own→j≠i∧a0q md j=.own:=fun {j} z=>by
    by_cases q:j=i
    ·subst q; rw [M,if_pos rfl] at z; cases z
    ·rw [M,if_neg q] at z; exact ⟨q,z⟩
   rcases List.mem_cons.mp hp with rfl | hp
   ·exact ⟨h,o.1,fun j w hm hj hz=>(own' hm).1 (I.dis j i w v a (fun z=>by rw [(own' hm).2] at z; cases z) mi hj e hz e1)⟩
   ·obtain ⟨g1,g2,g3⟩:=I.prs p hp
    exact ⟨g1,g2,fun j w hm=>g3 j w (own' hm).2⟩
 ·intro L σ S H J
  obtain ⟨_,j1,_⟩:=J.fzs (i,a) List.mem_cons_self
  refine ⟨J.len,fun j w h=>J.imm j w (im.mpr h),fun j w h=>J.own j w (fun z=>h (im.mp z)),fun j k w u b h1 h2=>J.dis j k w u b (fun z=>h1 (im.mp z)) (fun z=>h2 (im.mp z)),J.sub,J.frame,J.s0,J.grow,fun b hb=>let ⟨g1,g2⟩:=J.lent b hb; ⟨fun z=>g1 (im.mpr z),g2⟩,fun p hp=>?_,fun j w hm hj=>?_,I.fzp,fun p hp=>?_,I.ntp⟩
  ·obtain ⟨g1,g2⟩:=J.fzs p (List.mem_cons_of_mem _ hp)
   rw [M,if_neg (nfz p hp)] at g1
   exact ⟨g1,g2⟩
  ·have q:j≠i:=fun z=>by rw [z,m] at hm; cases hm
   obtain ⟨b,g1⟩:=J.fzm j w (by rw [M,if_neg q]; exact hm) hj
   rcases List.mem_cons.mp g1 with z | g1
   ·exact absurd (Prod.mk.inj z).1 q
   ·exact ⟨b,g1⟩
  ·obtain ⟨g1,g2,g3⟩:=J.prs p (List.mem_cons_of_mem _ hp)
   refine ⟨g1,g2,fun j w hm hj=>?_⟩
   by_cases q:j=i
   ·subst q; rw [j1]; exact fun z=>npr p hp (by cases z; rfl)
   ·exact g3 j w (by rw [M,if_neg q]; exact hm) hj
end
noncomputable def ItR (K:Γd) (c:Cn) (md:Md) (J:It) (xs:List FV) (S1:Hp):Prop :=
 ∀ (i:Nat) (L:a0c) (σ:L2.St) (S H:Hp),Iv K c md L σ S H→Same S1 S→(xs[i]?=none→J.stop i H)∧∀ p,xs[i]?=some p→J.go i H∧∀ v H',J.yld i H v H'→∃ S',Same S S'∧(∀ c md L σ,Iv K c md L σ S H→Iv K c md L σ S' H')∧RV K S' p v
noncomputable def li (K:Γd) (md md':Md) (it:AW):TI:=fun σ H R=>∃ c L S Q0,Iv K c md L σ S H∧it L Q0∧∀ xs L',Q0 xs L'→∀ J c' S' H',Iv K c' md' L' σ S' H'→(∀ L σ S H,Iv K c' md' L σ S H→Iv K c md L σ S H)→c'.H0=c.H0→ItR K c' md' J xs S'→Same S S'→R J H'
noncomputable def FI (X:Cx) (C:CC) (md':Md) (tg iter:Expr) (it:AW):Prop:=PI X.nox tg iter (li X.K C.md md' it)
section
variable {X:Cx} {C:CC} {n:Nat} {sp:Γd→Nat→Sp} {a b d x y z tg:Expr} {ea eb ec:EW} {pos p:Pos}
variable {K:Γd} {c:Cn} {md:Md} {L:a0c} {σ:L2.St} {S H:Hp} {i:Nat} {nx:Str}
theorem PI.imp {X:Cx} {tg it:Expr} {t u:TI} (h:PI X tg it t) (f:∀ σ H R,u σ H R→t σ H R):PI X tg it u:=fun pins s σ H R I hu=>h pins s σ H R I (f σ H R hu)
noncomputable def Its (K:Γd):Bool→Addr→It
 | true,a=>Itl K a
 | false,a=>Itt K a
theorem c9k {X:Cx} {tg it:Expr} {te:TE} (h:PE X it te):PI X tg it (fun σ H R=>te σ H fun v H1=>∃ b a xs,v=.ref a∧SqB b X.K H1 a xs∧R (Its X.K b a) H1):=by
 intro pins s σ H R I hh
 refine thn (h pins s σ H _ I hh) fun v s1 ⟨x,H1,I1,r1,b,a,xs,e,hq,q⟩=>?_
 subst e
 cases r1
 cases b with
 | true =>
  obtain ⟨its,rv,p,hz⟩:=I1.list hq
  refine wpAny_pyIter_list p.isList ?_
  refine ⟨s1.heap.objs.size,[s1.heap.objs.size],_,_,H1,rfl,I1.kept (t':=s1.toks) fun b o e=>Γc _ e,b5p a _,⟨_,Heap.get?_push_size _ rfl,rfl,rfl⟩,fun b hb=>?_,q⟩
  have e:b=s1.heap.objs.size:=by simpa using hb
  subst e
  exact I1.fpOk (Nat.le_refl _) (I1.hok.fresh (Nat.le_refl _))
 | false =>
  obtain ⟨its,rv,p,hz⟩:=I1.tuple hq
  refine wpAny_pyIter_tuple p ?_
  refine ⟨s1.heap.objs.size,[s1.heap.objs.size],_,_,H1,rfl,I1.kept (t':=s1.toks) fun b o e=>Γc _ e,b3v a _,⟨_,Heap.get?_push_size _ rfl,rfl,rfl⟩,fun b hb=>?_,q⟩
  have e:b=s1.heap.objs.size:=by simpa using hb
  subst e
  exact I1.fpOk (Nat.le_refl _) (I1.hok.fresh (Nat.le_refl _))
theorem d0r {t:Bool} {q:Addr} {ps:List FV} {S1:Hp} (h:∀ L σ S H,Iv K c md L σ S H→Same S1 S→∃ vs,SqB t K H q vs∧RVs K S ps vs):ItR K c md (Its K t q) ps S1:=by
 intro i L σ S H I s
 obtain ⟨vs,h1,h2⟩:=h L σ S H I s
 cases t with
 | true =>
  refine ⟨fun e=>⟨vs,h1,by rw [← h2.length]; exact List.getElem?_eq_none_iff.mp e⟩,fun p ep=>?_⟩
  obtain ⟨v,e1,r1⟩:=h2.get ep
  refine ⟨⟨vs,v,h1,e1⟩,fun w H' ⟨eh,y⟩=>?_⟩
  have:=y vs h1
  rw [e1] at this; cases this
  subst eh
  exact ⟨S,Same.refl S,fun _ _ _ _ I=>I,r1⟩
 | false =>
  refine ⟨fun e=>⟨vs,h1,by rw [← h2.length]; exact List.getElem?_eq_none_iff.mp e⟩,fun p ep=>?_⟩
  obtain ⟨v,e1,r1⟩:=h2.get ep
  refine ⟨⟨vs,v,h1,e1⟩,fun w H' ⟨eh,y⟩=>?_⟩
  have:=y vs h1
  rw [e1] at this; cases this
  subst eh
  exact ⟨S,Same.refl S,fun _ _ _ _ I=>I,r1⟩
theorem RV.stays {v:FV} {ps:List FV} {u:V} {S1:Hp} (r:RV K S1 v u) (e:a3b v=some ps):∃ q,u=.ref q∧∀ S H,Same S1 S→Same S H→∃ vs,SqB (isL v) K H q vs∧RVs K S ps vs:=by
 cases v with
 | tup qs=>cases e; obtain ⟨q,vs,rfl,h1,h2⟩:=r; exact ⟨q,rfl,fun S H s s'=>⟨vs,SqT.of (s' _ _ (s _ _ h1)),h2.mono s⟩⟩
 | lst qs=>cases e; obtain ⟨q,vs,rfl,h1,h2⟩:=r; exact ⟨q,rfl,fun S H s s'=>⟨vs,SqL.of (s' _ _ (s _ _ h1)),h2.mono s⟩⟩
 | scr ns=>cases e; obtain ⟨q,rfl,h⟩:=r; exact ⟨q,rfl,fun S H s s'=>⟨_,h.sq (s.trans s'),RVs.ns ns⟩⟩
 | _=>cases e
theorem fi_seq (ha:FE X C a ea):FI X C C.md tg a (b9p ea):=PI.imp (c9k ha) fun σ H R ⟨c,L,S,Q0,I,h,k⟩ =>
 ⟨c,L,S,_,I,h,fun v L1 hv x S1 H1 r1 I1 s1=>by
  obtain ⟨ps,e,q⟩:=wpx hv
  obtain ⟨l,rfl,st⟩:=r1.stays e
  obtain ⟨vs,h1,h2⟩:=st S1 H1 (Same.refl _) I1.sub
  exact ⟨isL v,l,vs,rfl,h1,k ps L1 q _ c S1 H1 I1 (fun _ _ _ _ I=>I) rfl (d0r fun L σ S H I s=>st S H s I.sub) s1⟩⟩
theorem b0o:∀ (n:Nat) (lo:Int) (i:Nat),(upF lo n)[i]?=if i < n then some (.int (lo + i)) else none
 | 0,lo,i=>by simp [upF]
 | n + 1,lo,0=>by simp [upF]
 | n + 1,lo,i + 1=>by
  show (upF (lo + 1) n)[i]?=_
  rw [b0o n (lo + 1) i]
  have e:lo + 1 + (i:Int)=lo + ((i + 1:Nat):Int):=by lia
  rw [e]
  simp
theorem c3n {lo:Int} {m:Nat} {S1:Hp}:ItR K c md (Itr lo m) (upF lo m) S1:=by
 intro i L σ S H I s
 rw [b0o]
 by_cases h:i < m
 ·rw [if_pos h]
  refine ⟨fun e=>(nomatch e),fun p e=>?_⟩
  cases e
  exact ⟨h,fun v H' ⟨e1,e2⟩=>⟨S,Same.refl S,by rw [e1]; exact fun _ _ _ _ I=>I,e2⟩⟩
 ·rw [if_neg h]
  exact ⟨fun _=>show m≤i by lia,fun p e=>(nomatch e)⟩
theorem fi_rng (G:Good X C n sp) (hg:C.gl (Γe "range")=true) (hs:a0k a=false) (ha:FE X C a ea):FI X C C.md tg (.Call (.Name (Γe "range") p) [a] [] pos) (b3d ea):=PI.imp (b6u (G.gl hg) (G.blt "range" (by decide)) (a0o ha a1y (a0d hs)) (a0d hs)) fun σ H R ⟨c,L,S,Q0,I,h,k⟩ =>
 ⟨c,L,S,_,I,h,fun v L1 hv x S1 H1 r1 I1 s1=>by
  obtain ⟨j,e,hb,q⟩:=wpx hv
  cases a1m e
  have hb:=de hb
  exact ⟨j,by rw [show x=.int j from r1],hb.1,hb.2,k _ L1 q _ c S1 H1 I1 (fun _ _ _ _ I=>I) rfl c3n s1⟩⟩
theorem d7h (G:Good X C n sp) (hg:C.gl (Γe "range")=true) (hs:a0k a=false) (hs2:a0k b=false) (ha:FE X C a ea) (hb:FE X C b eb):FI X C C.md tg (.Call (.Name (Γe "range") p) [a,b] [] pos) (iRng2 ea eb) :=
 PI.imp (b6t (G.gl hg) (G.blt "range" (by decide)) (a0o ha (a0o hb a1y (a0d hs2)) (a0d hs)) (by rw [a0d hs,a0d hs2]; rfl) (a0d hs2)) fun σ H R ⟨c,L,S,Q0,I,h,k⟩ =>
 ⟨c,L,S,_,I,h,fun v L1 hv x S1 H1 r1 I1 s1=>⟨c,L1,S1,_,I1,hv,fun w L2 hw y S2 H2 r2 I2 s2=>by
  obtain ⟨j,e,hw⟩:=wpx hw
  obtain ⟨j',e',hb,q⟩:=wpx hw
  cases a1m e; cases a1m e'
  have hb:=b2 hb
  have h1:=de hb.1
  have h2:=de hb.2
  exact ⟨j,j',by rw [show x=.int j from r1,show y=.int j' from r2],⟨h1.1,h1.2,h2.1,h2.2⟩,k _ L2 q _ c S2 H2 I2 (fun _ _ _ _ I=>I) rfl c3n (s1.trans s2)⟩⟩⟩
theorem b2r {P Q:FV} {u w:V} {pp:Addr} (I:Iv K c md L σ S H) (hp:H pp=none) (r1:RV K S P u) (r2:RV K S Q w):∃ S',Same S S'∧(∀ c md L σ,Iv K c md L σ S H→Iv K c md L σ S' (upd H pp (.tup [u,w])))∧RV K S' (.tup [P,Q]) (.ref pp) :=
 ⟨upd S pp (.tup [u,w]),a0p (I.sn hp),fun _ _ _ _ I=>I.new hp _,pp,[u,w],rfl,a0f,u,[w],rfl,r1.mono (a0p (I.sn hp)),w,[],rfl,r2.mono (a0p (I.sn hp)),rfl⟩
theorem c3m {t t':Bool} {q q':Addr} {ps qs:List FV} {S1:Hp} (h:∀ L σ S H,Iv K c md L σ S H→Same S1 S→∃ vs,SqB t K H q vs∧RVs K S ps vs) (h':∀ L σ S H,Iv K c md L σ S H→Same S1 S→∃ vs,SqB t' K H q' vs∧RVs K S qs vs):ItR K c md (Iz2 K t t' q q') (a3p ps qs) S1:=by
 intro i L σ S H I s
 obtain ⟨vs,h1,h2⟩:=h L σ S H I s
 obtain ⟨ws,g1,g2⟩:=h' L σ S H I s
 unfold a3p
 rw [List.getElem?_zipWith]
 refine ⟨fun z=>⟨vs,ws,h1,g1,?_⟩,fun y ey=>?_⟩
 ·rw [← h2.length,← g2.length]
  cases c1:ps[i]? with
  | none=>exact .inl (List.getElem?_eq_none_iff.mp c1)
  | some _ =>
   cases c2:qs[i]? with
   | none=>exact .inr (List.getElem?_eq_none_iff.mp c2)
   | some _=>rw [c1,c2] at z; cases z
 ·cases c1:ps[i]? with
  | none=>rw [c1] at ey; cases ey
  | some p1 =>
   cases c2:qs[i]? with
   | none=>rw [c1,c2] at ey; cases ey
   | some q1 =>
    rw [c1,c2] at ey
    cases ey
    obtain ⟨v,f1,f2⟩:=h2.get c1
    obtain ⟨w,f3,f4⟩:=g2.get c2
    refine ⟨⟨vs,ws,v,w,h1,g1,f1,f3⟩,fun z H' ⟨pp,hp,ez,yy⟩=>?_⟩
    have:=yy vs ws v w h1 g1 f1 f3
    subst this ez
    exact b2r I hp f2 f4
theorem c6j {t:Bool} {q:Addr} {ps:List FV} {S1:Hp} (h:∀ L σ S H,Iv K c md L σ S H→Same S1 S→∃ vs,SqB t K H q vs∧RVs K S ps vs):ItR K c md (Ien K t q) (a3p (upF 0 ps.length) ps) S1:=by
 intro i L σ S H I s
 obtain ⟨vs,h1,h2⟩:=h L σ S H I s
 unfold a3p
 rw [List.getElem?_zipWith,b0o]
 refine ⟨fun z=>⟨vs,h1,?_⟩,fun y ey=>?_⟩
 ·rw [← h2.length]
  by_cases hi:i < ps.length
  ·rw [if_pos hi,List.getElem?_eq_getElem hi] at z; cases z
  ·lia
 ·by_cases hi:i < ps.length
  ·rw [if_pos hi,List.getElem?_eq_getElem hi] at ey
   cases ey
   obtain ⟨v,f1,f2⟩:=h2.get (List.getElem?_eq_getElem hi)
   refine ⟨⟨vs,v,h1,f1⟩,fun z H' ⟨pp,hp,ez,yy⟩=>?_⟩
   have:=yy vs v h1 f1
   subst this ez
   exact b2r I hp (show RV K S (.int (0 + i)) (.int i) by show V.int i=V.int (0 + i); rw [Int.zero_add]) f2
  ·rw [if_neg hi] at ey; cases ey
variable {elts:List Expr} {kk:Nat} {tp:Pos}
theorem fi_zip (G:Good X C n sp) (hg:C.gl (Γe "zip")=true) (hs:a0k a=false) (hs2:a0k b=false) (ha:FE X C a ea) (hb:FE X C b eb):FI X C C.md (.Tuple elts kk tp) (.Call (.Name (Γe "zip") p) [a,b] [] pos) (c3p ea eb) :=
 PI.imp (d5r (G.gl hg) (G.blt "zip" (by decide)) (a0o ha (a0o hb a1y (a0d hs2)) (a0d hs)) (by rw [a0d hs,a0d hs2]; rfl) (a0d hs2)) fun σ H R ⟨c,L,S,Q0,I,h,k⟩ =>
 ⟨c,L,S,_,I,h,fun v L1 hv x S1 H1 r1 I1 s1=>⟨c,L1,S1,_,I1,hv,fun w L2 hw y S2 H2 r2 I2 s2=>by
  obtain ⟨ps,e,hw⟩:=wpx hw
  obtain ⟨qs,e',q⟩:=wpx hw
  obtain ⟨l,rfl,st⟩:=(r1.mono s2).stays e
  obtain ⟨l',rfl,st'⟩:=r2.stays e'
  obtain ⟨vs,h1,_⟩:=st S2 H2 (Same.refl _) I2.sub
  obtain ⟨ws,h2,_⟩:=st' S2 H2 (Same.refl _) I2.sub
  exact ⟨_,_,l,l',rfl,⟨vs,h1⟩,⟨ws,h2⟩,k _ L2 q _ c S2 H2 I2 (fun _ _ _ _ I=>I) rfl (c3m (fun L σ S H I s=>st S H s I.sub) fun L σ S H I s=>st' S H s I.sub) (s1.trans s2)⟩⟩⟩
theorem d7j (G:Good X C n sp) (hg:C.gl (Γe "enumerate")=true) (hs:a0k a=false) (ha:FE X C a ea):FI X C C.md (.Tuple elts kk tp) (.Call (.Name (Γe "enumerate") p) [a] [] pos) (c1m ea) :=
 PI.imp (d5s (G.gl hg) (G.blt "enumerate" (by decide)) (a0o ha a1y (a0d hs)) (a0d hs)) fun σ H R ⟨c,L,S,Q0,I,h,k⟩ =>
 ⟨c,L,S,_,I,h,fun v L1 hv x S1 H1 r1 I1 s1=>by
  obtain ⟨ps,e,q⟩:=wpx hv
  obtain ⟨l,rfl,st⟩:=r1.stays e
  obtain ⟨vs,h1,_⟩:=st S1 H1 (Same.refl _) I1.sub
  exact ⟨_,l,rfl,⟨vs,h1⟩,k _ L1 q _ c S1 H1 I1 (fun _ _ _ _ I=>I) rfl (c6j fun L σ S H I s=>st S H s I.sub) s1⟩⟩
end
noncomputable def gTs:List Nat→TGs
 | []=>d6s
 | i :: is=>c1r (a5v i) (gTs is)
noncomputable def gT (K:Γd):Tg→TG
 | .nm i=>a5v i
 | .tp is=>d2u K is.length (gTs is)
 | .tn i is=>d2u K 2 (c1r (a5v i) (c1r (d2u K is.length (gTs is)) d6s))
noncomputable def a3l (md:Md):Tg→Bool
 | .nm i=>decide (a0q md i=.imm)
 | .tp is=>is.all fun i=>decide (a0q md i=.imm)
 | .tn i is=>decide (a0q md i=.imm) && is.all fun i=>decide (a0q md i=.imm)
noncomputable def a7o (n:Nat):Tg→Bool
 | .nm i=>decide (n≤i)
 | .tp is=>is.all fun i=>decide (n≤i)
 | .tn i is=>decide (n≤i) && is.all fun i=>decide (n≤i)
noncomputable def FG (X:Cx) (t:Expr) (tg:Tg):Prop:=PG X.nox t (gT X.K tg)
section
variable {K:Γd} {c:Cn} {md:Md} {L:a0c} {σ:L2.St} {S H:Hp}
theorem a7t:∀ {is:List Nat} {ps:List FV} {vs:List V} {L L':a0c} {σ:L2.St},(is.all fun i=>decide (a0q md i=.imm))=true→Iv K c md L σ S H→RVs K S ps vs→a6g L is ps=some L' →
  ∃ σ',(∀ Q:L2.St→Hp→Prop,Q σ' H→gTs is vs σ H Q)∧Iv K c md L' σ' S H∧σ'.length=σ.length∧is.length=vs.length∧∀ n,(is.all fun i=>decide (n≤i))=true→∀ j,j < n→σ'[j]?=σ[j]?
 | [],[],vs,L,L',σ,_,I,r,e=>by cases (show vs=[] from r); cases e; exact ⟨σ,fun Q q=>⟨rfl,q⟩,I,rfl,rfl,fun _ _ _ _=>rfl⟩
 | i :: is,p :: ps,vs,L,L',σ,hm,I,r,e=>by
  obtain ⟨v,q,rfl,h1,h2⟩:=r
  have hm:=b2 (show (decide (a0q md i=.imm) && is.all fun i=>decide (a0q md i=.imm))=true from hm)
  obtain ⟨σ',g,I',l1,l2,far⟩:=a7t (is:=is) (ps:=ps) (vs:=q) hm.2 (I.setI (de hm.1) h1) h2 e
  refine ⟨σ',fun Q q'=>⟨v,q,rfl,g Q q'⟩,I',by rw [l1,List.length_set],by rw [List.length_cons,List.length_cons,l2],fun n hn j hj=>?_⟩
  have hn:=b2 (show (decide (n≤i) && is.all fun i=>decide (n≤i))=true from hn)
  have:=de hn.1
  rw [far n hn.2 j hj,List.getElem?_set_ne (by lia)]
 | [],p :: ps,_,_,_,_,_,_,_,e=>by cases e
 | i :: is,[],_,_,_,_,_,_,_,e=>by cases e
theorem a7f {tg:Tg} {v:FV} {x:V} {Q:a0c→Prop} (hm:a3l md tg=true) (I:Iv K c md L σ S H) (r:RV K S v x) (h:gW tg v L Q) :
  ∃ σ' L',(∀ Q':L2.St→Hp→Prop,Q' σ' H→gT K tg x σ H Q')∧Q L'∧Iv K c md L' σ' S H∧σ'.length=σ.length∧∀ n,a7o n tg=true→∀ j,j < n→σ'[j]?=σ[j]?:=by
 cases tg with
 | nm i =>
  refine ⟨σ.set i (some x),L.set i (some v),fun Q q=>q,h,I.setI (de hm) r,List.length_set ..,fun n hn j hj=>?_⟩
  have:n≤i:=de hn
  exact List.getElem?_set_ne (by lia)
 | tp is =>
  obtain ⟨ps,e,h⟩:=wpx h
  obtain ⟨L',e1,q⟩:=wpx h
  cases a1x e
  obtain ⟨a,vs,rfl,h1,h2⟩:=r
  obtain ⟨σ',g,I',l1,l2,far⟩:=a7t hm I h2 e1
  exact ⟨σ',L',fun Q q=>⟨a,vs,rfl,SqT.of (I.sub _ _ h1),l2.symm,g Q q⟩,q,I',l1,far⟩
 | tn i is =>
  have hm:=b2 hm
  obtain ⟨ps,e,h⟩:=wpx h
  obtain ⟨p,e1,h⟩:=wpx h
  obtain ⟨qs,e2,h⟩:=wpx h
  obtain ⟨L',e3,q⟩:=wpx h
  cases a1x e
  obtain ⟨p1,p2⟩:=p
  obtain rfl:ps=[p1,p2]:=by
   rcases ps with _ | ⟨a,_ | ⟨b,_ | ⟨c,r⟩⟩⟩ <;> first | (cases e1; done) | (cases e1; rfl)
  obtain ⟨a,vs,rfl,h1,h2⟩:=r
  obtain ⟨u,w,rfl,r1,r2⟩:=h2.two_of
  cases a1x e2
  obtain ⟨b,ws,rfl,h3,h4⟩:=r2
  obtain ⟨σ',g,I',l1,l2,far⟩:=a7t hm.2 (I.setI (de hm.1) r1) h4 e3
  refine ⟨σ',L',fun Q q=>⟨a,_,rfl,SqT.of (I.sub _ _ h1),rfl,_,_,rfl,_,_,rfl,b,ws,rfl,SqT.of (I.sub _ _ h3),l2.symm,g _ ⟨rfl,q⟩⟩,q,I',by rw [l1,List.length_set],fun n hn j hj=>?_⟩
  have hn:=b2 hn
  have:=de hn.1
  rw [far n hn.2 j hj,List.getElem?_set_ne (by lia)]
theorem Iv.regrow {a:Addr} {o o':HO} (I:Iv K { c with pr:=(a,o) :: c.pr } md L σ S H) (h0:c.H0 a=none) (hp:∀ p∈c.pr,p.1≠a) (hz:∀ p∈c.fz,∃ o,(p.2,o)∈c.pr) (nt:a8g o'=false:=by first | rfl | exact a5n _ _):Iv K { c with pr:=(a,o') :: c.pr } md L σ S (upd H a o'):=by
 obtain ⟨_,sa,na⟩:=I.prs (a,o) List.mem_cons_self
 have oa:∀ j w b,a0q md j≠.imm→L[j]?=some (some w)→σ[j]?=some (some (.ref b))→b≠a:=fun j w b hm hj hs z=>by
  subst z
  by_cases m:a0q md j=.own
  ·exact na j w m hj hs
  ·have m:a0q md j=.frz:=by cases q:a0q md j with | imm=>exact absurd q hm | own=>exact absurd q m | frz=>rfl
   obtain ⟨b',g1⟩:=I.fzm j w m hj
   obtain ⟨_,g2,_⟩:=I.fzs _ g1
   rw [hs] at g2; cases g2
   obtain ⟨xs,g3⟩:=hz _ g1
   exact hp _ g3 rfl
 refine ⟨I.len,I.imm,fun j w hm hj=>?_,I.dis,fun b u e=>?_,fun b u e n=>?_,I.s0,I.grow,I.lent,I.fzs,I.fzm,fun p hpz=>let ⟨xs,g⟩:=hz p hpz; ⟨xs,List.mem_cons_of_mem _ g⟩,fun p hpr=>?_,fun p hpr=>(List.mem_cons.mp hpr).elim (fun z=>by rw [z]; exact nt) fun z=>I.ntp p (List.mem_cons_of_mem _ z)⟩
 ·obtain ⟨b,e1,⟨g1,ps,xs,g2,g3,g4⟩,g5⟩:=I.own j w hm hj
  exact ⟨b,e1,⟨g1,ps,xs,g2,by rw [a0e (oa j w b hm hj e1)]; exact g3,g4⟩,g5⟩
 ·rw [a0e fun z=>by subst z; rw [sa] at e; cases e]; exact I.sub b u e
 ·rw [a0e fun z=>by subst z; rw [h0] at e; cases e]; exact I.frame b u e n
 ·rcases List.mem_cons.mp hpr with rfl | hpr
  ·exact ⟨a0f,sa,na⟩
  ·obtain ⟨g1,g2,g3⟩:=I.prs p (List.mem_cons_of_mem _ hpr)
   exact ⟨by rw [a0e (hp p hpr)]; exact g1,g2,g3⟩
theorem Iv.unprot {a:Addr} {o:HO} (I:Iv K { c with pr:=(a,o) :: c.pr } md L σ S H) (hz:∀ p∈c.fz,∃ o,(p.2,o)∈c.pr):Iv K c md L σ S H :=
 ⟨I.len,I.imm,I.own,I.dis,I.sub,I.frame,I.s0,I.grow,I.lent,I.fzs,I.fzm,hz,fun p hp=>I.prs p (List.mem_cons_of_mem _ hp),fun p hp=>I.ntp p (List.mem_cons_of_mem _ hp)⟩
theorem c3h:∀ {md:Md} {i:Nat},md.length≤i→a0q md i=.imm
 | [],i,_=>rfl
 | a :: md,0,h=>absurd h (by simp)
 | a :: md,i + 1,h=>c3h (md:=md) (i:=i) (by simpa using h)
theorem Iv.more (I:Iv K c md L σ S H) (m:Nat):Iv K c md (L++List.replicate m none) (σ++List.replicate m none) S H:=by
 have look:∀ j w,(L++List.replicate m none)[j]?=some (some w)→L[j]?=some (some w)∧(σ++List.replicate m none)[j]?=σ[j]?:=fun j w z=>by
  by_cases h:j < L.length
  ·rw [List.getElem?_append_left h] at z
   exact ⟨z,List.getElem?_append_left (by rw [← I.len]; exact h)⟩
  ·rw [List.getElem?_append_right (by lia),List.getElem?_replicate] at z
   split at z <;> cases z
 have up:∀ j w,L[j]?=some (some w)→(L++List.replicate m none)[j]?=some (some w)∧(σ++List.replicate m none)[j]?=σ[j]?:=fun j w z=>by
  have h:=(List.getElem?_eq_some_iff.mp z).1
  exact ⟨by rw [List.getElem?_append_left h]; exact z,List.getElem?_append_left (by rw [← I.len]; exact h)⟩
 refine ⟨by simp [I.len],fun j w hm z=>?_,fun j w hm z=>?_,fun j k w u b m1 m2 z1 z2 y1 y2=>?_,I.sub,I.frame,I.s0,I.grow,fun b hb=>?_,fun p hp=>?_,fun j w hm z=>I.fzm j w hm (look j w z).1,I.fzp,fun p hp=>?_,I.ntp⟩
 ·obtain ⟨z,y⟩:=look j w z; rw [y]; exact I.imm j w hm z
 ·obtain ⟨z,y⟩:=look j w z; rw [y]; exact I.own j w hm z
 ·obtain ⟨z1,q1⟩:=look j w z1
  obtain ⟨z2,q2⟩:=look k u z2
  rw [q1] at y1; rw [q2] at y2
  exact I.dis j k w u b m1 m2 z1 z2 y1 y2
 ·obtain ⟨g1,g2,w,g3⟩:=I.lent b hb
  obtain ⟨f1,f2⟩:=up 0 w g3
  exact ⟨g1,by rw [f2]; exact g2,w,f1⟩
 ·obtain ⟨g1,g2,w,g3⟩:=I.fzs p hp
  obtain ⟨f1,f2⟩:=up p.1 w g3
  exact ⟨g1,by rw [f2]; exact g2,w,f1⟩
 ·obtain ⟨g1,g2,g3⟩:=I.prs p hp
  refine ⟨g1,g2,fun j w hm z=>?_⟩
  obtain ⟨z,y⟩:=look j w z
  rw [y]; exact g3 j w hm z
theorem Iv.take {n:Nat} {σ2:L2.St} (I:Iv K c md L σ2 S H) (hmd:md.length≤n) (hs:σ.length=n) (hl:n≤σ2.length) (e:∀ j,j < n→σ2[j]?=σ[j]?):Iv K c md (L.take n) σ S H:=by
 have look:∀ j w,(L.take n)[j]?=some (some w)→L[j]?=some (some w)∧σ[j]?=σ2[j]?:=fun j w z=>by
  have h:=(List.getElem?_eq_some_iff.mp z).1
  rw [List.length_take] at h
  rw [List.getElem?_take_of_lt (by lia)] at z
  exact ⟨z,(e j (by lia)).symm⟩
 have up:∀ j w,a0q md j≠.imm→L[j]?=some (some w)→(L.take n)[j]?=some (some w)∧σ[j]?=σ2[j]?:=fun j w hm z=>by
  have h:j < n:=by
   by_cases h:j < n
   ·exact h
   ·exact absurd (c3h (by lia)) hm
  exact ⟨by rw [List.getElem?_take_of_lt h]; exact z,(e j h).symm⟩
 refine ⟨by rw [List.length_take,I.len,hs]; lia,fun j w hm z=>?_,fun j w hm z=>?_,fun j k w u b m1 m2 z1 z2 y1 y2=>?_,I.sub,I.frame,I.s0,I.grow,fun b hb=>?_,fun p hp=>?_,fun j w hm z=>I.fzm j w hm (look j w z).1,I.fzp,fun p hp=>?_,I.ntp⟩
 ·obtain ⟨z,y⟩:=look j w z; rw [y]; exact I.imm j w hm z
 ·obtain ⟨z,y⟩:=look j w z; rw [y]; exact I.own j w hm z
 ·obtain ⟨z1,q1⟩:=look j w z1
  obtain ⟨z2,q2⟩:=look k u z2
  rw [q1] at y1; rw [q2] at y2
  exact I.dis j k w u b m1 m2 z1 z2 y1 y2
 ·obtain ⟨g1,g2,w,g3⟩:=I.lent b hb
  obtain ⟨f1,f2⟩:=up 0 w g1 g3
  exact ⟨g1,by rw [f2]; exact g2,w,f1⟩
 ·obtain ⟨g1,g2,w,g3⟩:=I.fzs p hp
  obtain ⟨f1,f2⟩:=up p.1 w (fun z=>by rw [g1] at z; cases z) g3
  exact ⟨g1,by rw [f2]; exact g2,w,f1⟩
 ·obtain ⟨g1,g2,g3⟩:=I.prs p hp
  refine ⟨g1,g2,fun j w hm z=>?_⟩
  obtain ⟨z,y⟩:=look j w z
  rw [y]; exact g3 j w hm z
theorem c2h {J:It} {xs:List FV} {n m:Nat} {tg:Tg} {t:BW} {e:EW} {Q:VK} {Q1:List FV→a0c→Prop} (I:Iv K c md L σ S H) (hJ:ItR K c md J xs S) (hL:L.length=n) (hmd:md.length≤n) (ht:a3l md tg=true) (hg:a7o n tg=true) (hb:xs.length≤big) (h:a5c n m tg t e xs [] L Q1)
  (k:∀ acc ps L' S' H',H acc=none→Q1 ps L'→a3n K S' H' acc (.lst ps)→a8t c md L' σ acc→Iv K c md L' σ S' H'→Same S S'→Q (.ref acc) H') :
  ∀ acc,H acc=none→∃ W:Nat→Nat→Hp→Prop,(∃ m,W 0 m (upd H acc (.lst [])))∧∀ i j H,W i j H →
   (J.stop i H∧Q (.ref acc) H) ∨ (J.go i H∧∀ x H',J.yld i H x H'→gT K tg x (σ++List.replicate m none) H' fun σ2 H2=>Wk (σ++List.replicate m none) σ2∧lb K md t σ2 H2 fun b H3 =>
    if b=true then lv K md e σ2 H3 fun v H4=>∃ ys,H4 acc=some (.lst ys)∧ys.length < sizeLine∧∃ m',m' < j∧W (i + 1) m' (upd H4 acc (.lst (ys++[v]))) else ∃ m',m' < j∧W (i + 1) m' H3):=by
 intro acc hacc
 have h0:=I.h0 hacc
 have hp:∀ p∈c.pr,p.1≠acc:=(I.fresh hacc).2.1
 have hz:=I.fzp
 have hl:σ.length=n:=by rw [← I.len]; exact hL
 have hbl:=a1p
 let W:Nat→Nat→Hp→Prop:=fun i j H1=>∃ L S1 ps us,j=(xs.drop i).length∧Iv K { c with pr:=(acc,.lst us) :: c.pr } md L σ S1 H1∧RVs K S1 ps us∧Same S S1∧L.length=n∧ps.length≤i∧a5c n m tg t e (xs.drop i) ps L Q1
 have I1:Iv K { c with pr:=(acc,.lst []) :: c.pr } md L σ S (upd H acc (.lst [])):=(I.lay hacc _).prot a0f (I.sn hacc) fun j w hm hj=>(I.fresh hacc).2.2 j w (fun z=>by rw [hm] at z; cases z) hj
 refine ⟨W,⟨_,L,S,[],[],rfl,I1,rfl,Same.refl S,hL,Nat.le_refl _,by rw [List.drop_zero]; exact h⟩,?_⟩
 rintro i j H1 ⟨L,S1,ps,us,rfl,I,r,s,hL,hps,hc⟩
 have I0:=I.unprot hz
 obtain ⟨j1,j2⟩:=hJ i L σ S1 H1 I0 s
 obtain ⟨g1,g2,g3⟩:=I.prs (acc,.lst us) List.mem_cons_self
 cases hd:xs.drop i with
 | nil =>
  left
  rw [hd] at hc
  refine ⟨j1 (List.getElem?_eq_none_iff.mpr (List.drop_eq_nil_iff.mp hd)),k acc ps L S1 H1 hacc hc ⟨g2,ps,us,rfl,g1,r⟩ ⟨h0,hp,fun q w hm hq hs=>?_⟩ I0 s⟩
  by_cases mo:a0q md q=.own
  ·exact g3 q w mo hq hs
  ·have mo:a0q md q=.frz:=by cases z:a0q md q with | imm=>exact absurd z hm | own=>exact absurd z mo | frz=>rfl
   obtain ⟨b,f1⟩:=I0.fzm q w mo hq
   obtain ⟨_,f2,_⟩:=I0.fzs _ f1
   rw [hs] at f2; cases f2
   obtain ⟨ys,f3⟩:=hz _ f1
   exact hp _ f3 rfl
 | cons p rest =>
  right
  rw [hd] at hc
  have hi:xs[i]?=some p:=by
   have:=congrArg (·[0]?) hd
   simpa using this
  have hd':xs.drop (i + 1)=rest:=by
   have:=congrArg List.tail hd
   simpa [List.tail_drop] using this
  have hix:i < xs.length:=(List.getElem?_eq_some_iff.mp hi).1
  obtain ⟨go,yl⟩:=j2 p hi
  refine ⟨go,fun x H2 y=>?_⟩
  obtain ⟨S2,s2,tr,rx⟩:=yl x H2 y
  have I2:=(tr _ _ _ _ I).more m
  obtain ⟨σ2,L2,gq,q2,I2,len2,far⟩:=a7f ht I2 rx hc
  have l2:n≤σ2.length:=by rw [len2,List.length_append,hl]; lia
  have far':∀ q,q < n→σ2[q]?=σ[q]?:=fun q hq=>by rw [far n hg q hq,List.getElem?_append_left (by rw [hl]; exact hq)]
  refine gq _ ⟨⟨len2,fun q v hv=>?_⟩,?_⟩
  ·have hq:q < n:=by
    by_cases h:q < σ.length
    ·rw [← hl]; exact h
    ·rw [List.getElem?_append_right (by lia),List.getElem?_replicate] at hv
     split at hv <;> cases hv
   rw [far n hg q hq]; exact hv
  ·refine ⟨_,L2,S2,_,I2,q2,fun b L3 hb3 S3 H3 I3 s3=>?_⟩
   cases b with
   | false =>
    rw [if_neg Bool.false_ne_true] at hb3 ⊢
    exact ⟨rest.length,by simp,L3.take n,S3,ps,us,by rw [hd'],I3.take hmd hl l2 far',r.mono (s2.trans s3),s.trans (s2.trans s3),by rw [List.length_take,I3.len]; lia,by lia,by rw [hd']; exact hb3⟩
   | true =>
    rw [if_pos rfl] at hb3 ⊢
    refine ⟨_,L3,S3,_,I3,hb3,fun v L4 hv u S4 H4 r4 I4 s4=>?_⟩
    obtain ⟨k1,_⟩:=I4.prs (acc,.lst us) List.mem_cons_self
    have lr:=r.length
    exact ⟨us,k1,by lia,rest.length,by simp,L4.take n,S4,ps++[v],us++[u],by rw [hd'],(I4.take hmd hl l2 far').regrow h0 hp hz,(r.mono (s2.trans (s3.trans s4))).append (RVs.one r4),s.trans (s2.trans (s3.trans s4)),by rw [List.length_take,I4.len]; lia,by simp; lia,by rw [hd']; exact hv⟩
end
noncomputable def b7t:Expr→Bool
 | .Set ..=>true
 | _=>false
theorem b8a {x:Expr} {env:Env} (h:b7t x=false):∀ v,foldedSetIterable x env v=pure v:=by
 intro v
 cases x <;> first | rfl | (cases h; done)
noncomputable def CC.tn (C:CC) (i:Nat) (x:Str):Bool:=decide (C.N[i]?=some x) && C.loc x
noncomputable def d5b (outer:List (Str×NameKind)) (names:List (Str×NameKind)):List (Str×NameKind) :=
 names.map fun (n,k)=>if (k == NameKind.free && outer.lookup n == some .cell) then (n,NameKind.cell) else (n,k)
noncomputable def CC.sub (C:CC) (scope:Scope) (own:List Str) (md:Md):CC:=⟨C.N.map (a7y own)++own,d5b C.sc scope.names,C.fns,md,false⟩
noncomputable def CC.scOk (C:CC) (scope:Scope) (own:List Str):Bool :=
 decide (scope.kind=.function) && scope.names.all (fun p=>decide (p.2≠.cell)) && scope.names.all (fun p=>decide (p.2=.local→scope.names.lookup p.1=some .local)) &&
 scope.names.all (fun p=>decide (p.2=.free→(C.sc.lookup p.1=some .cell ∨ C.sc.lookup p.1=some .free))) && C.N.all (fun x=>if own.contains x then decide (scope.names.lookup (d2t x)=none) else decide (scope.names.lookup x≠some .local)) && decide ((C.N.map (a7y own)++own).Nodup)
noncomputable def d0k:Md→Md→Bool
 | [],_=>true
 | a :: md,[]=>decide (a=.imm) && d0k md []
 | a :: md,b :: md'=>(decide (a=.imm) || !decide (b=.imm)) && d0k md md'
theorem a5o:∀ {md md':Md},d0k md md'=true→∀ j,a0q md j≠.imm→a0q md' j≠.imm
 | [],_,_,j,h=>absurd rfl h
 | a :: md,[],h,0,h0=>absurd (de (b2 h).1) h0
 | a :: md,[],h,j + 1,h0=>a5o (md:=md) (md':=[]) (b2 h).2 j h0
 | a :: md,b :: md',h,0,h0=>fun z=>by
  have h:=(b2 h).1
  have h0:a≠.imm:=h0
  have z:b=.imm:=z
  simp [h0,z] at h
 | a :: md,b :: md',h,j + 1,h0=>a5o (md:=md) (md':=md') (b2 h).2 j h0
noncomputable def FGs (X:Cx) (es:List Expr) (is:List Nat):Prop:=PGs X.nox es (gTs is)∧(assignEach es X.env).length=is.length∧(assignEach es X.env).findIdx? (·.1)=none
noncomputable def FTs (X:Cx) (C:CC) (xs:List Expr) (t:BW):Prop:=PTs X.nox xs (lb X.K C.md t)
section
variable {X:Cx} {C:CC} {n:Nat} {sp:Γd→Nat→Sp} {a b x:Expr} {xs:List Expr} {pos p:Pos} {i k:Nat} {nx:Str} {is:List Nat} {t u:BW}
theorem Good.ix (G:Good X C n sp) {y:Str} (h:decide (C.N[i]?=some y)=true):X.N[i]?=some y:=by rw [G.N]; exact de h
theorem Good.nd' (G:Good X C n sp):X.N.Nodup:=by rw [G.N]; exact G.nd
theorem d0v (G:Good X C n sp) (h:C.tn i nx=true):FG X (.Name nx p) (.nm i):=by
 have h:=b2 h
 obtain ⟨l1,l2⟩:=G.loc h.2
 exact c5h (X:=X.nox) G.nd' (G.ix h.1) l1 l2
theorem d7k:FGs X [] []:=⟨b6v,rfl,rfl⟩
theorem d2v (G:Good X C n sp) (h:C.tn i nx=true) (r:FGs X xs is):FGs X (.Name nx p :: xs) (i :: is):=by
 obtain ⟨h1,h2,h3⟩:=r
 refine ⟨a7x (d0v G h) h1 rfl,?_,?_⟩
 ·show (assignEach xs X.env).length + 1=is.length + 1
  rw [h2]
 ·show ((false,assign (.Name nx p) X.env) :: assignEach xs X.env).findIdx? (·.1)=none
  rw [List.findIdx?_cons]
  simp [h3]
theorem c6u (G:Good X C n sp) (r:FGs X xs is):FG X (.Tuple xs k p) (.tp is):=c2z (X:=X.nox) G.calm r.1 r.2.1 r.2.2
theorem fg_tn (G:Good X C n sp) {k2:Nat} {p2 p3:Pos} (h:C.tn i nx=true) (r:FGs X xs is):FG X (.Tuple [.Name nx p3,.Tuple xs k2 p2] k p) (.tn i is) :=
 c2z (X:=X.nox) G.calm (a7x (d0v G h) (a7x (c6u G r) b6v rfl) rfl) rfl rfl
theorem PTs.imp {e:List Expr} {t u:TT} (h:PTs X e t) (f:∀ σ H Q,u σ H Q→t σ H Q):PTs X e u:=fun pins s σ H Q I hu=>h pins s σ H Q I (f σ H Q hu)
theorem d6v:FTs X C [] a1q:=PTs.imp b6m fun σ H Q ⟨c,L,S,Q0,I,h,k⟩=>k true L h S H I (Same.refl S)
theorem d6u (h1:FB X C a t):FTs X C [a] t:=PTs.imp (c0o h1 (b6m (X:=X.nox))) fun σ H Q ⟨c,L,S,Q0,I,h,k⟩ =>
 ⟨c,L,S,_,I,h,fun r L1 q S1 H1 I1 s1=>by
  cases r with
  | true=>rw [if_pos rfl]; exact k true L1 q S1 H1 I1 s1
  | false=>rw [if_neg Bool.false_ne_true]; exact k false L1 q S1 H1 I1 s1⟩
theorem Good.sub (G:Good X C n sp) {scope:Scope} {own:List Str} (h:C.scOk scope own=true) (md:Md):CScope X scope own∧∀ fp D s H,Good (cxC X scope own fp D s H) (C.sub scope own md) n sp:=by
 simp only [CC.scOk,Bool.and_eq_true,decide_eq_true_eq,List.all_eq_true] at h
 obtain ⟨⟨⟨⟨⟨h1,h2⟩,h3⟩,h4⟩,h5⟩,h6⟩:=h
 refine ⟨⟨h1,fun p hp=>by simpa using h2 p hp,fun p hp=>by simpa using h3 p hp,fun p hp hk=>?_,fun x hx hw=>?_,fun x hx hw=>?_⟩,fun fp D s H=>⟨?_,?_,h1,h6,G.calm,(fun z=>Bool.noConfusion z),G.room,G.fns,G.blt⟩⟩
 ·have:=h4 p hp
  show X.env.scope.names.lookup p.1=_ ∨ X.env.scope.names.lookup p.1=_
  rw [G.sc]; exact this hk
 ·have:=h5 x (by rw [← G.N]; exact hx)
  rw [if_neg (by rw [hw]; exact Bool.false_ne_true)] at this
  exact de this
 ·have:=h5 x (by rw [← G.N]; exact hx)
  rw [if_pos hw] at this
  exact de this
 ·show X.N.map (a7y own)++own=C.N.map (a7y own)++own
  rw [G.N]
 ·show (relabel scope X.env).names=d5b C.sc scope.names
  unfold relabel d5b
  simp only
  refine List.map_congr_left fun p hp=>?_
  obtain ⟨nm,kd⟩:=p
  show (if (kd == NameKind.free && X.env.scope.kind == .function && X.env.scope.names.lookup nm == some .cell)=true then (nm,NameKind.cell) else (nm,kd))=_
  rw [G.kind,G.sc]
  simp
variable {scope:Scope} {own:List Str} {elt tgx iter:Expr} {ifs:List Expr} {it:AW} {tg:Tg} {e:EW} {nn m:Nat} {md':Md}
structure CompOk (X:Cx) (C:CC) (n:Nat) (sp:Γd→Nat→Sp) (scope:Scope) (own:List Str) (elt tgx iter:Expr) (ifs:List Expr) (nn m:Nat) (md':Md) (it:AW) (tg:Tg) (t:BW) (e:EW):Prop where
 st:(C.scOk scope own && decide (C.N.length=nn) && decide (own.length=m) && decide (md'.length≤nn) && d0k C.md md' && a3l md' tg && a7o nn tg && !b7t iter)=true
 it:FI X C md' tgx iter it
 tg:∀ X',Good X' (C.sub scope own md') n sp→FG X' tgx tg
 ts:∀ X',Good X' (C.sub scope own md') n sp→FTs X' (C.sub scope own md') ifs t
 el:∀ X',Good X' (C.sub scope own md') n sp→FE X' (C.sub scope own md') elt e
theorem CompOk.run (G:Good X C n sp) (h:CompOk X C n sp scope own elt tgx iter ifs nn m md' it tg t e) {σ:L2.St} {H:Hp} {Q:VK} (hq:lf X.K C.md (a1v nn m it tg t e) σ H Q):c4f (li X.K C.md md' it) (gT X.K tg) (lb X.K md' t) (lv X.K md' e) own.length σ H Q:=by
 have h0:=b2 h.st; have h1:=b2 h0.1; have h2:=b2 h1.1; have h3:=b2 h2.1; have h4:=b2 h3.1; have h5:=b2 h4.1; have h6:=b2 h5.1
 obtain ⟨c,L,S,Q0,I,hh,k⟩:=hq
 refine ⟨c,L,S,_,I,hh,fun xs L1 hx J c' S1 H1 I1 un e0 hJ s1=>?_⟩
 obtain ⟨hl,hb,hc⟩:=hx
 rw [de h5.2]
 refine c2h I1 hJ hl (de h4.2) h2.2 h1.2 hb hc fun acc ps L' S' H' hn q o fr I' s'=>k _ L' q acc S' H' o ⟨by rw [← e0]; exact fr.1,((un _ _ _ _ I1).fresh hn).2.1,fun j w hm=>fr.2.2 j w (a5o h3.2 j hm)⟩ (un _ _ _ _ I') (s1.trans s')
theorem CompOk.blk (G:Good X C n sp) (h:CompOk X C n sp scope own elt tgx iter ifs nn m md' it tg t e):CScope X scope own∧(∀ fp D s H,PG (cxC X scope own fp D s H) tgx (gT X.K tg)∧PTs (cxC X scope own fp D s H) ifs (lb X.K md' t)∧PE (cxC X scope own fp D s H) elt (lv X.K md' e))∧∀ v,foldedSetIterable iter X.env v=pure v:=by
 have h0:=b2 h.st; have h1:=b2 h0.1; have h2:=b2 h1.1; have h3:=b2 h2.1; have h4:=b2 h3.1; have h5:=b2 h4.1; have h6:=b2 h5.1
 obtain ⟨s1,s2⟩:=G.sub h6.1 md'
 exact ⟨s1,fun fp D s H=>⟨h.tg _ (s2 fp D s H),h.ts _ (s2 fp D s H),h.el _ (s2 fp D s H)⟩,b8a (nb h0.2)⟩
theorem a1c (G:Good X C n sp) (h:CompOk X C n sp scope own elt tgx iter ifs nn m md' it tg t e):FF X C (.ListComp elt [⟨tgx,iter,ifs,0⟩] scope pos) (a1v nn m it tg t e):=by
 obtain ⟨s1,s2,s3⟩:=h.blk G
 exact PE.imp (b6y G.calm s1 h.it s2 s3) fun σ H Q q=>h.run G q
end
noncomputable def e0n (K:Γd) (c:Cn) (S H:Hp) (v:FV) (x:V):Bool→Prop
 | false=>RV K S v x
 | true=>∃ a,x=.ref a∧a3n K S H a v∧c.H0 a=none
noncomputable def EndQ (K:Γd) (c:Cn) (fr:Bool) (D:Ends) (σ:L2.St) (S H:Hp):FFl→Prop
 | .next=>D.nx σ H
 | .brk=>D.bk σ H
 | .cont=>D.ct σ H
 | .ret v=>∀ x,e0n K c S H v x fr→D.rt x H
noncomputable def ls (K:Γd) (md:Md) (fr:Bool) (s:SW):TS:=fun D σ H=>∃ c L S Q0,Iv K c md L σ S H∧s L Q0∧∀ fl L',Q0 fl L'→∀ σ' S' H',Iv K c md L' σ' S' H'→Same S S'→EndQ K c fr D σ' S' H' fl
noncomputable def FS (X:Cx) (C:CC) (fr:Bool) (x:Stmt) (s:SW):Prop:=PS X.nox x (ls X.K C.md fr s)
noncomputable def FSs (X:Cx) (C:CC) (fr:Bool) (x:List Stmt) (s:SW):Prop:=PSs X.nox x (ls X.K C.md fr s)
noncomputable def CC.wmd (C:CC) (md:Md):CC:=⟨C.N,C.sc,C.fns,md,C.top⟩
section
variable {X:Cx} {C:CC} {n:Nat} {sp:Γd→Nat→Sp} {fr:Bool} {a b x y:Expr} {e ea eb:EW} {pos p px py:Pos} {i j k:Nat} {nx ny:Str} {is:List Nat} {st:Stmt} {sts:List Stmt} {s r:SW}
variable {K:Γd} {c:Cn} {md:Md} {L:a0c} {σ:L2.St} {S H:Hp}
theorem Good.wmd (G:Good X C n sp) (md:Md):Good X (C.wmd md) n sp:=⟨G.N,G.sc,G.kind,G.nd,G.calm,G.fn,G.room,G.fns,G.blt⟩
theorem PS.imp {e:Stmt} {t u:TS} (h:PS X e t) (f:∀ D σ H,u D σ H→t D σ H):PS X e u:=fun pins s σ H D I hu=>h pins s σ H D I (f D σ H hu)
theorem PSs.imp {e:List Stmt} {t u:TS} (h:PSs X e t) (f:∀ D σ H,u D σ H→t D σ H):PSs X e u:=fun pins s σ H D I hu=>h pins s σ H D I (f D σ H hu)
theorem fs_nil:FSs X C fr [] a3t:=PSs.imp c4y fun D σ H ⟨c,L,S,Q0,I,h,k⟩=>k .next L h σ S H I (Same.refl S)
theorem a2v (h:FS X C fr st s):FSs X C fr [st] s:=c4x h
theorem a0n (h:FS X C fr st s) (h2:FSs X C fr sts r):FSs X C fr (st :: sts) (a0t s r):=PSs.imp (c0q h h2) fun D σ H ⟨c,L,S,Q0,I,h,k⟩ =>
 ⟨c,L,S,_,I,h,fun fl L1 q σ1 S1 H1 I1 s1=>by
  cases fl with
  | next=>exact ⟨c,L1,S1,_,I1,q,fun fl L2 q σ2 S2 H2 I2 s2=>k fl L2 q σ2 S2 H2 I2 (s1.trans s2)⟩
  | brk=>exact k _ L1 q σ1 S1 H1 I1 s1
  | cont=>exact k _ L1 q σ1 S1 H1 I1 s1
  | ret v=>exact k _ L1 q σ1 S1 H1 I1 s1⟩
noncomputable def a7e:Expr→Bool
 | .ListComp ..=>true
 | .SetComp ..=>true
 | .DictComp ..=>true
 | _=>false
theorem a3y {e:Expr} {t:Option Expr} {n:Nat} {env:Env} (h:a7e e=false):swapsWith e t n env=pure false:=by
 cases e <;> first | rfl | (cases h; done)
theorem d7b (hc:a7e a=false) (h:FE X C a e):FS X C fr (.Expr a pos) (c8s e):=PS.imp (c5b h (a3y hc)) fun D σ H ⟨c,L,S,Q0,I,h,k⟩ =>
 ⟨c,L,S,_,I,h,fun v L1 q x S1 H1 r I1 s1=>k .next L1 q σ S1 H1 I1 s1⟩
theorem fs_ret (h:FE X C a e):FS X C false (.Return (some a) pos) (a1j e):=PS.imp (b6o h) fun D σ H ⟨c,L,S,Q0,I,h,k⟩ =>
 ⟨c,L,S,_,I,h,fun v L1 q x S1 H1 r I1 s1=>k (.ret v) L1 q σ S1 H1 I1 s1 x r⟩
theorem d6z (h:FF X C a e):FS X C true (.Return (some a) pos) (a1j e):=PS.imp (b6o h) fun D σ H ⟨c,L,S,Q0,I,h,k⟩ =>
 ⟨c,L,S,_,I,h,fun v L1 q l S1 H1 o fr I1 s1=>k (.ret v) L1 q σ S1 H1 I1 s1 _ ⟨l,rfl,o,fr.1⟩⟩
theorem Iv.mine (I:Iv K c md L σ S H) {v:FV} {a:Addr} (hi:i≠0) (m:a0q md i≠.imm) (e:L[i]?=some (some v)) (e1:σ[i]?=some (some (.ref a))):c.H0 a=none:=by
 obtain ⟨b,e2,_,h⟩:=I.own i v m e
 rw [e1] at e2; cases e2
 rcases h with h | h
 ·obtain ⟨g1,g2,w,g3⟩:=I.lent a h
  exact absurd (I.dis i 0 v w a m g1 e g3 e1 g2) hi
 ·exact h
theorem d6y (G:Good X C n sp) (h:C.nm i nx=true) (m:(decide (a0q C.md i=.own) && decide (i≠0))=true):FS X C true (.Return (some (.Name nx p)) pos) (a1j (a0b i)):=PS.imp (b6o (a4n G h)) fun D σ H ⟨c,L,S,Q0,I,h,k⟩=>by
 have m:=b2 m
 have mi:a0q C.md i≠.imm:=fun z=>by rw [de m.1] at z; cases z
 obtain ⟨v,e,q⟩:=wpx h
 have e:=(a4c _ _ _).mp e
 obtain ⟨l,e1,o,_⟩:=I.own i v mi e
 exact ⟨_,e1,k (.ret v) L q σ S H I (Same.refl S) _ ⟨l,rfl,o,I.mine (de m.2) mi e e1⟩⟩
theorem fs_if {t:BW} {xa xb:List Stmt} (h:FB X C a t) (ha:FSs X C fr xa s) (hb:FSs X C fr xb r):FS X C fr (.If a xa xb pos) (sIf t s r):=PS.imp (d5p h ha hb) fun D σ H ⟨c,L,S,Q0,I,h,k⟩ =>
 ⟨c,L,S,_,I,h,fun v L1 q S1 H1 I1 s1=>by
  cases v with
  | true=>rw [if_pos rfl] at q ⊢; exact ⟨c,L1,S1,_,I1,q,fun fl L2 q σ2 S2 H2 I2 s2=>k fl L2 q σ2 S2 H2 I2 (s1.trans s2)⟩
  | false=>rw [if_neg Bool.false_ne_true] at q ⊢; exact ⟨c,L1,S1,_,I1,q,fun fl L2 q σ2 S2 H2 I2 s2=>k fl L2 q σ2 S2 H2 I2 (s1.trans s2)⟩⟩
theorem b1u {tg:Tg} {te:TE} (ht:a3l C.md tg=true) (hte:∀ σ H Q,lv X.K C.md e σ H Q→te σ H Q) (h:PS X.nox st (c2u te (gT X.K tg))):FS X C fr st (a1e e tg):=PS.imp h fun D σ H ⟨c,L,S,Q0,I,h,k⟩=>hte _ _ _
 ⟨c,L,S,_,I,h,fun v L1 q x S1 H1 r I1 s1=>by
  obtain ⟨σ',L',g,q,I2,_⟩:=a7f ht I1 r q
  exact g _ (k .next L' q σ' S1 H1 I2 s1)⟩
theorem c7o {te:TE} (m:a0q C.md i=.imm) (hte:∀ σ H Q,lf X.K C.md e σ H Q→te σ H Q) (h:PS X.nox st (c2u te (a5v i))):FS X C fr st (a1e e (.nm i)):=PS.imp h fun D σ H ⟨c,L,S,Q0,I,h,k⟩=>hte _ _ _
 ⟨c,L,S,_,I,h,fun v L1 q l S1 H1 o f I1 s1=>by
  obtain ⟨u,hu,I2,r⟩:=b7d I1 o f
  exact k .next _ q _ _ H1 (I2.setI m r) (s1.trans (a0p o.1))⟩
theorem c7n {te:TE} (m:(decide (a0q C.md i=.own) && decide (i≠0))=true) (hte:∀ σ H Q,lf X.K C.md e σ H Q→te σ H Q) (h:PS X.nox st (c2u te (a5v i))):FS X C fr st (a1e e (.nm i)):=PS.imp h fun D σ H ⟨c,L,S,Q0,I,h,k⟩=>hte _ _ _
 ⟨c,L,S,_,I,h,fun v L1 q l S1 H1 o f I1 s1=>by
  have m:=b2 m
  exact k .next _ q _ _ H1 (I1.set (fun _ _=>de m.2) (fun z=>by rw [de m.1] at z; cases z) (.inr ⟨de m.1,l,rfl,o,f.1,f.2.1,fun j w _ hm hj=>f.2.2 j w hm hj⟩)) s1⟩
theorem c5a (G:Good X C n sp) {te:TE} (ht:C.tn i nx=true) (hs:swapsWith a (some (.Name nx px)) pos.line X.env=pure false) (h:PE X.nox a te):PS X.nox (.Assign [.Name nx px] a pos) (c2u te (a5v i)):=by
 have ht:=b2 ht
 obtain ⟨l1,l2⟩:=G.loc ht.2
 exact c9h (X:=X.nox) G.nd' (G.ix ht.1) l1 h hs l2
theorem fs_set (G:Good X C n sp) (ht:C.tn i nx=true) (m:a0q C.md i=.imm) (hc:a7e a=false) (h:FE X C a e):FS X C fr (.Assign [.Name nx px] a pos) (a1e e (.nm i)) :=
 b1u (tg:=.nm i) (by simpa [a3l] using m) (fun _ _ _ z=>z) (c5a G ht (a3y hc) h)
theorem d6x (G:Good X C n sp) (ht:C.tn i nx=true) (m:(decide (a0q C.md i=.own) && decide (i≠0))=true) (hc:a7e a=false) (h:FF X C a e):FS X C fr (.Assign [.Name nx px] a pos) (a1e e (.nm i)) :=
 c7n m (fun _ _ _ z=>z) (c5a G ht (a3y hc) h)
noncomputable def swC (C:CC) (x:Str) (px:Pos) (scope:Scope) (p:Pos):Bool:=decide (C.sc.lookup x=some .local) && (px.line == p.line) && !(scope.names.any fun (n,k)=>n == x && (k == .local || k == .cell))
theorem c4g {elt:Expr} {gs:List Comprehension} {scope:Scope} {p px:Pos} {x:Str} {n:Nat} {env:Env} (hk:env.scope.kind=.function) :
  swapsWith (.ListComp elt gs scope p) (some (.Name x px)) n env=pure (decide (env.scope.names.lookup x=some .local) && (px.line == p.line) && !(scope.names.any fun (n,k)=>n == x && (k == .local || k == .cell))):=by
 have hb:env.blockKind=.function:=by unfold Env.blockKind; rw [hk]; rfl
 have:(env.kindOf x == some .local)=decide (env.scope.names.lookup x=some .local):=by
  rw [Bool.eq_iff_iff]; simp [Env.kindOf]
 unfold swapsWith
 simp only [hb,this]
 rfl
variable {scope:Scope} {own:List Str} {elt tgx iter:Expr} {ifs:List Expr} {it:AW} {tg:Tg} {t:BW} {nn m:Nat} {md':Md}
theorem c2g (G:Good X C n sp) (ht:C.tn i nx=true) (h:CompOk X C n sp scope own elt tgx iter ifs nn m md' it tg t e):∃ te:TE,(∀ σ H Q,lf X.K C.md (a1v nn m it tg t e) σ H Q→te σ H Q)∧PS X.nox (.Assign [.Name nx px] (.ListComp elt [⟨tgx,iter,ifs,0⟩] scope p) pos) (c2u te (a5v i)):=by
 have hsw:swapsWith (.ListComp elt [⟨tgx,iter,ifs,0⟩] scope p) (some (.Name nx px)) pos.line X.env=pure (swC C nx px scope p):=by rw [c4g G.kind,G.sc]; rfl
 obtain ⟨s1,s2,s3⟩:=h.blk G
 cases hb:swC C nx px scope p with
 | false =>
  rw [hb] at hsw
  exact ⟨_,fun σ H Q q=>h.run G q,c5a G ht hsw (b6y G.calm s1 h.it s2 s3)⟩
 | true =>
  rw [hb] at hsw
  have hlo:X.env.scope.names.lookup nx=some .local:=by
   rw [G.sc]
   have hb:=b2 hb
   exact de (b2 hb.1).1
  exact ⟨_,fun σ H Q q=>h.run G q,b4c G.calm s1 G.nd' (G.ix (b2 ht).1) hlo h.it s2 hsw s3⟩
theorem a8l (G:Good X C n sp) (ht:C.tn i nx=true) (hm:a0q C.md i=.imm) (h:CompOk X C n sp scope own elt tgx iter ifs nn m md' it tg t e):FS X C fr (.Assign [.Name nx px] (.ListComp elt [⟨tgx,iter,ifs,0⟩] scope p) pos) (a1e (a1v nn m it tg t e) (.nm i)) :=
 let ⟨te,h1,h2⟩:=c2g G ht h
 c7o hm h1 h2
noncomputable def tupX:Expr→Bool
 | .Tuple ..=>true
 | _=>false
noncomputable def a7q:Expr→Bool
 | .Starred ..=>true
 | _=>false
theorem fs_tup (G:Good X C n sp) {ts:List Expr} (hm:a3l C.md (.tp is)=true) (hn:tupX a=false) (hg:FGs X ts is) (h:FE X C a e):FS X C fr (.Assign [.Tuple ts k p] a pos) (a1e e (.tp is)) :=
 b1u (tg:=.tp is) hm (fun _ _ _ z=>z) (b6p (X:=X.nox) h (c6u G hg) (by cases a <;> rfl) (by cases a <;> first | rfl | (cases hn; done)) rfl)
noncomputable def a9h (sc:List (Str×NameKind)) (t:Expr):Bool:=match t with
 | .Name x _=>!(decide (sc.lookup x=some .local))
 | _=>true
theorem d4k {ts vs:List Expr} {k k2:Nat} {tp tp2:Pos} {env:Env} (h:4≤ts.length ∨ ∃ t∈ts,a9h env.scope.names t=true):swappedStores [.Tuple ts k tp] (.Tuple vs k2 tp2) env=pure none:=by
 unfold swappedStores
 simp only
 split
 ·rfl
 ·rename_i h1
  split
  ·rfl
  ·have hlen:ts.length=2 ∨ ts.length=3:=by
    simp only [Bool.or_eq_true,Bool.not_eq_true',bne_iff_ne,ne_eq,not_or,Bool.not_eq_false] at h1
    simpa using h1.1.1
   obtain ⟨t,ht,hn⟩:∃ t∈ts,a9h env.scope.names t=true:=by
    rcases h with h | h
    ·lia
    ·exact h
   have lt:∀ (l:List Expr) (f:Expr→Option Str),t∈l→f t=none→(l.filterMap f).length < l.length:=by
    intro l f
    induction l with
    | nil=>intro h; cases h
    | cons a r ih =>
     intro hm hf
     have le:=List.length_filterMap_le f r
     rcases List.mem_cons.mp hm with rfl | hm
     ·rw [List.filterMap_cons,hf,List.length_cons]; show (List.filterMap f r).length < _; lia
     ·rw [List.filterMap_cons]
      have:=ih hm hf
      split <;> simp only [List.length_cons] <;> lia
   have:=lt ts (fun
    | .Name id pos=>if env.kindOf id == some .local && pos.line == (ts.head?.map (·.pos.line)).getD 0 then some id else none
    | _=>none) ht (by
     cases t with
     | Name x p =>
      have hx:¬ env.scope.names.lookup x=some .local:=by simpa [a9h] using hn
      have hk:(env.kindOf x == some NameKind.local)=false:=by
       cases hq:(env.kindOf x == some NameKind.local) with
       | false=>rfl
       | true=>exact absurd (show env.kindOf x=some .local by simpa using hq) hx
      simp only [hk,Bool.false_and,Bool.false_eq_true,if_false]
     | _=>rfl)
   rw [if_pos]
   simp only [Bool.or_eq_true,bne_iff_ne,ne_eq]
   left
   exact Nat.ne_of_lt this
theorem d6w (G:Good X C n sp) {ts vs:List Expr} {k2:Nat} {p2:Pos} (hm:a3l C.md (.tp is)=true) (hn:(decide (4≤ts.length) || ts.any fun t=>a9h C.sc t)=true) (hg:FGs X ts is) (h:FE X C (.Tuple vs k2 p2) e):FS X C fr (.Assign [.Tuple ts k p] (.Tuple vs k2 p2) pos) (a1e e (.tp is)) :=
 b1u (tg:=.tp is) hm (fun _ _ _ z=>z) (b6p (X:=X.nox) h (c6u G hg) rfl (d4k (by
  show 4≤ts.length ∨ ∃ t∈ts,a9h X.env.scope.names t=true
  rw [G.sc]
  simpa using hn)) rfl)
theorem c0f {xo xi : Expr} {p : Pos} {env : Env} (h : a4r xi = false) : ∀ v, assign (.Subscript xo xi p) env v = (do
      let ov ← holding [v] (eval xo env)
      let iv ← holding [v, ov] (eval xi env)
      standAt p
      holding [v, ov, iv] (setItem ov iv v)
      release [v, ov, iv] []) := by
  intro v
  cases xi <;> first | rfl | (cases h; done)
theorem fs_ix (G:Good X C n sp) (hn:C.nm i nx=true) (m:a0q C.md i=.own) (hc:(!a7e a && !a4r b)=true) (ha:FE X C a ea) (hb:FE X C b eb):FS X C fr (.Assign [.Subscript (.Name nx px) b p] a pos) (d2i i eb ea):=by
 have hc:=b2 hc
 refine PS.imp (b6p (X:=X.nox) ha (c9l (a4n (pos:=px) G hn) hb c0g (c0f (nb hc.2))) (by simp only [swapsWithSole]; exact a3y (nb hc.1)) rfl rfl) fun D σ H ⟨c,L,S,Q0,I,h,k⟩=>?_
 have mi:a0q C.md i≠.imm:=fun z=>by rw [m] at z; cases z
 obtain ⟨v0,e,h⟩:=wpx h
 obtain ⟨l,e1,_⟩:=I.own i v0 mi ((a4c _ _ _).mp e)
 refine ⟨c,L,S,_,I,h,fun v L1 q x S1 H1 r1 I1 s1=>⟨_,e1,c,L1,S1,_,I1,q,fun w L2 q y S2 H2 r2 I2 s2=>?_⟩⟩
 obtain ⟨v1,e2,q2⟩:=wpx q
 obtain ⟨z,e3,q3⟩:=wpx q2
 have e2:=(a4c _ _ _).mp e2
 obtain ⟨l',f1,⟨o1,ps,us,e9,o2,o3⟩,_⟩:=I2.own i v1 mi e2
 rw [e1] at f1; cases f1
 obtain ⟨xs,g1,e3⟩:=bnd e3
 obtain ⟨nn,g2,e3⟩:=bnd e3
 obtain ⟨pp,g3,rfl⟩:=mpd e3
 cases a7z g1
 cases e9
 obtain rfl:w=.int nn:=by cases w <;> cases g2; rfl
 obtain rfl:y=.int nn:=r2
 refine ⟨l,us,nn,pp,rfl,rfl,o2,by rw [← o3.length]; exact g3,?_⟩
 exact k .next _ q3 σ S2 _ (I2.write m e2 e1 (o3.set pp (r1.mono s2))) (s1.trans s2)
noncomputable def d2a (f:Int→Int→Int):FV→FV→Option FV
 | .int a,.int b=>some (.int (f a b))
 | _,_=>none
theorem c7j {f:Int→Int→Int} {v w z:FV} (h:d2a f v w=some z):∃ a b,v=.int a∧w=.int b∧z=.int (f a b):=by
 cases v <;> cases w <;> cases h
 exact ⟨_,_,rfl,rfl,rfl⟩
theorem d1z {f:Int→Int→Int} (m:a0q C.md i=.imm) (h:PS X.nox st (tAug i (lv X.K C.md e) (ipI f))):FS X C fr st (d2j (d2a f) i e):=PS.imp h fun D σ H ⟨c,L,S,Q0,I,h,k⟩=>by
 obtain ⟨v,e0,h⟩:=wpx h
 obtain ⟨x,e1,r⟩:=I.imm i v m ((a4c _ _ _).mp e0)
 refine ⟨x,e1,c,L,S,_,I,h,fun w L1 q y S1 H1 r1 I1 s1=>?_⟩
 obtain ⟨z,e2,q⟩:=wpx q
 obtain ⟨a,b,rfl,rfl,rfl⟩:=c7j e2
 exact ⟨a,b,r,r1,k .next _ q _ S1 H1 (I1.setI (v:=.int _) m rfl) s1⟩
theorem fs_add (G:Good X C n sp) (ht:C.tn i nx=true) (m:a0q C.md i=.imm) (h:FE X C a e):FS X C fr (.AugAssign (.Name nx px) .Add a pos) (d2j (d2a fun i j=>i + j) i e):=by
 have ht:=b2 ht
 obtain ⟨l1,l2⟩:=G.loc ht.2
 exact d1z m (c9j (X:=X.nox) G.nd' (G.ix ht.1) l1 h d0s l2)
theorem c6s {J:It} {xs:List FV} {D:Ends} {Q0:FFl→a0c→Prop} (I:Iv K c md L σ S H) (hJ:ItR K c md J xs S) (ht:a3l md tg=true) (h:c6t tg s xs L Q0)
  (k:∀ fl L',Q0 fl L'→∀ σ' S' H',Iv K c md L' σ' S' H'→Same S S'→EndQ K c fr D σ' S' H' fl) :
  ∃ W:Nat→Nat→L2.St→Hp→Prop,(∃ m,W 0 m σ H)∧∀ i m σ H,W i m σ H →
   (J.stop i H∧D.nx σ H) ∨ (J.go i H∧∃ N:L2.St→Hp→Prop,(∀ σ' H',N σ' H'→∃ m',m' < m∧W (i + 1) m' σ' H')∧∀ x H',J.yld i H x H'→gT K tg x σ H' fun σ2 H2=>ls K md fr s { D with nx:=N,ct:=N,bk:=D.nx } σ2 H2):=by
 let W:Nat→Nat→L2.St→Hp→Prop:=fun i j σ1 H1=>∃ L S1,j=(xs.drop i).length∧Iv K c md L σ1 S1 H1∧Same S S1∧c6t tg s (xs.drop i) L Q0
 refine ⟨W,⟨_,L,S,rfl,I,Same.refl S,by rw [List.drop_zero]; exact h⟩,?_⟩
 rintro i m σ1 H1 ⟨L,S1,rfl,I,s1,h⟩
 obtain ⟨j1,j2⟩:=hJ i L σ1 S1 H1 I s1
 cases hd:xs.drop i with
 | nil =>
  rw [hd] at h
  exact .inl ⟨j1 (List.getElem?_eq_none_iff.mpr (List.drop_eq_nil_iff.mp hd)),k .next L h σ1 S1 H1 I s1⟩
 | cons p rest =>
  right
  rw [hd] at h
  have hi:xs[i]?=some p:=by
   have:=congrArg (·[0]?) hd
   simpa using this
  have hd':xs.drop (i + 1)=rest:=by
   have:=congrArg List.tail hd
   simpa [List.tail_drop] using this
  obtain ⟨go,yl⟩:=j2 p hi
  refine ⟨go,fun σ' H'=>∃ m',m' < rest.length + 1∧W (i + 1) m' σ' H',fun σ' H' h=>h,fun x H2 y=>?_⟩
  obtain ⟨S2,s2,tr,rx⟩:=yl x H2 y
  have I2:=tr _ _ _ _ I
  obtain ⟨σ2,L2,g,q,I3,_⟩:=a7f ht I2 rx h
  refine g _ ⟨c,L2,S2,_,I3,q,fun fl L3 q σ3 S3 H3 I4 s3=>?_⟩
  have ss:=s1.trans (s2.trans s3)
  cases fl with
  | next=>exact ⟨_,Nat.lt_succ_self _,L3,S3,by rw [hd'],I4,ss,by rw [hd']; exact q⟩
  | cont=>exact ⟨_,Nat.lt_succ_self _,L3,S3,by rw [hd'],I4,ss,by rw [hd']; exact q⟩
  | brk=>exact k .next L3 q σ3 S3 H3 I4 ss
  | ret v=>exact k (.ret v) L3 q σ3 S3 H3 I4 ss
theorem a4e (G:Good X C n sp) {body:List Stmt} (hc:(a3l md' tg && !b7t iter)=true) (hi:FI X C md' tgx iter it) (hg:FG X tgx tg) (hb:Good X (C.wmd md') n sp→FSs X (C.wmd md') fr body s):FS X C fr (.For tgx iter body [] pos) (b6e it tg s):=by
 have hc:=b2 hc
 refine PS.imp (c9i (X:=X.nox) PassesOwn.never G.calm hi hg (hb (G.wmd md')) (b8a (nb hc.2))) fun D σ H ⟨c,L,S,Q0,I,h,k⟩=>?_
 refine ⟨c,L,S,_,I,h,fun xs L1 q J c' S1 H1 I1 un e0 hJ s1=>?_⟩
 refine c6s I1 hJ hc.1 q fun fl L2 q σ2 S2 H2 I2 s2=>?_
 have:=k fl L2 q σ2 S2 H2 (un _ _ _ _ I2) (s1.trans s2)
 cases fl with
 | next=>exact this
 | brk=>exact this
 | cont=>exact this
 | ret v =>
  intro x r
  refine this x ?_
  cases fr with
  | false=>exact r
  | true =>
   obtain ⟨a,r1,r2,r3⟩:=r
   exact ⟨a,r1,r2,by rw [← e0]; exact r3⟩
theorem fs_whl {body:List Stmt} (hc:FB X C a t) (hb:FSs X C fr body s):FS X C fr (.While a body [] pos) (d2g t s):=by
 refine PS.imp (c0r (X:=X.nox) PassesOwn.never hc hb) fun D σ H ⟨c,L,S,Q0,I,⟨m,h⟩,k⟩=>?_
 refine ⟨fun m σ1 H1=>∃ L S1,Iv X.K c C.md L σ1 S1 H1∧Same S S1∧c7w t s m L Q0,⟨m,L,S,I,Same.refl S,h⟩,?_⟩
 rintro m σ1 H1 ⟨L,S1,I1,s1,h⟩
 cases m with
 | zero=>exact h.elim
 | succ m =>
  refine ⟨c,L,S1,_,I1,h,fun v L1 q S2 H2 I2 s2=>?_⟩
  cases v with
  | false =>
   rw [if_neg Bool.false_ne_true] at q ⊢
   exact k .next L1 q σ1 S2 H2 I2 (s1.trans s2)
  | true =>
   rw [if_pos rfl] at q ⊢
   refine ⟨fun σ' H'=>∃ m',m' < m + 1∧∃ L S1,Iv X.K c C.md L σ' S1 H'∧Same S S1∧c7w t s m' L Q0,fun σ' H' h=>h,c,L1,S2,_,I2,q,fun fl L3 q σ3 S3 H3 I4 s3=>?_⟩
   have ss:=s1.trans (s2.trans s3)
   cases fl with
   | next=>exact ⟨m,Nat.lt_succ_self _,L3,S3,I4,ss,q⟩
   | cont=>exact ⟨m,Nat.lt_succ_self _,L3,S3,I4,ss,q⟩
   | brk=>exact k .next L3 q σ3 S3 H3 I4 ss
   | ret v=>exact k (.ret v) L3 q σ3 S3 H3 I4 ss
end
structure Df where
 name:String
 st:Stmt
 ps:List Str
 N:List Str
 md:Md
noncomputable def Df.cc (d:Df) (fns:List Str):CC:=⟨d.N,(a0r d.st).names,fns,d.md,true⟩
noncomputable def d5y (io:Bool) (md:Md) (np:Nat):Bool:=(List.range np).all fun i=>decide (a0q md i=if (io && decide (i=0))=true then .own else .imm)
noncomputable def Df.ok (d:Df) (np ns:Nat) (io:Bool):Bool :=
 decide ((a0r d.st).kind=.function) && !(a0r d.st).isCoroutine && !(a0r d.st).isGenerator && decide (d.N.Nodup) && decide (d.N.take d.ps.length=d.ps) && d.ps.all (fun x=>decide ((a0r d.st).names.lookup x=some .local ∨ (a0r d.st).names.lookup x=some .cell)) &&
 (a0r d.st).names.all (fun p=>decide (p.2≠.free)) && decide (np=d.ps.length) && decide (ns=d.N.length) && d5y io d.md np
noncomputable def spT (K:Γd) (tb:List FD) (call:CW) (f:Nat):Sp:=match tb[f]? with
 | some fd=>spQ K call fd.io fd.fr f
 | none=>fun _ _ _ _=>False
noncomputable def spK (tb:List FD) (call:CW) (K:Γd):Nat→Sp:=spT K tb call
theorem Df.sc {d:Df} {np ns:Nat} {io:Bool} (h:d.ok np ns io=true):FnScope d.N d.ps (a0r d.st)∧np=d.ps.length∧ns=d.N.length∧∀ i,i < np→a0q d.md i=if (io && decide (i=0))=true then .own else .imm:=by
 have h0:=b2 h; have h1:=b2 h0.1; have h2:=b2 h1.1; have h3:=b2 h2.1; have h4:=b2 h3.1; have h5:=b2 h4.1; have h6:=b2 h5.1; have h7:=b2 h6.1; have h8:=b2 h7.1
 exact ⟨⟨de h8.1,nb h8.2,nb h7.2,de h6.2,de h5.2,fun x hx=>de (List.all_eq_true.mp h4.2 x hx),fun y hy=>de (List.all_eq_true.mp h3.2 y hy)⟩,de h2.2,de h1.2,fun i hi=>de (List.all_eq_true.mp h0.2 i (List.mem_range.mpr hi))⟩
section
variable {P:Program} {w:World} {K:Γd} {mg:Str→Option Value} {base:Heap} {tb:List FD} {fns:List Str}
theorem ArgsOk.len {S H:Hp} {args:List FV} {vs:List V} {io:Bool} (h:ArgsOk K S H args vs io):args.length=vs.length:=by
 cases io with
 | false=>exact RVs.length h
 | true =>
  obtain ⟨v,r,a,us,rfl,rfl,_,h⟩:=h
  rw [List.length_cons,List.length_cons,h.length]
theorem c1j {S H:Hp} {args:List FV} {vs:List V} {io:Bool} {md:Md} {N:List Str} {np ns:Nat} (h:ArgsOk K S H args vs io) (hs:Same S H) (hn:args.length=np) (hN:ns=N.length) (hm:∀ i,i < np→a0q md i=if (io && decide (i=0))=true then .own else .imm) :
  Iv K ⟨H,S,b2z vs io,[],[]⟩ md (args.map some++List.replicate (ns - np) none) (L2.start N vs) S H:=by
 have hl:=h.len
 have look:∀ i v,(args.map some++List.replicate (ns - np) none)[i]?=some (some v)→args[i]?=some v∧i < np:=fun i v e=>by
  by_cases hi:i < args.length
  ·rw [List.getElem?_append_left (by rw [List.length_map]; exact hi),List.getElem?_map] at e
   cases ea:args[i]? with
   | none=>rw [ea] at e; cases e
   | some q=>rw [ea] at e; cases e; exact ⟨rfl,by lia⟩
  ·rw [List.getElem?_append_right (by rw [List.length_map]; lia),List.getElem?_replicate] at e
   split at e <;> cases e
 have st:∀ i,i < np→(L2.start N vs)[i]?=vs[i]?.map some:=fun i hi=>by
  unfold L2.start
  rw [List.getElem?_append_left (by rw [List.length_map]; lia),List.getElem?_map]
 have own:∀ i v,a0q md i≠.imm→(args.map some++List.replicate (ns - np) none)[i]?=some (some v)→i=0∧io=true∧a0q md 0=.own:=fun i v hm' e=>by
  obtain ⟨_,hi⟩:=look i v e
  have:=hm i hi
  cases io with
  | false=>exact absurd (by simpa using this) hm'
  | true =>
   by_cases h0:i=0
   ·subst h0; exact ⟨rfl,rfl,by simpa using this⟩
   ·exact absurd (by simpa [h0] using this) hm'
 have lent:∀ a,b2z vs io=some a→io=true∧0 < np∧a0q md 0=.own∧vs[0]?=some (.ref a)∧∃ v,args[0]?=some v∧a3n K S H a v:=fun a e=>by
  cases io with
  | false=>cases e
  | true =>
   obtain ⟨v,r,a',us,rfl,rfl,o,_⟩:=h
   cases e
   have hp:0 < np:=by rw [← hn]; exact Nat.succ_pos _
   exact ⟨rfl,hp,by simpa using hm 0 hp,rfl,v,rfl,o⟩
 refine ⟨?_,fun i v hm' e=>?_,fun i v hm' e=>?_,fun i j v w a m1 m2 e1 e2 _ _=>?_,hs,fun a o e _=>e,Same.refl S,fun a o e=>.inl e,fun a e=>?_,fun p hp=>absurd hp List.not_mem_nil,fun i v hf e=>?_,fun p hp=>absurd hp List.not_mem_nil,fun p hp=>absurd hp List.not_mem_nil,fun p hp=>absurd hp List.not_mem_nil⟩
 ·unfold L2.start
  rw [List.length_append,List.length_append,List.length_map,List.length_map,List.length_replicate,List.length_replicate,hN]
  lia
 ·obtain ⟨ea,hi⟩:=look i v e
  rw [st i hi]
  cases io with
  | false =>
   obtain ⟨x,e1,r⟩:=RVs.get (show RVs K S args vs from h) ea
   exact ⟨x,by rw [e1]; rfl,r⟩
  | true =>
   obtain ⟨v0,r,a',us,rfl,rfl,o,hr⟩:=h
   cases i with
   | zero=>rw [show a0q md 0=.own by simpa using hm 0 hi] at hm'; cases hm'
   | succ i =>
    obtain ⟨x,e1,r1⟩:=RVs.get hr (by simpa using ea)
    exact ⟨x,by simp [e1],r1⟩
 ·obtain ⟨rfl,rfl,m0⟩:=own i v hm' e
  obtain ⟨ea,hi⟩:=look 0 v e
  obtain ⟨v0,r,a',us,rfl,rfl,o,hr⟩:=h
  cases ea
  exact ⟨a',by rw [st 0 hi]; rfl,o,.inl rfl⟩
 ·rw [(own i v m1 e1).1,(own j w m2 e2).1]
 ·obtain ⟨rfl,hp,m0,e1,v,ea,_⟩:=lent a e
  refine ⟨fun z=>(nomatch (m0.symm.trans z)),by rw [st 0 hp,e1]; rfl,v,?_⟩
  rw [List.getElem?_append_left (by rw [List.length_map]; lia),List.getElem?_map,ea]; rfl
 ·have:=own i v (fun z=>by rw [z] at hf; cases hf) e
  rw [this.1,this.2.2] at hf; cases hf
theorem b8c {d f:Nat} {fa:Addr} {fdd:FuncData} {df:Df} {fd:FD} (F:Fun K (Γe df.name) (Γe df.name) df.st fa fdd) (hf:tb[f]?=some fd) (hok:df.ok fd.np fd.ns fd.io=true)
  (hb:∀ X call n,Good X (df.cc fns) n (spK tb call)→FSs X (df.cc fns) fd.fr (a2f df.st) (fd.body call))
  (fnsOk:∀ (f:Nat) (x:Str),fns[f]?=some x→∃ fa fd ps,mg x=some (.ref fa)∧PySem.W.keepIn K (.ref fa)=true∧Binds K fd ps []∧FnOk P w K mg base CX0 d fa fd ps (spT K tb (callW tb d) f))
  (blt:∀ b∈bltNames,mg (Γe b)=none):FnOk P w K mg base CX0 (d + 1) fa fdd df.ps (spT K tb (callW tb (d + 1)) f):=by
 obtain ⟨S,hnp,hns,hmd⟩:=Df.sc hok
 have e0:spT K tb (callW tb (d + 1)) f=spQ K (callW tb (d + 1)) fd.io fd.fr f:=by unfold spT; rw [hf]
 have run:∀ {args:List FV} {Q:FV×FV→Prop},callW tb (d + 1) f args Q→args.length=fd.np∧fd.body (callW tb d) (args.map some++List.replicate (fd.ns - fd.np) none) (b9q fd.io fd.fr Q):=fun {args Q} h=>by
  have h:(match tb[f]? with
   | none=>False
   | some fd=>args.length=fd.np∧fd.body (callW tb d) (args.map some++List.replicate (fd.ns - fd.np) none) (b9q fd.io fd.fr Q)):=h
  rw [hf] at h; exact h
 rw [e0]
 refine F.ok S (fun vs H Q E h=>?_) (fun cdv A outer s H vs Q E hr h=>?_)
 ·obtain ⟨S0,args,Q0,_,ao,hc,_⟩:=h
  rw [← ao.len,(run hc).1,hnp]
 ·obtain ⟨S0,args,Q0,hs,ao,hc,k⟩:=h
  obtain ⟨hl,hc⟩:=run hc
  have G:Good (c7d CX0 P w K mg base df.N (Γe df.name) (a0r df.st) fa cdv A outer s H E) (df.cc fns) d (spK tb (callW tb d)) :=
   ⟨rfl,rfl,S.kind,S.nd,rfl,fun _ _=>rfl,hr,fnsOk,blt⟩
  refine ⟨_,hb _ _ _ G,_,_,S0,_,c1j ao hs hl hns hmd,hc,fun fl L' q σ' S' H' I s'=>?_⟩
  have kp:∀ w,(fd.io=true→lk L' 0=some w)→Kept K S0 H S' H' (b2z vs fd.io) w:=fun w hw=>⟨s',I.sub,I.grow,fun a o e n=>I.frame a o e n,fun a e=>by
   have hio:fd.io=true:=by
    cases z:fd.io with
    | true=>rfl
    | false=>rw [z] at e; cases e
   obtain ⟨m0,e1,v,e2⟩:=I.lent a e
   obtain ⟨b,e3,o,_⟩:=I.own 0 v m0 e2
   rw [e1] at e3; cases e3
   have:=(a4c _ _ _).mp (hw hio)
   rw [e2] at this; cases this
   exact o⟩
  have fin:∀ v x,b9q fd.io fd.fr Q0 (.ret v) L'→c7u K S' H' H v x fd.fr→Q x H':=fun v x q r=>by
   cases hio:fd.io with
   | true =>
    rw [hio] at q
    obtain ⟨w,e1,q⟩:=wpx q
    exact k _ q x S' H' (kp w fun _=>e1) r
   | false =>
    rw [hio] at q
    exact k (v,.non) q x S' H' (kp .non fun z=>by rw [hio] at z; cases z) r
  cases fl with
  | next =>
   cases hfr:fd.fr with
   | true=>rw [hfr] at q; exact q.elim
   | false=>rw [hfr] at q; exact fin .non .non (by rw [hfr]; exact q) (by rw [hfr]; exact rfl)
  | ret v =>
   intro x r
   refine fin v x q ?_
   cases hfr:fd.fr with
   | true=>rw [hfr] at r; exact r
   | false=>rw [hfr] at r; exact r
  | brk=>exact q.elim
  | cont=>exact q.elim
theorem b9k (blt:∀ b∈bltNames,mg (Γe b)=none)
  (D:∀ (f:Nat) (x:Str),fns[f]?=some x→∃ df fd fa fdd,tb[f]?=some fd∧Df.ok df fd.np fd.ns fd.io=true∧(∀ X call n,Good X (df.cc fns) n (spK tb call)→FSs X (df.cc fns) fd.fr (a2f df.st) (fd.body call))∧Fun K (Γe df.name) (Γe df.name) df.st fa fdd∧mg x=some (.ref fa)∧Binds K fdd df.ps []) :
  ∀ (d f:Nat) (x:Str),fns[f]?=some x→∃ fa fd ps,mg x=some (.ref fa)∧PySem.W.keepIn K (.ref fa)=true∧Binds K fd ps []∧FnOk P w K mg base CX0 d fa fd ps (spT K tb (callW tb d) f)
 | 0,f,x,h=>by
  obtain ⟨df,fd,fa,fdd,h1,h2,h6,h3,h4,h5⟩:=D f x h
  have no:∀ vs H Q E,¬ spT K tb (callW tb 0) f vs H Q E:=fun vs H Q E z=>by
   unfold spT at z
   rw [h1] at z
   obtain ⟨_,_,_,_,_,k,_⟩:=z
   exact k
  exact ⟨fa,fdd,df.ps,h4,h3.kp,h5,fun vs H Q E z=>absurd z (no vs H Q E),fun A outer s H args us vs Q E _ _ _ _ z=>absurd z (no vs H Q E)⟩
 | d + 1,f,x,h=>by
  obtain ⟨df,fd,fa,fdd,h1,h2,h6,h3,h4,h5⟩:=D f x h
  exact ⟨fa,fdd,df.ps,h4,h3.kp,h5,b8c h3 h1 h2 h6 (b9k blt D d) blt⟩
theorem law_sp {d f:Nat} {H:Hp} {a:Addr} {ns:List Int} {fd:FD} (hf:tb[f]?=some fd) (hio:fd.io=false) (hfr:fd.fr=false) (hO:d2f H) (hS:SqL K H a (ns.map V.int)) (h:callW tb d f [.scr ns] fun z=>z.1=.bl true) :
  spT K tb (callW tb d) f [.ref a] H (fun v _=>v=.bl true) fun _ _ _=>False:=by
 have e0:spT K tb (callW tb d) f=spQ K (callW tb d) false false f:=by unfold spT; rw [hf]; show spQ K (callW tb d) fd.io fd.fr f=_; rw [hio,hfr]
 rw [e0]
 refine ⟨H,[.scr ns],_,Same.refl H,RVs.one ⟨a,rfl,?_⟩,h,fun z e x S' H' _ r=>?_⟩
 ·rcases hS with (h | ⟨o,h⟩) | h
  ·rcases hO a with z | ⟨o,xs,z⟩
   ·rw [z] at h; cases h
   ·rw [z] at h; cases h
  ·exact .inl ⟨o,h⟩
  ·exact .inr (.inr h)
 ·have r:RV K S' z.1 x:=r
  rw [e] at r; exact r
end
noncomputable def EachI {α:Type} (P:Nat→α→Prop):Nat→List α→Prop
 | _,[]=>True
 | i,x :: xs=>P i x∧EachI P (i + 1) xs
theorem EachI.get {α:Type} {P:Nat→α→Prop}:∀ {xs:List α} {k:Nat},EachI P k xs→∀ (f:Nat) (x:α),xs[f]?=some x→P (k + f) x
 | _ :: _,_,h,0,x,e=>(Option.some.inj e) ▸ h.1
 | _ :: xs,k,h,f + 1,x,e=>by
  have:=EachI.get h.2 f x e
  rw [Nat.add_assoc,Nat.add_comm 1 f] at this
  exact this
theorem us1 {P:List Value→Prop} {us:List Value} (h:us.length=1) (H:∀ a,P [a]):P us:=match us,h with | [_],_=>H _
theorem us2 {P:List Value→Prop} {us:List Value} (h:us.length=2) (H:∀ a b,P [a,b]):P us:=match us,h with | [_,_],_=>H _ _
theorem us3 {P:List Value→Prop} {us:List Value} (h:us.length=3) (H:∀ a b c,P [a,b,c]):P us:=match us,h with | [_,_,_],_=>H _ _ _
theorem us4 {P:List Value→Prop} {us:List Value} (h:us.length=4) (H:∀ a b c d,P [a,b,c,d]):P us:=match us,h with | [_,_,_,_],_=>H _ _ _ _
theorem us5 {P:List Value→Prop} {us:List Value} (h:us.length=5) (H:∀ a b c d e,P [a,b,c,d,e]):P us:=match us,h with | [_,_,_,_,_],_=>H _ _ _ _ _
theorem us6 {P:List Value→Prop} {us:List Value} (h:us.length=6) (H:∀ a b c d e f,P [a,b,c,d,e,f]):P us:=match us,h with | [_,_,_,_,_,_],_=>H _ _ _ _ _ _
end Kq
end
section
namespace Kq
open PySem PySem.Spec PySem.Calls PyProof.Rows L2 PySem.W
theorem a8a:∀ {K:Frag} {a:Addr} {o:Obj},K.lookup a=some o→(a,o)∈K
 | [],a,o,h=>by simp at h
 | (b,u) :: K,a,o,h=>by
  rw [List.lookup_cons] at h
  split at h
  ·rename_i e; cases h; rw [beq_iff_eq.mp e]; exact List.mem_cons_self
  ·exact List.mem_cons_of_mem _ (a8a h)
theorem b7i {K:Frag} {a:Addr} {o:Obj} (h:(a,o)∈K):∃ u,K.lookup a=some u:=by
 induction K with
 | nil=>exact absurd h List.not_mem_nil
 | cons p K ih =>
  obtain ⟨b,u⟩:=p
  rw [List.lookup_cons]
  split
  ·exact ⟨_,rfl⟩
  ·rename_i e
   rcases List.mem_cons.mp h with z | z
   ·rw [(Prod.mk.inj z).1,beq_self_eq_true] at e; cases e
   ·exact ih z
noncomputable def AllIn (K:Frag) (h:Heap):Prop:=∀ p∈K,h.get? p.1=some p.2
theorem AllIn.to {K:Frag} {h:Heap} (x:AllIn K h):K.In h:=fun a o e=>x _ (a8a e)
theorem AllIn.look {K:Frag} {h:Heap} (x:AllIn K h) {a:Addr} {o:Obj} (m:(a,o)∈K):K.lookup a=some o:=by
 obtain ⟨u,e⟩:=b7i m
 have h1:=x _ (a8a e)
 rw [show h.get? a=some o from x _ m] at h1
 cases h1; exact e
noncomputable def CIn (K:Frag) (cd:Value) (q:Str):Prop:=∃ c oc vs t,cd=.ref c∧(c,oc)∈K∧oc.data=.fields vs∧vs[1]?=some (.str q t)
noncomputable def DIn (K:Frag) (mg:Str→Option Value) (d:DefRec):Prop:=∃ fa o pm cd doc,mg d.name=some (.ref fa)∧(fa,o)∈K∧o.data=.func (docDef d.name d.params d.body d.scope pm cd doc)∧CIn K cd d.name
theorem DIn.more {K K':Frag} {mg:Str→Option Value} {d:DefRec} (s:∀ p∈K,p∈K') (x:DIn K mg d):DIn K' mg d:=by
 obtain ⟨fa,o,pm,cd,doc,h1,h2,h3,c,oc,vs,t,h4,h5,h6⟩:=x
 exact ⟨fa,o,pm,cd,doc,h1,s _ h2,h3,c,oc,vs,t,h4,s _ h5,h6⟩
theorem b8m {q:Program} {loose:List Str} {mean:ExcName→Option Value} {mg mb:Str→Option Value} {h:Heap} (T:Top q loose mean mg mb h):∀ ds:List DefRec,(∀ d∈ds,d∈recsOf q)→∃ K:Frag,AllIn K h∧∀ d∈ds,DIn K mg d
 | [],_=>⟨[],fun _ m=>absurd m List.not_mem_nil,fun _ m=>absurd m List.not_mem_nil⟩
 | d :: ds,hm=>by
  obtain ⟨K,h1,h2⟩:=b8m T ds fun e m=>hm e (List.mem_cons_of_mem _ m)
  obtain ⟨a,o,pm,cd,doc,g1,g2,g3,c,oc,vs,t,g4,g5,g6⟩:=T.fn d (hm d List.mem_cons_self)
  refine ⟨(a,o) :: (c,oc) :: K,fun p m=>?_,fun e m=>?_⟩
  ·rcases List.mem_cons.mp m with z | z
   ·cases z; exact g2
   ·rcases List.mem_cons.mp z with z | z
    ·cases z; exact g5
    ·exact h1 p z
  ·rcases List.mem_cons.mp m with z | z
   ·cases z
    exact ⟨a,o,pm,cd,doc,g1,List.mem_cons_self,g3,c,oc,vs,t,g4,List.mem_cons_of_mem _ List.mem_cons_self,g6⟩
   ·exact (h2 e z).more fun p m=>List.mem_cons_of_mem _ (List.mem_cons_of_mem _ m)
theorem DIn.fn {K:Frag} {h:Heap} (A:AllIn K h) {mg:Str→Option Value} {x:Str} {st:Stmt} {pos:Pos} (D:DIn K mg ⟨x,a4t st,a2f st,a0r st,pos⟩):∃ fa fd,mg x=some (.ref fa)∧Fun K x x st fa fd:=by
 obtain ⟨fa,o,pm,cd,doc,h1,h2,h3,c,oc,vs,t,rfl,h5,h6,h7⟩:=D
 have l:=A.look h2
 have lc:=A.look h5
 obtain ⟨k1,k2,k3,k4⟩:=o
 obtain ⟨j1,j2,j3,j4⟩:=oc
 cases h3; cases h6
 refine ⟨fa,_,h1,d0u (kV:=.none) (doc:=doc) (pm:=pm) (an:=none) (cdv:=.ref c) (ct:=.none) l ?_ ?_⟩
 ·show (match K.lookup c with | some ⟨_,_,.fields vs,_⟩=>_ | _=>_)=true
  rw [lc]
  obtain ⟨l⟩:=vs
  match l,h7 with
  | [],h7=>simp at h7
  | [a],h7=>simp at h7
  | a :: b :: r,h7 =>
   simp at h7; subst h7
   exact beq_self_eq_true _
 ·show (match K.lookup fa with | some ⟨_,_,.func _,_⟩=>true | some ⟨_,_,.cls _,_⟩=>_ | _=>false)=true
  rw [l]
noncomputable def d1l:Stmt→Pos
 | .FunctionDef _ _ _ _ _ _ _ _ _ p=>p
 | _=>⟨0,0,0,0⟩
noncomputable def d6m:Stmt→Bool
 | .FunctionDef ..=>true
 | _=>false
noncomputable def c8a (p:Program):Program:={ p with main:={ p.main with body:=p.main.body.filter d6m } }
noncomputable def freeIn (q:Program) (loose:List Str) (x:Str):Bool:=!startupNames.contains x && !loose.contains x && !((recsOf q).map (·.name)).contains x && !((litsOf q).map (·.1)).contains x && !((clssOf q loose).map (·.name)).contains x
theorem c6r {q:Program} {loose:List Str} {mean:ExcName→Option Value} {mg mb:Str→Option Value} {h:Heap} (T:Top q loose mean mg mb h) {x:Str} (e:freeIn q loose x=true):mg x=none:=by
 unfold freeIn at e
 simp only [Bool.and_eq_true,Bool.not_eq_true',List.contains_eq_mem,decide_eq_false_iff_not] at e
 exact T.free x e.1.1.1.1 e.1.1.1.2 e.1.1.2 e.1.2 e.2
theorem walk2 {l:OpenLaw} {n k:Nat} {q:Program} {XP:(Str→Option Value)→Heap→Prop} {YP:World→Heap→Prop} {d:DefRec} {ds:List DefRec} {x:Str} {sp:Frag→Sp}
  (hn:l.most=some n) (hn2:n≤sizeLine) (hdf:d.params.defaults=[]) (hr:Room k callerA) (hds:ds=recsOf q) (hfree:(bltNames.all fun b=>freeIn q (looseW q []) (Γe b))=true)
  (F:∀ (w:World) (K:Frag) (mg:Str→Option Value) (fa:Addr) (h:Heap),AllIn K h→(∀ d∈ds,DIn K mg d)→(∀ b∈bltNames,mg (Γe b)=none)→mg d.name=some (.ref fa) →
   ∃ fd:FuncData,(∀ (s:Shared) (u:Value),BindsTo s fd ⟨[u],[]⟩ [(x,u)])∧∀ base:Heap,FnOk l.prog w K mg base CX0 k fa fd [x] (sp K))
  (hsp:∀ (K:Frag) (H:Hp) (a:Addr) (ns:List Int),ns.length≤n→d2f H→SqL K H a (ns.map V.int)→sp K [.ref a] H (fun v _=>v=.bl true) fun _ _ _=>False) :
  WalkO q [] XP YP l.row.toRowW d [] (fun f vs=>PySem.call f vs):=by
 refine Att.attach_call hn hdf fun w s₀ s₁ mg mb fa o pm cd doc a vs ns G Y ho hd hcd hmg hobj hints hlen hg=>?_
 obtain ⟨K,hK,hD⟩:=b8m G.T ds fun d m=>hds ▸ m
 obtain ⟨fd,hb,hF⟩:=F w K mg fa _ hK hD (fun b hb=>c6r G.T (List.all_eq_true.mp hfree b hb)) hmg
 exact b3b hK.to G.T.g G.T.b G.T.builtins G.T.nolimit hg hobj hints (Nat.le_trans hlen hn2) hr (fun base _ _=>hF base) hb (fun H hO hS=>hsp K H a ns hlen hO hS) fun H e s' z=>z
theorem row_holds {l:OpenLaw} {q:Program} {d:DefRec} {N:Nat} (said:l.wellSaid=true) (left:LeftO l.prog q [] (fun s=>xlAt q [] s && recOk (RowW.records l.row.toRowW) s) (fun _=>()) (fun _=>()) N)
  (hdef:defOf q l.name=some (d,[])) (hp:l.prog.theDef l.name=some (d.params,d.body,d.scope)) (hk:kwWritten? d.params.kwonlyargs d.params.kw_defaults=some []) (hwr:(!l.writes || l.row.records.isEmpty)=true)
  (ok:(chainsOk q && opensWell l.prog && (frees l.row.toRowW && l.row.within.isEmpty))=true) (hb:l.prog.bare) (hw:l.row.toRowW.promised)
  (call:WalkO q [] (XL q []) (fun _ _=>True) l.row.toRowW d [] fun f vs=>PySem.call f vs):l.Holds :=
 holds_law said fun k1=>holds_open (r:=l.row) left (fun _ _ _=>trivial) (fun _ _ _ _ _=>trivial) (fun s e=>xl_of s (Bool.and_eq_true_iff.mp e).1) XL.keeps hdef hp hk (fun s e=>recFacts_of (Bool.and_eq_true_iff.mp e).2) hwr k1 ok hb hw call
end Kq
end
set_option maxHeartbeats 1000000
section
namespace Kq
@[scoped simp ↓] theorem a1w {α:Type} (x:α) (Q:α→Prop):wp (some x) Q=Q x:=propext Iff.rfl
@[scoped simp ↓] theorem d3x {α:Type} (Q:α→Prop):wp (none:Option α) Q=False:=propext Iff.rfl
theorem a3a {α β:Type} (r:Option α) (f:α→Option β) (Q:β→Prop):wp (r.bind f) Q↔wp r (fun x=>wp (f x) Q):=by cases r <;> rfl
@[scoped simp ↓] theorem a2l {α β:Type} (r:Option α) (f:α→β) (Q:β→Prop):wp (r.map f) Q↔wp r (fun x=>Q (f x)):=by cases r <;> rfl
@[scoped simp ↓] theorem a3v {α:Type} (c:Prop) [Decidable c] (a:α) (Q:α→Prop):wp (if c then some a else none) Q↔c∧Q a:=by
 by_cases h:c <;> simp [h]
@[scoped simp ↓] theorem d9b (i:Nat) (L:a0c) (Q:FV→a0c→Prop):a0b i L Q=(wp (lk L i) fun x=>Q x L):=propext Iff.rfl
@[scoped simp ↓] theorem eC_eq (v:FV) (L:a0c) (Q:FV→a0c→Prop):eC v L Q=(Q v L):=propext Iff.rfl
@[scoped simp ↓] theorem eUn_eq (f:FV→Option FV) (a:EW) (L:a0c) (Q:FV→a0c→Prop):eUn f a L Q=(a L fun x L1=>wp (f x) fun z=>Q z L1):=propext Iff.rfl
@[scoped simp ↓] theorem eOp_eq (f:FV→FV→Option FV) (a b:EW) (L:a0c) (Q:FV→a0c→Prop):eOp f a b L Q=(a L fun x L1=>b L1 fun y L2=>wp (f x y) fun z=>Q z L2):=propext Iff.rfl
@[scoped simp ↓] theorem d9e (f:FV→FV→Option FV) (i:Nat) (b:EW) (L:a0c) (Q:FV→a0c→Prop):c1z f i b L Q=(wp (lk L i) fun _=>b L fun y L1=>wp (lk L1 i) fun x=>wp (f x y) fun z=>Q z L1):=propext Iff.rfl
@[scoped simp ↓] theorem d1f (f g:FV→FV→Option FV) (a b c:EW) (L:a0c) (Q:FV→a0c→Prop):a9y f g a b c L Q=(a L fun x L1=>b L1 fun y L2=>wp (f x y) fun r=>wp (blF r) fun r=>if r=true then c L2 fun z L3=>wp (g y z) fun q=>Q q L3 else Q (.bl false) L2):=propext Iff.rfl
@[scoped simp ↓] theorem d9g (a b:EW) (L:a0c) (Q:FV→a0c→Prop):c3s a b L Q=(a L fun x L1=>wp (b9n x) fun r=>if r=true then b L1 Q else Q x L1):=propext Iff.rfl
@[scoped simp ↓] theorem eIf_eq (c:BW) (a b:EW) (L:a0c) (Q:FV→a0c→Prop):eIf c a b L Q=(c L fun r L1=>if r=true then a L1 Q else b L1 Q):=propext Iff.rfl
@[scoped simp ↓] theorem e0h (a:EW) (L:a0c) (Q:Bool→a0c→Prop):a1i a L Q=(a L fun x L1=>wp (b9n x) fun b=>Q b L1):=propext Iff.rfl
@[scoped simp ↓] theorem e0j (a b:BW) (L:a0c) (Q:Bool→a0c→Prop):d1y a b L Q=(a L fun r L1=>if r=true then b L1 Q else Q false L1):=propext Iff.rfl
@[scoped simp ↓] theorem bOr_eq (a b:BW) (L:a0c) (Q:Bool→a0c→Prop):bOr a b L Q=(a L fun r L1=>if r=true then Q true L1 else b L1 Q):=propext Iff.rfl
@[scoped simp ↓] theorem e0i (a:BW) (L:a0c) (Q:Bool→a0c→Prop):b0n a L Q=(a L fun r L1=>Q (!r) L1):=propext Iff.rfl
@[scoped simp ↓] theorem d3u (L:a0c) (Q:Bool→a0c→Prop):a1q  L Q=(Q true L):=propext Iff.rfl
@[scoped simp ↓] theorem e0l (L:a0c) (Q:List FV→a0c→Prop):a0h  L Q=(Q [] L):=propext Iff.rfl
@[scoped simp ↓] theorem d3v (a:EW) (r:AW) (L:a0c) (Q:List FV→a0c→Prop):a0a a r L Q=(a L fun x L1=>r L1 fun xs L2=>Q (x :: xs) L2):=propext Iff.rfl
@[scoped simp ↓] theorem d9c (a:AW) (L:a0c) (Q:FV→a0c→Prop):a3f a L Q=(a L fun xs L1=>xs.length≤big∧Q (.tup xs) L1):=propext Iff.rfl
@[scoped simp ↓] theorem d9f (a:AW) (L:a0c) (Q:FV→a0c→Prop):a5a a L Q=(a L fun xs L1=>xs.length≤big∧Q (.lst xs) L1):=propext Iff.rfl
@[scoped simp ↓] theorem d2n (L:a0c) (Q:Option Int→a0c→Prop):a4p  L Q=(Q none L):=propext Iff.rfl
@[scoped simp ↓] theorem d2m (a:EW) (L:a0c) (Q:Option Int→a0c→Prop):a3e a L Q=(a L fun x L1=>wp (a3o x) fun i=>Q (some i) L1):=propext Iff.rfl
@[scoped simp ↓] theorem eSl_eq (a:EW) (l h:OW) (L:a0c) (Q:FV→a0c→Prop):eSl a l h L Q=(a L fun x L1=>l L1 fun i L2=>h L2 fun j L3=>wp (a5j x i j) fun z=>Q z L3):=propext Iff.rfl
@[scoped simp ↓] theorem d3j (call:CW) (f:Nat) (a:AW) (L:a0c) (Q:FV→a0c→Prop):a0v call f a L Q=(a L fun xs L1=>call f xs fun z=>Q z.1 L1):=propext Iff.rfl
@[scoped simp ↓] theorem d1g (call:CW) (f i:Nat) (a:AW) (L:a0c) (Q:FV→a0c→Prop):a0i call f i a L Q=(wp (lk L i) fun _=>a L fun xs L1=>wp (lk L1 i) fun x=>call f (x :: xs) fun z=>Q z.1 (L1.set i (some z.2))):=propext Iff.rfl
@[scoped simp ↓] theorem d3h (f:FV→FV→Option FV) (i:Nat) (a:EW) (L:a0c) (Q:FV→a0c→Prop):b8h f i a L Q=(wp (lk L i) fun v=>wp (a8u v) fun _=>a L fun y L1=>wp (lk L1 i) fun x=>wp (f x y) fun z=>Q .non (L1.set i (some z))):=propext Iff.rfl
@[scoped simp ↓] theorem d6p (a:EW) (L:a0c) (Q:List FV→a0c→Prop):b9p a L Q=(a L fun x L1=>wp (a3b x) fun xs=>Q xs L1):=propext Iff.rfl
@[scoped simp ↓] theorem d6q (a:EW) (L:a0c) (Q:List FV→a0c→Prop):b3d a L Q=(a L fun x L1=>wp (a3o x) fun j=>a1a j=true∧Q (upF 0 j.toNat) L1):=propext Iff.rfl
@[scoped simp ↓] theorem d2q (a b:EW) (L:a0c) (Q:List FV→a0c→Prop):iRng2 a b L Q=(a L fun x L1=>b L1 fun y L2=>wp (a3o x) fun i=>wp (a3o y) fun j=>(a1a i && a1a j)=true∧Q (upF i (j - i).toNat) L2):=propext Iff.rfl
@[scoped simp ↓] theorem d6o (a b:EW) (L:a0c) (Q:List FV→a0c→Prop):c3p a b L Q=(a L fun x L1=>b L1 fun y L2=>wp (a3b x) fun xs=>wp (a3b y) fun ys=>Q (a3p xs ys) L2):=propext Iff.rfl
@[scoped simp ↓] theorem d2s (a:EW) (L:a0c) (Q:List FV→a0c→Prop):c1m a L Q=(a L fun x L1=>wp (a3b x) fun xs=>Q (a3p (upF 0 xs.length) xs) L1):=propext Iff.rfl
@[scoped simp ↓] theorem d3i (n m:Nat) (it:AW) (tg:Tg) (t:BW) (e:EW) (L:a0c) (Q:FV→a0c→Prop):a1v n m it tg t e L Q=(it L fun xs L1=>L1.length=n∧xs.length≤big∧a5c n m tg t e xs [] L1 fun ys L2=>Q (.lst ys) L2):=propext Iff.rfl
@[scoped simp ↓] theorem d4v (L:a0c) (Q:FFl→a0c→Prop):a3t  L Q=(Q .next L):=propext Iff.rfl
@[scoped simp ↓] theorem d4t (s r:SW) (L:a0c) (Q:FFl→a0c→Prop):a0t s r L Q=(s L (aft (fun L1=>r L1 Q) Q)):=propext Iff.rfl
@[scoped simp ↓] theorem d5a (e:EW) (tg:Tg) (L:a0c) (Q:FFl→a0c→Prop):a1e e tg L Q=(e L fun x L1=>gW tg x L1 fun L2=>Q .next L2):=propext Iff.rfl
@[scoped simp ↓] theorem d4s (k:Nat) (i e:EW) (L:a0c) (Q:FFl→a0c→Prop):d2i k i e L Q=(wp (lk L k) fun _=>e L fun x L1=>i L1 fun j L2=>wp (lk L2 k) fun y=>wp (d4p y j x) fun z=>Q .next (L2.set k (some z))):=propext Iff.rfl
@[scoped simp ↓] theorem d4z (f:FV→FV→Option FV) (i:Nat) (e:EW) (L:a0c) (Q:FFl→a0c→Prop):d2j f i e L Q=(wp (lk L i) fun a=>e L fun x L1=>wp (f a x) fun z=>Q .next (L1.set i (some z))):=propext Iff.rfl
@[scoped simp ↓] theorem d4u (e:EW) (L:a0c) (Q:FFl→a0c→Prop):a1j e L Q=(e L fun x L1=>Q (.ret x) L1):=propext Iff.rfl
@[scoped simp ↓] theorem d4x (e:EW) (L:a0c) (Q:FFl→a0c→Prop):c8s e L Q=(e L fun _ L1=>Q .next L1):=propext Iff.rfl
@[scoped simp ↓] theorem sIf_eq (c:BW) (a b:SW) (L:a0c) (Q:FFl→a0c→Prop):sIf c a b L Q=(c L fun r L1=>if r=true then a L1 Q else b L1 Q):=propext Iff.rfl
@[scoped simp ↓] theorem d4w (it:AW) (tg:Tg) (b:SW) (L:a0c) (Q:FFl→a0c→Prop):b6e it tg b L Q=(it L fun xs L1=>c6t tg b xs L1 Q):=propext Iff.rfl
@[scoped simp ↓] theorem d4r (c:BW) (b:SW) (L:a0c) (Q:FFl→a0c→Prop):d2g c b L Q=(∃ n,c7w c b n L Q):=propext Iff.rfl
@[scoped simp ↓] theorem lk_z (x:Option FV) (L:a0c) (Q:FV→Prop):wp (lk (x :: L) 0) Q=wp x Q:=propext Iff.rfl
@[scoped simp ↓] theorem lk_s (x:Option FV) (L:a0c) (n:Nat) (Q:FV→Prop):wp (lk (x :: L) (n + 1)) Q=wp (lk L n) Q:=propext Iff.rfl
@[scoped simp ↓] theorem gw_nm (i:Nat) (v:FV) (L:a0c) (Q:a0c→Prop):gW (.nm i) v L Q=Q (L.set i (some v)):=propext Iff.rfl
@[scoped simp ↓] theorem gw_tp (is:List Nat) (v:FV) (L:a0c) (Q:a0c→Prop):gW (.tp is) v L Q=wp (a6f v) fun xs=>wp (a6g L is xs) Q:=propext Iff.rfl
@[scoped simp ↓] theorem gw_tn (i:Nat) (is:List Nat) (v:FV) (L:a0c) (Q:a0c→Prop):gW (.tn i is) v L Q=wp (a6f v) fun xs=>wp (c5p xs) fun p=>wp (a6f p.2) fun ys=>wp (a6g (L.set i (some p.1)) is ys) Q:=propext Iff.rfl
@[scoped simp ↓] theorem pr_2 (a b:FV) (Q:FV×FV→Prop):wp (c5p [a,b]) Q=Q (a,b):=propext Iff.rfl
@[scoped simp ↓] theorem sa_n (L:a0c) (Q:a0c→Prop):wp (a6g L [] []) Q=Q L:=propext Iff.rfl
@[scoped simp ↓] theorem sa_c (L:a0c) (i:Nat) (is:List Nat) (v:FV) (vs:List FV) (Q:a0c→Prop):wp (a6g L (i :: is) (v :: vs)) Q=wp (a6g (L.set i (some v)) is vs) Q:=propext Iff.rfl
section
variable (L:a0c) (k:a0c→Prop) (Q:FFl→a0c→Prop)
@[scoped simp ↓] theorem e0k:aft k Q .next L=k L:=propext Iff.rfl
@[scoped simp ↓] theorem af_ret (v:FV):aft k Q (.ret v) L=Q (.ret v) L:=propext Iff.rfl
@[scoped simp ↓] theorem tq_n:b0s k Q .next L=k L:=propext Iff.rfl
@[scoped simp ↓] theorem tq_r (v:FV):b0s k Q (.ret v) L=Q (.ret v) L:=propext Iff.rfl
end
@[scoped simp ↓] theorem en_rt (fr:Bool) (Q:FV×FV→Prop) (v:FV) (L:a0c):b9q true fr Q (.ret v) L=wp (lk L 0) fun x=>Q (v,x):=propext Iff.rfl
@[scoped simp ↓] theorem en_rf (fr:Bool) (Q:FV×FV→Prop) (v:FV) (L:a0c):b9q false fr Q (.ret v) L=Q (v,.non):=propext Iff.rfl
section
variable (Q:FV→Prop) (B:Bool→Prop) (i j:Int)
@[scoped simp ↓] theorem tr_b (b:Bool):wp (b9n (.bl b)) B=B b:=propext Iff.rfl
@[scoped simp ↓] theorem tr_t (xs:List FV):wp (b9n (.tup xs)) B=B (!xs.isEmpty):=propext Iff.rfl
@[scoped simp ↓] theorem in_i (Q:Int→Prop):wp (a3o (.int i)) Q=Q i:=propext Iff.rfl
@[scoped simp ↓] theorem bl_b (b:Bool):wp (blF (.bl b)) B=B b:=propext Iff.rfl
@[scoped simp ↓] theorem tp_t (xs:List FV) (Q:List FV→Prop):wp (a6f (.tup xs)) Q=Q xs:=propext Iff.rfl
@[scoped simp ↓] theorem ls_l (xs:List FV) (Q:List FV→Prop):wp (a8u (.lst xs)) Q=Q xs:=propext Iff.rfl
@[scoped simp ↓] theorem sq_t (xs:List FV) (Q:List FV→Prop):wp (a3b (.tup xs)) Q=Q xs:=propext Iff.rfl
@[scoped simp ↓] theorem sq_l (xs:List FV) (Q:List FV→Prop):wp (a3b (.lst xs)) Q=Q xs:=propext Iff.rfl
@[scoped simp ↓] theorem sq_s (ns:List Int) (Q:List FV→Prop):wp (a3b (.scr ns)) Q=Q (ns.map .int):=propext Iff.rfl
@[scoped simp ↓] theorem li_l (xs:List FV) (Q:List FV→Prop):wp (a2e (.lst xs)) Q=Q xs:=propext Iff.rfl
@[scoped simp ↓] theorem b_add:wp (a1r (.int i) (.int j)) Q=Q (.int (i + j)):=propext Iff.rfl
@[scoped simp ↓] theorem b_sub:wp (b2d (.int i) (.int j)) Q=Q (.int (i - j)):=propext Iff.rfl
@[scoped simp ↓] theorem b_mul:wp (a9k (.int i) (.int j)) Q↔(small i || small j)=true∧Q (.int (i * j)):=a3v _ _ _
@[scoped simp ↓] theorem b_fdiv:wp (b4n (.int i) (.int j)) Q↔(0 < j∧j < 1073741824)∧Q (.int (i / j)):=a3v _ _ _
@[scoped simp ↓] theorem b_mod:wp (c3f (.int i) (.int j)) Q↔0 < j∧Q (.int (i % j)):=a3v _ _ _
@[scoped simp ↓] theorem b_pow:wp (c5d (.int i) (.int j)) Q↔(0≤j∧j≤1000∧small i=true)∧Q (.int (i ^ j.toNat)):=a3v _ _ _
@[scoped simp ↓] theorem b_addt (xs ys:List FV):wp (a1r (.tup xs) (.tup ys)) Q↔xs.length + ys.length≤big∧Q (.tup (xs++ys)):=a3v _ _ _
@[scoped simp ↓] theorem b_addl (xs ys:List FV):wp (a1r (.lst xs) (.lst ys)) Q↔xs.length + ys.length≤big∧Q (.lst (xs++ys)):=a3v _ _ _
@[scoped simp ↓] theorem k_eq (a b:FV):wp (eqB a b) Q↔wp (eqF a b) fun r=>Q (.bl r):=a2l _ _ _
@[scoped simp ↓] theorem k_ne (a b:FV):wp (neB a b) Q↔wp (eqF a b) fun r=>Q (.bl (!r)):=a2l _ _ _
@[scoped simp ↓] theorem k_lt:wp (ltB (.int i) (.int j)) Q=Q (.bl (decide (i < j))):=propext Iff.rfl
@[scoped simp ↓] theorem k_le:wp (leB (.int i) (.int j)) Q=Q (.bl (decide (i≤j))):=propext Iff.rfl
@[scoped simp ↓] theorem k_gt:wp (gtB (.int i) (.int j)) Q=Q (.bl (decide (j < i))):=propext Iff.rfl
@[scoped simp ↓] theorem k_ge:wp (geB (.int i) (.int j)) Q=Q (.bl (decide (j≤i))):=propext Iff.rfl
@[scoped simp ↓] theorem e_ii:wp (eqF (.int i) (.int j)) B=B (i == j):=propext Iff.rfl
@[scoped simp ↓] theorem e_ss (a b:String):wp (eqF (.str a) (.str b)) B=B (a == b):=propext Iff.rfl
@[scoped simp ↓] theorem e_bb (a b:Bool):wp (eqF (.bl a) (.bl b)) B=B (a == b):=propext Iff.rfl
@[scoped simp ↓] theorem e_sh (d:D):wp (eqF (.shn d) (.shn d)) B=B true:=by simp [eqF]
@[scoped simp ↓] theorem ix_eq (v:FV):wp (ixF v (.int i)) Q↔wp (a3b v) fun xs=>wp (atF xs i) Q:=by
 show wp ((a3b v).bind _) Q↔_; rw [a3a]
@[scoped simp ↓] theorem f_min:wp (c1d (.int i) (.int j)) Q=Q (.int (if j < i then j else i)):=propext Iff.rfl
@[scoped simp ↓] theorem f_not (b:Bool):wp (d2o (.bl b)) Q=Q (.bl (!b)):=propext Iff.rfl
@[scoped simp ↓] theorem f_neg:wp (d2p (.int i)) Q=Q (.int (-i)):=propext Iff.rfl
@[scoped simp ↓] theorem f_turn (xs:List FV):wp (c4a (.tup xs)) Q=Q (.tup xs.reverse):=propext Iff.rfl
@[scoped simp ↓] theorem f_len (v:FV):wp (a6z v) Q↔wp (a3b v) fun xs=>Q (.int xs.length):=a2l _ _ _
@[scoped simp ↓] theorem f_abs:wp (d2c (.int i)) Q=Q (.int (if i < 0 then -i else i)):=propext Iff.rfl
@[scoped simp ↓] theorem f_intb (b:Bool):wp (b2a (.bl b)) Q=Q (.int (if b then 1 else 0)):=propext Iff.rfl
@[scoped simp ↓] theorem f_all (v:FV):wp (c7r v) Q↔wp (a2e v) fun xs=>wp (a4x xs) fun bs=>Q (.bl (bs.all id)):=by
 show wp ((a2e v).bind _) Q↔_; rw [a3a]; simp only [a2l]
@[scoped simp ↓] theorem f_minI (v:FV):wp (b7g v) Q↔wp (a2e v) fun xs=>wp (d0j xs) Q:=a3a _ _ _
@[scoped simp ↓] theorem d8y (v:FV):wp (a2m v) Q↔wp (a3b v) fun xs=>Q (.tup xs):=a2l _ _ _
@[scoped simp ↓] theorem f_list (v:FV):wp (a4q v) Q↔wp (a3b v) fun xs=>Q (.lst xs):=a2l _ _ _
@[scoped simp ↓] theorem f_isi (t:Ty) (v:FV):wp (b5c t v) Q↔wp (a5t v t) fun b=>Q (.bl b):=a2l _ _ _
@[scoped simp ↓] theorem y_non (t:Ty):wp (a5t .non t) B=B false:=propext Iff.rfl
@[scoped simp ↓] theorem y_bl (b:Bool) (t:Ty):wp (a5t (.bl b) t) B=B (t == .int || t == .bool):=propext Iff.rfl
@[scoped simp ↓] theorem y_int (t:Ty):wp (a5t (.int i) t) B=B (t == .int):=propext Iff.rfl
@[scoped simp ↓] theorem y_str (b:String) (t:Ty):wp (a5t (.str b) t) B=B (t == .str):=propext Iff.rfl
@[scoped simp ↓] theorem y_tup (b:List FV) (t:Ty):wp (a5t (.tup b) t) B=B (t == .tuple):=propext Iff.rfl
@[scoped simp ↓] theorem y_lst (b:List FV) (t:Ty):wp (a5t (.lst b) t) B=B (t == .list):=propext Iff.rfl
@[scoped simp ↓] theorem iN_n:wp (a2r .non) Q=Q (.bl true):=propext Iff.rfl
@[scoped simp ↓] theorem iN_i:wp (a2r (.int i)) Q=Q (.bl false):=propext Iff.rfl
@[scoped simp ↓] theorem nN_n:wp (a2a .non) Q=Q (.bl false):=propext Iff.rfl
@[scoped simp ↓] theorem nN_i:wp (a2a (.int i)) Q=Q (.bl true):=propext Iff.rfl
@[scoped simp ↓] theorem nB_b (b c:Bool):wp (a4v c (.bl b)) Q=Q (.bl (b != c)):=propext Iff.rfl
@[scoped simp ↓] theorem m_app (xs:List FV) (v:FV):wp (d2b (.lst xs) v) Q↔xs.length < big∧Q (.lst (xs++[v])):=a3v _ _ _
@[scoped simp ↓] theorem s_t (xs:List FV) (lo hi:Option Int):wp (a5j (.tup xs) lo hi) Q=Q (.tup (a5g xs lo hi)):=propext Iff.rfl
@[scoped simp ↓] theorem s_l (xs:List FV) (lo hi:Option Int):wp (a5j (.lst xs) lo hi) Q=Q (.lst (a5g xs lo hi)):=propext Iff.rfl
@[scoped simp ↓] theorem st_l (xs:List FV) (v:FV):wp (d4p (.lst xs) (.int j) v) Q↔wp (ixN xs.length j) fun p=>Q (.lst (xs.set p v)):=a2l _ _ _
@[scoped simp ↓] theorem au_f (f:Int→Int→Int):wp (d2a f (.int i) (.int j)) Q=Q (.int (f i j)):=propext Iff.rfl
end
theorem a2i {xs:List FV} {i:Int} {n:Nat} {v:FV} {Q:FV→Prop} (h:i=n) (hv:xs[n]?=some v):wp (atF xs i) Q↔Q v:=by
 subst h
 have:=(List.getElem?_eq_some_iff.mp hv).1
 simp only [atF,ixN,Int.natCast_nonneg,if_true,Int.ofNat_lt,this,Option.bind_some,Int.toNat_natCast,hv,a1w]
@[scoped simp ↓] theorem at_0 (x:FV) (r:List FV) (Q:FV→Prop):wp (atF (x :: r) 0) Q↔Q x:=a2i (n:=0) rfl rfl
@[scoped simp ↓] theorem at_1 (x y:FV) (r:List FV) (Q:FV→Prop):wp (atF (x :: y :: r) 1) Q↔Q y:=a2i (n:=1) rfl rfl
@[scoped simp ↓] theorem at_2 (x y z:FV) (r:List FV) (Q:FV→Prop):wp (atF (x :: y :: z :: r) 2) Q↔Q z:=a2i (n:=2) rfl rfl
theorem a4y {xs:List FV} {u:Int} {Q:FV→Prop} (h0:0≤u) (h1:u < xs.length) (h:∀ x∈xs,Q x):wp (atF xs u) Q:=by
 have hu:u.toNat < xs.length:=by lia
 rw [a2i (show u=u.toNat by lia) (List.getElem?_eq_getElem hu)]
 exact h _ (List.getElem_mem hu)
theorem a2o {α:Type} (p:α→Bool):∀ xs:List α,a4x (xs.map fun x=>.bl (p x))=some (xs.map p)
 | []=>rfl
 | x :: r=>by simp only [List.map_cons,a4x,a2o p r,Option.map_some]
theorem a2s:∀ ns:List Int,a0z (ns.map .int)=some ns
 | []=>rfl
 | x :: r=>by simp only [List.map_cons,a0z,a2s r,Option.map_some]
@[scoped simp] theorem ty_01:(Ty.int == Ty.bool)=false:=by decide
@[scoped simp] theorem ty_02:(Ty.int == Ty.str)=false:=by decide
@[scoped simp] theorem ty_03:(Ty.int == Ty.list)=false:=by decide
@[scoped simp] theorem ty_04:(Ty.int == Ty.tuple)=false:=by decide
@[scoped simp] theorem ty_10:(Ty.bool == Ty.int)=false:=by decide
@[scoped simp] theorem ty_12:(Ty.bool == Ty.str)=false:=by decide
@[scoped simp] theorem ty_13:(Ty.bool == Ty.list)=false:=by decide
@[scoped simp] theorem ty_14:(Ty.bool == Ty.tuple)=false:=by decide
@[scoped simp] theorem ty_40:(Ty.tuple == Ty.int)=false:=by decide
@[scoped simp] theorem ty_41:(Ty.tuple == Ty.bool)=false:=by decide
@[scoped simp] theorem ty_42:(Ty.tuple == Ty.str)=false:=by decide
@[scoped simp] theorem ty_43:(Ty.tuple == Ty.list)=false:=by decide
theorem a0g {tb:List FD} {d f:Nat} {args:List FV} {fd:FD} {Q:FV×FV→Prop} (h:tb[f]?=some fd) (hl:args.length=fd.np)
  (H:fd.body (callW tb d) (args.map some++List.replicate (fd.ns - fd.np) none) (b9q fd.io fd.fr Q)):callW tb (d + 1) f args Q:=by
 show (match tb[f]? with
  | none=>False
  | some fd=>args.length=fd.np∧fd.body (callW tb d) (args.map some++List.replicate (fd.ns - fd.np) none) (b9q fd.io fd.fr Q))
 rw [h]; exact ⟨hl,H⟩
theorem a8q {tb:List FD} {d f:Nat} {args:List FV} {fd:FD} {Q:FV×FV→Prop} (h:tb[f]?=some fd) (hl:args.length=fd.np) :
  callW tb (d + 1) f args Q↔fd.body (callW tb d) (args.map some++List.replicate (fd.ns - fd.np) none) (b9q fd.io fd.fr Q):=by
 show (match tb[f]? with
  | none=>False
  | some fd=>args.length=fd.np∧fd.body (callW tb d) (args.map some++List.replicate (fd.ns - fd.np) none) (b9q fd.io fd.fr Q))↔_
 rw [h]; exact ⟨fun z=>z.2,fun z=>⟨hl,z⟩⟩
theorem a8m {α:Type} {tg:Tg} {b:SW} {f:α→FV} {I:List α→a0c→Prop} {Q:FFl→a0c→Prop} (all:List α) :
  ∀ (rest done:List α) (L:a0c),all=done++rest→I done L →
  (∀ d x r L (K:a0c→Prop),all=d++x :: r→I d L→(∀ L',I (d++[x]) L'→K L')→gW tg (f x) L fun L1=>b L1 (b0s K Q)) →
  (∀ L,I all L→Q .next L)→c6t tg b (rest.map f) L Q
 | [],done,L,e,h,_,E=>by
  rw [List.append_nil] at e
  exact E L (e ▸ h)
 | x :: rest,done,L,e,h,B,E=>B done x rest L _ e h fun L' h'=>a8m all rest (done++[x]) L' (by simp [e]) h' B E
theorem a2h {tg:Tg} {b:SW} {I:Nat→a0c→Prop} {Q:FFl→a0c→Prop}:∀ (n i:Nat) (L:a0c),I i L →
  (∀ j L (K:a0c→Prop),i≤j→j < i + n→I j L→(∀ L',I (j + 1) L'→K L')→gW tg (.int (j:Int)) L fun L1=>b L1 (b0s K Q)) →
  (∀ L,I (i + n) L→Q .next L)→c6t tg b (upF (i:Int) n) L Q
 | 0,i,L,h,_,E=>E L h
 | n + 1,i,L,h,B,E=>B i L _ (Nat.le_refl _) (by lia) h fun L' h'=>by
  have:=a2h n (i + 1) L' h' (fun j L K hj hj'=>B j L K (by lia) (by lia)) (fun L h=>E L (by rw [show i + (n + 1)=i + 1 + n by lia]; exact h))
  simpa using this
theorem while_by {c:BW} {b:SW} {I:Nat→a0c→Prop} {Q:FFl→a0c→Prop} (B:∀ m L (K:a0c→Prop),I m L→(∀ m' L',m' < m→I m' L'→K L')→c L fun t L1=>if t=true then b L1 (b0s K Q) else Q .next L1) {m:Nat} {L:a0c} (h:I m L):d2g c b L Q:=by
 have go:∀ n m L,m < n→I m L→c7w c b n L Q:=by
  intro n
  induction n with
  | zero=>intro m L hm; lia
  | succ n ih=>intro m L hm h; exact B m L _ h fun m' L' h1 h2=>ih m' L' (by lia) h2
 exact ⟨m + 1,go _ m L (Nat.lt_succ_self _) h⟩
theorem a2n {α:Type} {tg:Tg} {n m:Nat} {t:BW} {e:EW} {f:α→FV} {I:List α→List FV→a0c→Prop} {Q:List FV→a0c→Prop} (all:List α) :
  ∀ (rest done:List α) (acc:List FV) (L:a0c),all=done++rest→I done acc L →
  (∀ d x r acc L (K:List FV→a0c→Prop),all=d++x :: r→I d acc L→(∀ acc' L',I (d++[x]) acc' L'→K acc' L')→gW tg (f x) (L++List.replicate m none) fun L1=>t L1 fun b L2=>if b=true then e L2 fun v L3=>K (acc++[v]) (L3.take n) else K acc (L2.take n)) →
  (∀ ys L,I all ys L→Q ys L)→a5c n m tg t e (rest.map f) acc L Q
 | [],done,acc,L,e,h,_,E=>by
  rw [List.append_nil] at e
  exact E acc L (e ▸ h)
 | x :: rest,done,acc,L,e,h,B,E=>B done x rest acc L (fun acc' L'=>a5c _ _ _ _ _ (rest.map f) acc' L' Q) e h fun acc' L' h'=>a2n all rest (done++[x]) acc' L' (by simp [e]) h' B E
theorem a0s {α:Type} {tg:Tg} {n m:Nat} {e:EW} {f:α→FV} {g:α→FV} {Q:List FV→a0c→Prop} {L:a0c}:∀ (xs:List α) (acc:List FV),
  (∀ x∈xs,∀ K:FV→a0c→Prop,K (g x) L→gW tg (f x) (L++List.replicate m none) fun L1=>e L1 fun v L3=>K v (L3.take n))→Q (acc++xs.map g) L→a5c n m tg a1q e (xs.map f) acc L Q
 | [],acc,_,E=>by
  show Q acc L
  simpa using E
 | x :: xs,acc,B,E=>B x List.mem_cons_self (fun v L'=>a5c n m tg a1q e (xs.map f) (acc++[v]) L' Q) (a0s xs (acc++[g x]) (fun y hy=>B y (List.mem_cons_of_mem _ hy)) (by simpa using E))
theorem b5o:∀ n lo:Nat,upF (lo:Int) n=(List.range' lo n).map fun i:Nat=>FV.int i
 | 0,lo=>rfl
 | n + 1,lo=>by simp only [upF,List.range'_succ,List.map_cons]; rw [← b5o n (lo + 1)]; simp
theorem a1z (n:Nat):upF 0 n=(List.range n).map fun i:Nat=>FV.int i:=by
 have:=b5o n 0
 rw [List.range_eq_range']; exact_mod_cast this
theorem ite2 {c A B:Prop} [Decidable c] (h1:c→A) (h2:¬ c→B):if c then A else B:=by
 by_cases h:c
 ·rw [if_pos h]; exact h1 h
 ·rw [if_neg h]; exact h2 h
end Kq
end
set_option maxHeartbeats 4000000
section
namespace Kq
open PySem PySem.Spec PyProof.Rows L2
section
variable {X:Cx} {C:CC} {n:Nat} {sp:Γd→Nat→Sp} {a:Expr} {ea:EW} {p p2 p3 p4 pos:Pos}
end
section
variable {X:Cx} {C:CC} {n:Nat} {sp:Γd→Nat→Sp} {fr:Bool} {a b:Expr} {ea eb:EW} {pos px py pt p2:Pos} {i j kt k2:Nat} {nx ny:Str}
end
noncomputable def Itd (lo:Int) (n:Nat):It:=⟨fun i _=>i < n,fun i H x H'=>H'=H∧x=.int (lo - i),fun i _=>n≤i⟩
theorem b5q {P:Program} {w:World} {K:Γd} {tg:Expr} (it:Addr) (lo:Int) (n:Nat):Turn P w K tg (Itd lo n) [it] it (fun i h=>IsRangeIter h it (lo + (i:Nat) * (-1)) ((n:Int) - (i:Nat)) (-1)) where
 mem:=by simp
 obj:=fun i h st b hb=>by
  have e:b=it:=by simpa using hb
  subst e
  exact ⟨_,st,fun v z=>by
   have z':Data.fields _=Data.cell v:=z
   cases z'⟩
 keep:=fun i h h' st k=>k it (by simp) _ st
 item:=by
  intro X hP hw hK hc i pins s σ H E I hf st hg
  subst hP hw hK
  obtain ⟨f0,f1,f2,f3,f4,f5⟩:=hf it (by simp)
  have W:=Walks.range (prog:=X.prog) (w:=X.w) (I.ok.hd hc) it lo (-1) n
  refine W.item i s _ _ hg st fun v h' tk hv st' kk=>?_
  obtain ⟨t,rfl⟩:=hv
  have I1:Inv X pins σ H { s with heap:=h',toks:=tk }:=I.turned (fun b o hb e=>kk b o (by simpa using hb) e) f0 f1 f3 f4 f5
  refine ⟨_,rfl,c1q (s:={ s with heap:=h',toks:=tk }) (n:="range_iterator") st' rfl rfl (by decide) ⟨.int (lo - i),H,I1,⟨t,?_⟩,⟨rfl,rfl⟩,st',fun b hb=>(hf b hb).1⟩⟩
  rw [Int.mul_neg,Int.mul_one,Int.sub_eq_add_neg]
 done:=by
  intro X hP hw hK hc i pins s σ H E I hf st hg
  subst hP hw hK
  obtain ⟨f0,f1,f2,f3,f4,f5⟩:=hf it (by simp)
  exact wpAny_pyNext_range_end (I.ok.hd hc) st (by have:n≤i:=hg; lia) fun h' eb=>⟨rfl,I.turned (t':=s.toks) (fun b o hb e=>eb b o hb e) f0 f1 f3 f4 f5⟩
 self:=fun _ _ _ _ _ st h=>wpAny_pyIter_rangeiter st h
section
variable {X:Cx} {tg:Expr}
end
noncomputable def a5w (hi:Int):Nat→List FV
 | 0=>[]
 | n + 1=>.int hi :: a5w (hi - 1) n
noncomputable def iDown (a b:EW):AW:=fun L Q=>a L fun x L1=>b L1 fun y L2=>wp (a3o x) fun i=>wp (a3o y) fun j=>(a1a i && a1a j)=true∧Q (a5w i (i - j).toNat) L2
theorem a9z:∀ (n:Nat) (lo:Int) (i:Nat),(a5w lo n)[i]?=if i < n then some (.int (lo - i)) else none
 | 0,lo,i=>by simp [a5w]
 | n + 1,lo,0=>by simp [a5w]
 | n + 1,lo,i + 1=>by
  show (a5w (lo - 1) n)[i]?=_
  rw [a9z n (lo - 1) i]
  have e:lo - 1 - (i:Int)=lo - ((i + 1:Nat):Int):=by lia
  simp [e]
section
variable {X:Cx} {C:CC} {n:Nat} {sp:Γd→Nat→Sp} {a b tg:Expr} {ea eb:EW} {p p3 p4 pos:Pos} {kk:Nat}
variable {K:Γd} {c:Cn} {md:Md}
theorem c6k {lo:Int} {m:Nat} {S1:Hp}:ItR K c md (Itd lo m) (a5w lo m) S1:=by
 intro i L σ S H I s
 rw [a9z]
 by_cases h:i < m
 ·rw [if_pos h]
  refine ⟨fun e=>(nomatch e),fun p e=>?_⟩
  cases e
  exact ⟨h,fun v H' ⟨e1,e2⟩=>⟨S,Same.refl S,by rw [e1]; exact fun _ _ _ _ I=>I,e2⟩⟩
 ·rw [if_neg h]
  exact ⟨fun _=>show m≤i by lia,fun p e=>(nomatch e)⟩
end
end Kq
end
section
namespace PySem
open PySem.Spec
theorem F.sub_rit_reversed:isSubtype (.type "range_iterator") (.type "reversed")=pure false:=by rw [isSubtype_type]; kernel_rfl
theorem b6h (r:Addr) (a b c:Int) (t u v:Tok) (hc0:¬(!(Builtin.Range.rangeFitsLong a && Builtin.Range.rangeFitsLong b && Builtin.Range.rangeFitsLong c && Builtin.Range.rangeFitsLong (-c) && Builtin.Range.rangeFitsLong (a - c) && Builtin.Range.rangeFitsLong (Builtin.Range.rangeSize a b c)))=true) :
  Meets (Builtin.«range.__reversed__» ⟨[.ref r],[]⟩) (fun _ R s=>s.heap.get? r=some { cls:=.type "range",dict:=none,data:=.fields #[.int a t,.int b u,.int c v],slots:=#[] }∧R (.ok (.ret (Value.ref s.heap.objs.size))) { s with heap:=s.heap.push { cls:=Value.type (if (Builtin.Range.rangeFitsLong a && Builtin.Range.rangeFitsLong b && Builtin.Range.rangeFitsLong c && Builtin.Range.rangeFitsLong (-c) && Builtin.Range.rangeFitsLong (a - c) && Builtin.Range.rangeFitsLong (Builtin.Range.rangeSize a b c))=true then "range_iterator" else "longrange_iterator"),data:=Data.fields #[rawInt (a + (Builtin.Range.rangeSize a b c - 1) * c),rawInt (Builtin.Range.rangeSize a b c),rawInt (-c)] },toks:=s.toks }) :=
 .of_wp fun prog w A R s h=>by obtain ⟨hp,g,d,tk,os⟩:=s; obtain ⟨hl,h⟩:=h; wp_walk; exact ⟨_,rfl,h⟩
section
variable {prog:Program} {w:World} {A:Around} {E:Value→Shared→Prop} {s:Shared}
noncomputable def a5k (a n:Int):Obj:={ cls:=.type "range_iterator",data:=.fields #[rawInt a,rawInt n,rawInt (-1)] }
theorem a6t {r:Addr} {b:Int} {t u v:Tok} {Q:Value→Shared→Prop} (hr:IsRange s.heap r 0 b 1 t u v) (h1:-(2 ^ 62)≤b) (h2:b < 2 ^ 62)
  (h:Q (.ref s.heap.objs.size) { s with heap:=s.heap.push (a5k ((b.toNat:Int) - 1) b.toNat) }):wpAny (model prog w) A (call (.builtin "range.__reversed__") [.ref r]) Q E s:=by
 have hT:s.TypeIs (.ref r) "range":=⟨_,hr,rfl⟩
 have hn:Builtin.Range.rangeSize 0 b 1=(b.toNat:Int):=by rw [rangeSize_one]; split <;> lia
 have hs:(Builtin.Range.rangeFitsLong 0 && Builtin.Range.rangeFitsLong b && Builtin.Range.rangeFitsLong 1 && Builtin.Range.rangeFitsLong (-1) && Builtin.Range.rangeFitsLong (0 - 1) && Builtin.Range.rangeFitsLong (Builtin.Range.rangeSize 0 b 1))=true:=by
  rw [hn]
  simp only [Builtin.Range.rangeFitsLong,Bool.and_eq_true,decide_eq_true_eq]
  lia
 refine call_meets F.slot_range_reversed hT F.entry_range_reversed (F.args_range_reversed_1 _) (b6h r 0 b 1 t u v (by rw [hs]; decide)) ⟨hr,?_⟩
 rw [hs,if_pos rfl,hn]
 have e:(0:Int) + ((b.toNat:Int) - 1) * 1=(b.toNat:Int) - 1:=by lia
 rw [e]
 exact h
theorem a6q {r:Addr} {b:Int} {t u v:Tok} {Q₁:Value→Shared→Prop} (hr:IsRange s.heap r 0 b 1 t u v) (h1:-(2 ^ 62)≤b) (h2:b < 2 ^ 62)
  (h:Q₁ (.ref s.heap.objs.size) { s with heap:=s.heap.push (a5k ((b.toNat:Int) - 1) b.toNat) }) :
  codeAny (model prog w) A (.call (.builtin "reversed.__new__") ⟨[.type "reversed",.ref r],[]⟩) (wants Q₁ E) s:=by
 have hT:s.TypeIs (.ref r) "range":=⟨_,hr,rfl⟩
 refine codeAny_of_tree ?_
 show wpAny _ A.in1 (do checkBuiltinCall "reversed.__new__" ⟨[.type "reversed",.ref r],[]⟩; again (.builtin "reversed.__new__" ⟨[.type "reversed",.ref r],[]⟩)) _ _ s
 refine Γa (wpAny_of_eq (F.newCall_reversed_1 _) (Γb ⟨plainId_quiet F.plain_reversed_new _,codeAny_builtin F.entry_reversed_new ?_⟩))
 rw [Around.under_plainId F.plain_reversed_new _]
 unfold Builtin.«reversed.__new__»
 refine Γa (wpAny_of_eq (newClass_reversed _) ?_)
 try dsimp only
 refine Γa (wpAny_of_eq (a:=()) (by first | rfl | kernel_rfl) ?_)
 refine Γa (wpAny_of_eq (a:=()) (by first | rfl | kernel_rfl) ?_)
 try dsimp only
 refine Γa (wpAny_specialOf hT F.slot_range_reversed.lookup ?_)
 try dsimp only
 refine Γa (wpAny_of_eq (F.slot_range_reversed.bind _) ?_)
 try dsimp only
 first
 | rw [if_neg (show ¬ ((Value.builtin "range.__reversed__" == Value.none)=true) from Bool.false_ne_true)]
 | (show wpAny _ _ (if (Value.builtin "range.__reversed__" == Value.none)=true then _ else _) _ _ _; rw [if_neg (show ¬ ((Value.builtin "range.__reversed__" == Value.none)=true) from Bool.false_ne_true)])
 refine Γa (wpAny_rule ?_)
 refine Γa (m:=runValue (.call (.builtin "range.__reversed__") ⟨[.ref r],[]⟩)) (show wpAny _ _ (call (.builtin "range.__reversed__") [.ref r]) _ _ _ from a6t hr h1 h2 ?_)
 first
 | exact Γb h
 | exact Γa (Γb (Γb h))
theorem a6s {r:Addr} {b:Int} {t u v:Tok} {Q:Value→Shared→Prop} (hr:IsRange s.heap r 0 b 1 t u v) (h1:-(2 ^ 62)≤b) (h2:b < 2 ^ 62)
  (h:Q (.ref s.heap.objs.size) { s with heap:=s.heap.push (a5k ((b.toNat:Int) - 1) b.toNat) }):wpAny (model prog w) A (call (.type "reversed") [.ref r]) Q E s:=by
 refine callType_other (U:="range_iterator") (Q₁:=fun obj s₁=>obj=.ref s.heap.objs.size∧s₁ = { s with heap:=s.heap.push (a5k ((b.toNat:Int) - 1) b.toNat) }) (by nofun) F.create_reversed ⟨_,_,F.mro_reversed⟩ F.made_reversed F.sub_rit_reversed (F.typeCall_reversed_1 _) (a6q hr h1 h2 ⟨rfl,rfl⟩) ?_
 rintro obj s₁ ⟨rfl,rfl⟩
 exact ⟨⟨_,Heap.get?_push_size _ rfl,rfl⟩,h⟩
end
end PySem
end
section
namespace Kq
open PySem PySem.Spec PyProof.Rows L2
section
variable {X:Cx} {tg:Expr}
theorem c5g {a:Expr} {ta:TA} {p p2 pos pos2:Pos} (hg:Gl X "range") (hm:X.mg "range" = none) (hg2:Gl X "reversed") (hm2:X.mg "reversed" = none) (ha:PA X [a] ta) (hs:starEach [a] X.env=[(false,eval a X.env)]) :
  PI X tg (.Call (.Name "reversed" p) [.Call (.Name "range" p2) [a] [] pos2] [] pos) (fun σ H R=>ta σ H fun vs H1=>∃ j:Int,vs=[.int j]∧-(2 ^ 62)≤j∧j < 2 ^ 62∧R (Itd ((j.toNat:Int) - 1) j.toNat) H1):=by
 intro pins s σ H R I h
 refine Call_ (a2u I hg2 hm2 (by nofun) (PyProof.Rows.callWith_type1 (T:="reversed") ?_ rfl rfl))
 show wpAny _ _ (spliced ((false,eval (.Call (.Name "range" p2) [a] [] pos2) X.env) :: backTo pos [])) _ _ s
 refine Calls.spliced_cons (Call_ (a2u I hg hm boot_range (PyProof.Rows.callWith_type1 (thn (ha pos2 pins s σ H _ I h) fun us s1 ⟨vs,H1,I1,r1,q1⟩=>?_) hs rfl)))
 obtain ⟨j,e,q1,q2,q⟩:=q1
 subst e
 cases r1 with
 | cons r rr =>
  cases rr
  obtain ⟨t,rfl⟩:=r
  refine call_range_1 (Calls.spliced_nil (a6s (IsRange.new ..) q1 q2 ?_))
  let h0:Heap:=s1.heap.push { cls:=.type "range",data:=.fields #[.int 0 s1.toks,.int j t,.int 1 (s1.toks + 1)] }
  have I2:Inv X pins σ H1 { s1 with heap:=h0,toks:=s1.toks + 1 + 1 }:=I1.kept fun b o e=>Γc _ e
  have st:IsRangeIter (h0.push (a5k ((j.toNat:Int) - 1) j.toNat)) h0.objs.size ((j.toNat:Int) - 1) j.toNat (-1):=Heap.get?_push_size _ rfl
  refine wpAny_pyIter_rangeiter st ?_
  refine ⟨h0.objs.size,[h0.objs.size],_,_,H1,rfl,I2.kept (t':=s1.toks + 1 + 1) fun b o e=>Γc _ e,b5q _ ((j.toNat:Int) - 1) j.toNat,?_,fun b hb=>?_,q⟩
  ·have e1:((j.toNat:Int) - 1) + ((0:Nat):Int) * (-1)=(j.toNat:Int) - 1:=by simp
   have e2:((j.toNat:Nat):Int) - ((0:Nat):Int)=j.toNat:=by simp
   rw [e1,e2]
   exact st
  ·have e:b=h0.objs.size:=by simpa using hb
   subst e
   exact I2.fpOk (Nat.le_refl _) (I2.hok.fresh (Nat.le_refl _))
end
noncomputable def c6p (a:EW):AW:=fun L Q=>a L fun x L1=>wp (a3o x) fun j=>a1a j=true∧Q (a5w ((j.toNat:Int) - 1) j.toNat) L1
@[scoped simp ↓] theorem d2r (a:EW) (L:a0c) (Q:List FV→a0c→Prop):c6p a L Q=(a L fun x L1=>wp (a3o x) fun j=>a1a j=true∧Q (a5w ((j.toNat:Int) - 1) j.toNat) L1):=propext Iff.rfl
theorem d7i {X:Cx} {C:CC} {n:Nat} {sp:Γd→Nat→Sp} {a tg:Expr} {ea:EW} {p p2 pos pos2:Pos} (G:Good X C n sp) (hg:(C.gl (Γe "range") && C.gl (Γe "reversed"))=true) (hs:a0k a=false) (ha:FE X C a ea):FI X C C.md tg (.Call (.Name (Γe "reversed") p) [.Call (.Name (Γe "range") p2) [a] [] pos2] [] pos) (c6p ea) :=
 PI.imp (c5g (G.gl (b2 hg).1) (G.blt "range" (by decide)) (G.gl (b2 hg).2) (G.blt "reversed" (by decide)) (a0o ha a1y (a0d hs)) (a0d hs)) fun σ H R ⟨c,L,S,Q0,I,h,k⟩ =>
 ⟨c,L,S,_,I,h,fun v L1 hv x S1 H1 r1 I1 s1=>by
  obtain ⟨j,e,hb,q⟩:=wpx hv
  cases a1m e
  have h1:=de hb
  exact ⟨j,by rw [show x=.int j from r1],h1.1,h1.2,k _ L1 q _ c S1 H1 I1 (fun _ _ _ _ I=>I) rfl c6k s1⟩⟩
theorem b3m:∀ n:Nat,a5w ((n:Int) - 1) n=(List.range n).reverse.map fun i:Nat=>FV.int i
 | 0=>rfl
 | n + 1=>by
  have:=b3m n
  rw [List.range_succ,List.reverse_append,List.map_append,← this]
  simp [a5w]
section
variable {P:Program} {w:World} {A:Around} {R:Result→Shared→Prop} {it S N:Addr} {fp wr:List Addr} {n:Nat} {V:Nat→Value→Prop} {St:Nat→Heap→Prop} {bt:Nat→Nat→Bool} {h0:Heap} {kw:List (Str×Value)}
end
section
variable {P:Program} {w:World} {A:Around} {E:Value→Shared→Prop} {s:Shared}
end
section
variable {P:Program} {w:World} {A:Around} {E:Value→Shared→Prop} {s:Shared}
end
noncomputable def c1c (b:Int):List Int→Int
 | []=>b
 | x :: r=>c1c (if b < x then x else b) r
noncomputable def mostD (d:Int):List Int→Int
 | []=>d
 | n :: r=>c1c n r
section
variable {X:Cx}
variable {x:Str} {p pos kp:Pos} {e v:Expr} {t:TA} {tv:TE} {id:String} {kn:Str} {r:V→V→Hp→VK→Prop}
end
section
variable {X:Cx} {C:CC} {n:Nat} {sp:Γd→Nat→Sp} {a b:Expr} {ea eb:EW} {pos p kp:Pos}
end
section
variable (Q:FV→Prop)
end
section
variable {P:Program} {w:World} {A:Around} {E:Value→Shared→Prop}
end
section
variable {X:Cx} {pos:Pos}
end
noncomputable def sUnp (e:EW) (is:List Nat):SW:=fun L Q=>e L fun x L1=>wp (a8u x) fun xs=>wp (a6g L1 is xs) fun L2=>Q .next L2
section
variable {X:Cx} {C:CC} {n:Nat} {sp:Γd→Nat→Sp} {fr:Bool} {a:Expr} {e:EW} {pos p:Pos} {is:List Nat} {k:Nat}
end
section
variable {prog:Program} {w:World} {A:Around} {E:Value→Shared→Prop} {s:Shared}
end
section
variable {X:Cx} {S H:Hp} {Q:VK}
noncomputable def tmulF (v w:FV):Option FV:=(a6f v).bind fun xs=>(a3o w).bind fun k=>if -(2 ^ 63)≤k∧k < 2 ^ 63∧xs.length * k.toNat≤big then some (.tup (List.replicate k.toNat xs).flatten) else none
end
section
variable {X:Cx} {C:CC} {a b:Expr} {ea eb:EW} {pos:Pos}
end
end Kq
end
section
namespace PySem
section
variable {prog:Program} {w:World} {A:Around} {E:Value→Shared→Prop} {s:Shared}
end
end PySem
end
section
namespace Kq
open PySem PySem.Spec PyProof.Rows L2
section
variable {X:Cx}
variable {a b:Expr} {ta:TA} {p p2 pos pos2:Pos} {T:Str} {Tn:String} {ho:List V→HO}
end
noncomputable def rngF (c:List FV→FV) (v:FV):Option FV:=(a3o v).bind fun j=>if a1a j=true∧j.toNat≤big then some (c (upF 0 j.toNat)) else none
noncomputable def rng2F (c:List FV→FV) (v w:FV):Option FV:=(a3o v).bind fun i=>(a3o w).bind fun j=>if (a1a i && a1a j)=true∧(j - i).toNat≤big then some (c (upF i (j - i).toNat)) else none
section
variable {X:Cx} {C:CC} {n:Nat} {sp:Γd→Nat→Sp} {a b:Expr} {ea eb:EW} {pos p p2 pos2:Pos}
end
end Kq
end
section
namespace PySem
noncomputable def e0p (A:Around) (s:Shared) (x y:Value) (b:Bool):Prop :=
 ∀ (prog:Program) (w:World) (E:Value→Shared→Prop) (Q:Value→Shared→Prop),Q (.bool b) s→wpAny (model prog w) A (richCompare .Lt x y) Q E s
inductive LexAt (A:Around) (s:Shared):List Value→List Value→Bool→Prop
 | nn:LexAt A s [] [] false
 | nc {y ys}:LexAt A s [] (y :: ys) true
 | cn {x xs}:LexAt A s (x :: xs) [] false
 | eq {x y xs ys r}:SeqAt.EqAt A s x y true→LexAt A s xs ys r→LexAt A s (x :: xs) (y :: ys) r
 | ne {x y xs ys r}:SeqAt.EqAt A s x y false→e0p A s x y r→LexAt A s (x :: xs) (y :: ys) r
section
open PySem.SeqAt
open PySem.AutoSeq1 (wpAny_loadPart')
open PySem.MeetsSeq PySem.MeetsSeq2 PySem.MeetsSeq3
theorem a8w (l b:Addr) (items items2:Array Value) (n n2:Nat) (dd dd2:Option Addr) (sl sl2:Array (Option Value)) :
  Meets (Builtin.«tuple.__lt__» ⟨[.ref l,.ref b],[]⟩)
   (fun A R s=>s.heap.get? l=some { cls:=.type "tuple",dict:=dd,data:=.seq items n,slots:=sl }∧s.heap.get? b=some { cls:=.type "tuple",dict:=dd2,data:=.seq items2 n2,slots:=sl2 } ∧
    ∃ r,LexAt A.in1 s items.toList items2.toList r∧R (.ok (.ret (.bool r))) s) :=
 .of_wp fun prog w A R s h=>by
  obtain ⟨hp,g,d,tk,os⟩:=s; obtain ⟨hl,hb,r,hlex,h⟩:=h
  have f2:=AutoSeq1.sub_tuple_tuple
  wp_walk using wpAny_loadPart' hl,wpAny_loadPart' hb,wpAny_forIn_list _ (fun rest b s'=>b.1=none∧s'=⟨hp,g,d,tk,os⟩∧∃ (vs ws:List Value),rest=vs.zip ws ∧
   LexAt A.in1 ⟨hp,g,d,tk,os⟩ vs ws r∧vs.length + items2.size=ws.length + items.size) _
  case turn =>
   rintro ⟨y,x⟩ rest b s' ⟨hb',rfl,vs,ws,hz,hlx,hlen⟩
   cases hlx with
   | nn=>cases hz
   | nc=>cases hz
   | cn=>rw [List.zip_nil_right] at hz; cases hz
   | eq he hr =>
    rw [List.zip_cons_cons] at hz
    injection hz with hyx hrest
    injection hyx with hy hx
    subst hy hx
    simp only [List.length_cons] at hlen
    refine Γa (he prog w _ _ ?_)
    wp_walk
    exact ⟨rfl,rfl,_,_,hrest,hr,by lia⟩
   | ne he hr =>
    rw [List.zip_cons_cons] at hz
    injection hz with hyx hrest
    injection hyx with hy hx
    subst hy hx
    refine Γa (he prog w _ _ ?_)
    have hri:=hr prog w
    wp_walk using hri
    exact ⟨_,rfl,by simpa using h⟩
  case fin =>
   rintro ⟨b1,b2⟩ s' ⟨hb',rfl,vs,ws,hz,hlx,hlen⟩
   simp only at hb'
   subst hb'
   have hv:r=decide (items.size < items2.size):=by
    cases hlx with
    | nn=>simp only [List.length_nil] at hlen; exact (decide_eq_false (by lia)).symm
    | nc=>simp only [List.length_nil,List.length_cons] at hlen; exact (decide_eq_true (by lia)).symm
    | cn=>simp only [List.length_nil,List.length_cons] at hlen; exact (decide_eq_false (by lia)).symm
    | eq=>rw [List.zip_cons_cons] at hz; cases hz
    | ne=>rw [List.zip_cons_cons] at hz; cases hz
   rw [hv] at h
   wp_walk
   exact ⟨_,rfl,by simpa [Builtin.Tuple.tupleCompareSizes] using h⟩
  case h =>
   exact ⟨rfl,rfl,items.toList,items2.toList,rfl,hlex,by simp; lia⟩
end
theorem c1e {A:Around} {s:Shared} {l b:Addr} {o o2:Obj} {items items2:Array Value} {n n2:Nat} {r:Bool} (h1:s.heap.get? l=some o) (h2:o.cls=.type "tuple") (h3:o.data=.seq items n) (g1:s.heap.get? b=some o2) (g2:o2.cls=.type "tuple") (g3:o2.data=.seq items2 n2)
  (hlex:LexAt A.in1 s items.toList items2.toList r) (hu:A.units < cLine):e0p A s (.ref l) (.ref b) r:=by
 intro prog w E Q h
 obtain ⟨cls,dd,data,sl⟩:=o
 obtain ⟨cls2,dd2,data2,sl2⟩:=o2
 simp only at h2 h3 g2 g3
 subst h2 h3 g2 g3
 exact richCompare_meets_room (op:=.Lt) ⟨_,h1,rfl⟩ ⟨_,g1,rfl⟩ PySem.F.slot_tuple_lt PySem.F.entry_tuple_lt (PySem.F.args_tuple_lt_2 _ _) (a8w l b items items2 n n2 dd dd2 sl sl2)
  ⟨h1,g1,r,hlex,show Value.bool r≠Value.notImplemented∧Q (.bool r) s from ⟨(fun x=>nomatch x),h⟩⟩ hu
end PySem
namespace Kq
open PySem PySem.Spec PyProof.Rows L2
noncomputable def d4m (a b:String):Bool:=decide ((Γe a).cps.toList < (Γe b).cps.toList)
mutual
noncomputable def ltD:D→D→Option Bool
 | .int a,.int b=>some (decide (a < b))
 | .str a,.str b=>some (d4m a b)
 | .tup a,.tup b=>b9o a b
 | _,_=>none
noncomputable def b9o:List D→List D→Option Bool
 | [],[]=>some false
 | [],_ :: _=>some true
 | _ :: _,[]=>some false
 | a :: r,b :: q=>if D.eqv a b=true then b9o r q else ltD a b
end
mutual
theorem c3i:∀ (x y:D) (A:Around) (s:Shared) (v u:Value) (as bs:List Addr) (r:Bool),Reads s.heap v (dPy x) as→Reads s.heap u (dPy y) bs→ltD x y=some r→A.units + (dPy x).depth < cLine→e0p A s v u r
 | .int a,y,A,s,v,u,as,bs,r,h1,h2,e,hu=>by
  cases y with
  | int b =>
   cases e
   simp only [dPy] at h1 h2
   cases h1; cases h2
   exact fun prog w E Q h=>PyProof.Rows.lt_int h
  | _=>cases e
 | .str a,y,A,s,v,u,as,bs,r,h1,h2,e,hu=>by
  cases y with
  | str b =>
   cases e
   simp only [dPy] at h1 h2
   cases h1; cases h2
   exact fun prog w E Q h=>PySem.P.lt_str h
  | _=>cases e
 | .tup xs,y,A,s,v,u,as,bs,r,h1,h2,e,hu=>by
  cases y with
  | tup ys =>
   simp only [dPy] at h1 h2
   simp only [dPy,PyData.depth] at hu
   cases h1 with
   | tuple a1 a2 a3 a4 =>
    cases h2 with
    | tuple b1 b2 b3 b4 =>
     exact c1e a1 a2 a3 b1 b2 b3 (b7l xs ys A.in1 s _ _ _ _ r a4 b4 e (by show A.units + 1 + _ < _; lia)) (by lia)
  | _=>cases e
 | .non,y,A,s,v,u,as,bs,r,h1,h2,e,hu=>by cases y <;> cases e
 | .bl _,y,A,s,v,u,as,bs,r,h1,h2,e,hu=>by cases y <;> cases e
 | .lst _,y,A,s,v,u,as,bs,r,h1,h2,e,hu=>by cases y <;> cases e
theorem b7l:∀ (xs ys:List D) (A:Around) (s:Shared) (vs us:List Value) (as bs:List Addr) (r:Bool),ReadsAll s.heap vs (a4h xs) as→ReadsAll s.heap us (a4h ys) bs→b9o xs ys=some r→A.units + PyData.depthAll (a4h xs) < cLine→LexAt A s vs us r
 | [],[],A,s,vs,us,as,bs,r,h1,h2,e,hu=>by cases h1; cases h2; cases e; exact .nn
 | [],y :: ys,A,s,vs,us,as,bs,r,h1,h2,e,hu=>by cases h1; cases h2; cases e; exact .nc
 | x :: xs,[],A,s,vs,us,as,bs,r,h1,h2,e,hu=>by cases h1; cases h2; cases e; exact .cn
 | x :: xs,y :: ys,A,s,vs,us,as,bs,r,h1,h2,e,hu=>by
  simp only [a4h] at h1 h2
  simp only [a4h,PyData.depthAll] at hu
  cases h1 with
  | cons a1 a2 =>
   cases h2 with
   | cons b1 b2 =>
    have he:=PySem.SeqAt.eqAt_reads _ _ A s _ _ _ _ a1 b1 (a5b x) (a5b y) (by lia)
    rw [b8u] at he
    simp only [b9o] at e
    split at e
    ·rename_i hq
     rw [hq] at he
     exact .eq he (b7l xs ys A s _ _ _ _ r a2 b2 e (by lia))
    ·rename_i hq
     have hq:D.eqv x y=false:=by simpa using hq
     rw [hq] at he
     exact .ne he (c3i x y A s _ _ _ _ r a1 b1 e (by lia))
end
end Kq
end
section
namespace Kq
open PySem PySem.Spec PyProof.Rows L2
theorem b2u {α β:Type} {f:α→Option β}:∀ {xs:List α} {ys:List β},a5p f xs=some ys→∀ (i:Nat) (x:α),xs[i]?=some x→∃ y,ys[i]?=some y∧f x=some y
 | [],ys,h,i,x,e=>by simp at e
 | a :: r,ys,h,i,x,e=>by
  simp only [a5p] at h
  obtain ⟨b,h1,h2⟩:=bnd h
  obtain ⟨q,h3,rfl⟩:=mpd h2
  cases i with
  | zero=>simp at e; subst e; exact ⟨b,rfl,h1⟩
  | succ i=>exact b2u h3 i x (by simpa using e)
noncomputable def btD (ds:List D) (i j:Nat):Bool:=(ltD (ds.getD i .non) (ds.getD j .non)).getD false
open Classical in
noncomputable def b4e (v:FV):Option FV:=(a2e v).bind fun xs=>(a5p (fD a0l) xs).bind fun ds =>
 if 0 < ds.length∧(∀ x∈ds,∀ y∈ds,(ltD x y).isSome=true)∧∀ ps,xs[argBest (btD ds) (ds.length - 1)]?≠some (.lst ps) then xs[argBest (btD ds) (ds.length - 1)]? else none
section
variable {X:Cx}
theorem d1s (hc:X.calm=true) (hu:X.A.units + 64 < cLine):a1l X (.builtin "min") (Rc X.K b4e):=by
 rintro pins s σ H xs us Q I r ⟨S,v,x,z,rfl,hs,rv,e,k⟩
 obtain ⟨qs,e1,e2⟩:=bnd e
 obtain ⟨ds,e3,e4⟩:=bnd e2
 obtain ⟨⟨hpos,hall,hnl⟩,e5⟩:(0 < ds.length∧(∀ x∈ds,∀ y∈ds,(ltD x y).isSome=true)∧∀ ps,qs[argBest (btD ds) (ds.length - 1)]?≠some (.lst ps))∧qs[argBest (btD ds) (ds.length - 1)]?=some z:=by
  split at e4
  ·rename_i h; exact ⟨h,e4⟩
  ·cases e4
 obtain ⟨a,ys,rfl,hq,ry⟩:=rv.list hs e1
 obtain ⟨u,rfl,ru⟩:=a2w r
 cases (show u=Value.ref a from ru)
 obtain ⟨its,r',pl,hz'⟩:=I.list hq
 have hh:X.A.in1.handled=none:=I.ok.hd hc
 have hlen:ys.length=its.length:=r'.length
 have hql:=ry.length
 have hdl:=b2t e3
 have hl2:its.length=ds.length:=by rw [← hlen,← hql,hdl]
 have it:∀ (i:Nat) (v:Value),its.toArray[i]?=some v→∃ (p:FV) (y:V) (d:D),qs[i]?=some p∧ds[i]?=some d∧fD a0l p=some d∧RV X.K S p y∧RelV y v:=fun i v hv=>by
  have hv:its[i]?=some v:=by simpa using hv
  have hi:=(List.getElem?_eq_some_iff.mp hv).1
  have hi':i < qs.length:=by lia
  obtain ⟨d,f3,f4⟩:=b2u e3 i qs[i] (List.getElem?_eq_getElem hi')
  obtain ⟨y,f1,f2⟩:=ry.get (i:=i) (List.getElem?_eq_getElem hi')
  obtain ⟨u,g1,g2⟩:=r'.get f1
  rw [hv] at g1; cases g1
  exact ⟨_,y,d,List.getElem?_eq_getElem hi',f3,f4,f2,g2⟩
 refine a7j (bt:=btD ds) hh pl.isList (by simp; lia) (fun i j u v s1 Q1 E1 kp hi hj q1=>?_) fun v h' tk hv hk=>?_
 ·obtain ⟨p1,y1,d1,a1,a2,a3,a4,a5⟩:=it i u hi
  obtain ⟨p2,y2,d2,b1,b2,b3,b4,b5⟩:=it j v hj
  obtain ⟨as,ra⟩:=a2q I hs (.inl a4) a5 a3
  obtain ⟨bs,rb⟩:=a2q I hs (.inl b4) b5 b3
  have hk:∀ b o,s.heap.get? b=some o→s1.heap.get? b=some o:=fun b o e=>kp b o (Heap.lt_size e) e
  have hcmp:=hall d1 (List.mem_of_getElem? a2) d2 (List.mem_of_getElem? b2)
  cases hr:ltD d1 d2 with
  | none=>rw [hr] at hcmp; cases hcmp
  | some c =>
   have hb:btD ds i j=c:=by simp only [btD,List.getD_eq_getElem?_getD,a2,b2,Option.getD_some,hr]
   rw [hb] at q1
   have hd:=a4f a3
   unfold a0l at hd
   exact c3i d1 d2 X.A.in1 s1 u v as bs c (PyProof.Rows.Reads.keeps hk ra) (PyProof.Rows.Reads.keeps hk rb) hr (by show X.A.units + 1 + _ < _; lia) X.prog X.w _ _ q1
 ·have hv:its[argBest (btD ds) (its.toArray.size - 1)]?=some v:=by simpa using hv
  have hsz:its.toArray.size - 1=ds.length - 1:=by simp; lia
  rw [hsz] at hv
  obtain ⟨p,y,d,a1,a2,a3,a4,a5⟩:=it _ v (by simpa using hv)
  rw [e5] at a1; cases a1
  exact ⟨y,H,I.kept (t':=tk) hk,a5,k.old _ (fun ps hz=>hnl ps (by rw [e5,hz])) a4⟩
end
section
variable {X:Cx} {C:CC} {n:Nat} {sp:Γd→Nat→Sp} {a:Expr} {ea:EW} {pos p:Pos}
theorem d7r (G:Good X C n sp) (hg:C.gl (Γe "min")=true) (hs:a0k a=false) (ha:FR X C a ea):FE X C (.Call (.Name (Γe "min") p) [a] [] pos) (eUn b4e ea):=b1k (d1s G.calm G.room.units) G (by decide) (by nofun) (by nofun) (by nofun) hg hs ha
end
noncomputable def a0x {α:Type} (lt:α→α→Bool):α→List α→α
 | b,[]=>b
 | b,x :: r=>a0x lt (if lt x b=true then x else b) r
theorem a5r {α:Type} (lt:α→α→Bool):∀ (xs:List α) (b x:α),a0x lt b (xs++[x])=if lt x (a0x lt b xs)=true then x else a0x lt b xs
 | [],b,x=>rfl
 | y :: ys,b,x=>by
  show a0x lt (if lt y b=true then y else b) (ys++[x])=_
  rw [a5r lt ys]; rfl
theorem a7b {α:Type} (lt:α→α→Bool) (bt:Nat→Nat→Bool) (n:α) (r:List α) (h:∀ i j x y,(n :: r)[i]?=some x→(n :: r)[j]?=some y→bt i j=lt x y):∀ k,k≤r.length→(n :: r)[argBest bt k]?=some (a0x lt n (r.take k))
 | 0,_=>by simp [argBest,a0x]
 | k + 1,hk=>by
  have ih:=a7b lt bt n r h k (by lia)
  have hk:k < r.length:=hk
  have e2:(n :: r)[k + 1]?=some r[k]:=by simp [hk]
  rw [List.take_succ_eq_append_getElem hk,a5r]
  simp only [argBest,h (k + 1) (argBest bt k) _ _ e2 ih]
  split
  ·exact e2
  ·exact ih
theorem c5x {α:Type} (enc:α→FV) (encD:α→D) (lt:α→α→Bool) (h1:∀ a,fD a0l (enc a)=some (encD a)) (h2:∀ a b,ltD (encD a) (encD b)=some (lt a b)) (h3:∀ a ps,enc a≠.lst ps) (n:α) (r:List α) (Q:FV→Prop):wp (b4e (.lst ((n :: r).map enc))) Q↔Q (enc (a0x lt n r)):=by
 have hm:∀ xs:List α,a5p (fD a0l) (xs.map enc)=some (xs.map encD):=by
  intro xs
  induction xs with
  | nil=>rfl
  | cons x r ih=>simp only [List.map_cons,a5p,h1,ih,Option.bind_some,Option.map_some]
 have hb:∀ i j x y,(n :: r)[i]?=some x→(n :: r)[j]?=some y→btD ((n :: r).map encD) i j=lt x y:=fun i j x y hx hy=>by
  simp only [btD,List.getD_eq_getElem?_getD,List.getElem?_map,hx,hy,Option.map_some,Option.getD_some,h2]
 have ha:=a7b lt _ n r hb r.length (Nat.le_refl _)
 rw [List.take_length] at ha
 have hx:((n :: r).map enc)[argBest (btD ((n :: r).map encD)) (((n :: r).map encD).length - 1)]?=some (enc (a0x lt n r)):=by
  rw [List.length_map,List.length_cons,Nat.add_sub_cancel,List.getElem?_map,ha]; rfl
 have he:b4e (.lst ((n :: r).map enc))=some (enc (a0x lt n r)):=by
  show ((some ((n :: r).map enc)).bind fun xs=>(a5p (fD a0l) xs).bind _)=_
  rw [Option.bind_some,hm,Option.bind_some,if_pos,hx]
  refine ⟨by simp,?_,?_⟩
  ·intro x hx y hy
   obtain ⟨a,-,rfl⟩:=List.mem_map.mp hx
   obtain ⟨b,-,rfl⟩:=List.mem_map.mp hy
   rw [h2]; rfl
  ·intro ps z
   rw [hx] at z
   exact h3 _ ps (Option.some.inj z)
 rw [he]; exact Iff.rfl
noncomputable def a3d {κ α:Type} [DecidableEq κ] (ks:List κ) (vs:List α) (k:κ) (v:α):List κ×List α :=
 if k∈ks then (ks,List.zipWith (fun k' v'=>if k'=k then v else v') ks vs) else (ks++[k],vs++[v])
noncomputable def a2z {κ α:Type} [DecidableEq κ]:List κ→List α→κ→Option α
 | k' :: ks,v :: vs,k=>if k'=k then some v else a2z ks vs k
 | _,_,_=>none
theorem b7w {a b:List Int} (h:a.map (Sum.inl:Int→Int ⊕ Str)=b.map Sum.inl):a=b:=by
 induction a generalizing b with
 | nil=>cases b with | nil=>rfl | cons=>cases h
 | cons x r ih=>cases b with
  | nil=>cases h
  | cons y q =>
   simp only [List.map_cons,List.cons.injEq,Sum.inl.injEq] at h
   rw [h.1,ih h.2]
theorem b1i:∀ (ks:List (List Int)) (us:List V) (k:List Int),b0m ((a1t ks).zip us) (k.map Sum.inl)=a2z ks us k
 | [],us,k=>by cases us <;> rfl
 | k' :: ks,[],k=>rfl
 | k' :: ks,u :: us,k=>by
  show b0m ((k'.map Sum.inl,u) :: (a1t ks).zip us) (k.map Sum.inl)=if k'=k then some u else a2z ks us k
  by_cases e:k'=k
  ·subst e; rw [a3w rfl,if_pos rfl]
  ·rw [a3x fun z=>e (b7w z),if_neg e]; exact b1i ks us k
theorem a4d {κ α:Type} [DecidableEq κ]:∀ {ks:List κ} {vs:List α} (k:κ),ks.length=vs.length→((a2z ks vs k).isSome=true↔k∈ks)
 | [],vs,k,h=>by simp [a2z]
 | k' :: ks,[],k,h=>by simp at h
 | k' :: ks,v :: vs,k,h=>by
  simp only [a2z]
  by_cases e:k'=k
  ·simp [e]
  ·simp only [e,if_false,List.mem_cons,Ne.symm e,false_or]
   rw [a4d k (by simpa using h)]
theorem b6j (ks:List (List Int)) (us:List V) (k:List Int) (u:V) (hl:ks.length=us.length):a6i ((a1t ks).zip us) (k.map Sum.inl) u=(a1t (a3d ks us k u).1).zip (a3d ks us k u).2:=by
 have hany:(((a1t ks).zip us).any fun kv=>decide (kv.1=k.map Sum.inl))=true↔k∈ks:=by
  rw [a5d,b1i,a4d k hl]
 unfold a6i a3d
 by_cases e:k∈ks
 ·rw [if_pos (hany.mpr e),if_pos e]
  clear e hany
  induction ks generalizing us with
  | nil=>cases us <;> rfl
  | cons k' ks ih=>cases us with
   | nil=>rfl
   | cons u' us =>
    have:=ih us (by simpa using hl)
    show (if k'.map Sum.inl=k.map Sum.inl then (k'.map Sum.inl,u) else (k'.map Sum.inl,u')) :: ((a1t ks).zip us).map _=(k'.map Sum.inl,if k'=k then u else u') :: (a1t ks).zip _
    rw [this]
    congr 1
    by_cases e:k'=k
    ·subst e; simp
    ·rw [if_neg fun z=>e (b7w z),if_neg e]
 ·rw [if_neg fun z=>e (hany.mp z),if_neg e]
  show _=(a1t (ks++[k])).zip (us++[u])
  have:a1t (ks++[k])=a1t ks++[k.map Sum.inl]:=by simp [a1t]
  rw [this,List.zip_append (by simpa [a1t] using hl)]; rfl
theorem a4b {κ α:Type} [DecidableEq κ] (ks:List κ) (vs:List α) (k:κ) (v:α) (h:ks.length=vs.length):(a3d ks vs k v).1.length=(a3d ks vs k v).2.length∧(a3d ks vs k v).1.length≤ks.length + 1:=by
 unfold a3d
 split
 ·simp [h]
 ·simp [h]
section
variable {K:Γd} {S H:Hp}
theorem b6k {κ:Type} [DecidableEq κ] {k:κ} {v:FV} {u:V} (r2:RV K S v u):∀ {ks:List κ} {vs:List FV} {us:List V},RVs K S vs us→RVs K S (List.zipWith (fun k' v'=>if k'=k then v else v') ks vs) (List.zipWith (fun k' v'=>if k'=k then u else v') ks us)
 | [],vs,us,_=>rfl
 | k' :: ks,[],us,r=>by cases (show us=[] from r); rfl
 | k' :: ks,p :: vs,us,⟨x,q,e,h1,h2⟩=>by
  subst e
  refine ⟨_,_,rfl,?_,b6k r2 h2⟩
  by_cases e:k'=k
  ·simp only [e,if_true]; exact r2
  ·simp only [e,if_false]; exact h1
theorem a7w {κ:Type} [DecidableEq κ] {ks:List κ} {vs:List FV} {us:List V} {k:κ} {v:FV} {u:V} (r:RVs K S vs us) (r2:RV K S v u):(a3d ks vs k v).1=(a3d ks us k u).1∧RVs K S (a3d ks vs k v).2 (a3d ks us k u).2:=by
 unfold a3d
 split
 ·exact ⟨rfl,b6k r2 r⟩
 ·exact ⟨rfl,r.append (RVs.one r2)⟩
theorem a8k {κ:Type} [DecidableEq κ]:∀ {ks:List κ} {vs:List FV} {us:List V} {k:κ} {v:FV},RVs K S vs us→a2z ks vs k=some v→∃ u,a2z ks us k=some u∧RV K S v u
 | [],vs,us,k,v,r,e=>by simp [a2z] at e
 | k' :: ks,[],us,k,v,r,e=>by simp [a2z] at e
 | k' :: ks,p :: vs,us,k,v,⟨x,q,e',h1,h2⟩,e=>by
  subst e'
  simp only [a2z] at e ⊢
  by_cases e0:k'=k
  ·rw [if_pos e0] at e ⊢; cases e; exact ⟨x,rfl,h1⟩
  ·rw [if_neg e0] at e ⊢; exact a8k h2 e
theorem b7n {ps:List FV} {k:List Int} {x:V} (r:RV K S (.tup ps) x) (e:a0z ps=some k):∃ b,x=.ref b∧S b=some (.tup ((k.map (Sum.inl:Int→Int ⊕ Str)).map kV)):=by
 obtain ⟨b,xs,rfl,h1,h2⟩:=r
 refine ⟨b,rfl,?_⟩
 rw [h1,a1b h2 e,List.map_map]; rfl
variable {c:Cn} {md:Md} {L:a0c} {σ:L2.St}
theorem c5v {q:Addr} {ks:List (List Int)} {vs:List FV} {us:List V} (I:Iv K c md L σ S H) (h1:S q=none) (h2:H q=some (.dT ((a1t ks).zip us))) (hl:ks.length=vs.length) (h3:RVs K S vs us) (fr:a8t c md L σ q):∃ u,H q=some u∧Iv K c md L σ (upd S q u) H∧RV K (upd S q u) (.dct ks vs) (.ref q):=by
 have s:=a0p (o:=.dT ((a1t ks).zip us)) h1
 refine ⟨_,h2,⟨I.len,fun i v h e=>let ⟨x,e1,r⟩:=I.imm i v h e; ⟨x,e1,r.mono s⟩,fun i v h e=>?_,I.dis,fun a u e=>?_,I.frame,I.s0.trans s,fun a u e=>?_,I.lent,I.fzs,I.fzm,I.fzp,fun p hp=>let ⟨g1,g2,g3⟩:=I.prs p hp; ⟨g1,by rw [a0e (fr.2.1 p hp)]; exact g2,g3⟩,I.ntp⟩,q,us,rfl,hl,a0f,h3.mono s⟩
 ·obtain ⟨b,e1,⟨g1,rs,zs,g2,g3,g4⟩,g5⟩:=I.own i v h e
  have hb:b≠q:=fun z=>by subst z; exact fr.2.2 i v h e e1
  exact ⟨b,e1,⟨by rw [a0e hb]; exact g1,rs,zs,g2,g3,g4.mono s⟩,g5⟩
 ·by_cases z:a=q
  ·subst z; rw [a0f] at e; cases e; exact h2
  ·rw [a0e z] at e; exact I.sub a u e
 ·by_cases z:a=q
  ·subst z; exact .inr (.inl fr.1)
  ·rw [a0e z] at e; exact I.grow a u e
end
noncomputable def a4w (n m:Nat) (tg:Tg) (t:BW) (ek ev:EW):List FV→List (List Int)→List FV→a0c→(List (List Int)→List FV→a0c→Prop)→Prop
 | [],ks,vs,L,Q=>Q ks vs L
 | x :: xs,ks,vs,L,Q=>gW tg x (L++List.replicate m none) fun L1=>t L1 fun b L2=>if b=true then ek L2 fun kx L3=>wp (a6f kx) fun ps=>wp (a0z ps) fun k=>ev L3 fun v L4=>a4w n m tg t ek ev xs (a3d ks vs k v).1 (a3d ks vs k v).2 (L4.take n) Q else a4w n m tg t ek ev xs ks vs (L2.take n) Q
noncomputable def b8i (n m:Nat) (it:AW) (tg:Tg) (t:BW) (ek ev:EW):EW:=fun L Q=>it L fun xs L1=>L1.length=n∧xs.length≤big∧a4w n m tg t ek ev xs [] [] L1 fun ks vs L2=>Q (.dct ks vs) L2
section
variable {K:Γd} {c:Cn} {md:Md} {L:a0c} {σ:L2.St} {S H:Hp}
theorem b8y {J : It} {xs : List FV} {n m : Nat} {tg : Tg} {t : BW} {ek ev : EW} {Q : VK} {Q1 : List (List Int) → List FV → a0c → Prop} (I : Iv K c md L σ S H) (hJ : ItR K c md J xs S) (hL : L.length = n) (hmd : md.length ≤ n) (ht : a3l md tg = true) (hg : a7o n tg = true) (hb : xs.length ≤ big) (h : a4w n m tg t ek ev xs [] [] L Q1)
    (k : ∀ acc ks vs us L' S' H', H acc = none → Q1 ks vs L' → S' acc = none → H' acc = some (.dT ((a1t ks).zip us)) → ks.length = vs.length → RVs K S' vs us → a8t c md L' σ acc → Iv K c md L' σ S' H' → Same S S' → Q (.ref acc) H') :
    ∀ acc, H acc = none → ∃ W : Nat → Nat → Hp → Prop, (∃ m, W 0 m (upd H acc (.dT []))) ∧ ∀ i j H, W i j H →
      (J.stop i H ∧ Q (.ref acc) H) ∨ (J.go i H ∧ ∀ x H', J.yld i H x H' → gT K tg x (σ ++ List.replicate m none) H' fun σ2 H2 => Wk (σ ++ List.replicate m none) σ2 ∧ lb K md t σ2 H2 fun b H3 =>
        if b = true then lv K md ek σ2 H3 fun y H4 => lv K md ev σ2 H4 fun v H5 => ∃ kvs k b, H5 acc = some (.dT kvs) ∧ y = .ref b ∧ H5 b = some (.tup (k.map kV)) ∧ kvs.length < sizeLine ∧ ∃ m', m' < j ∧ W (i + 1) m' (upd H5 acc (.dT (a6i kvs k v))) else ∃ m', m' < j ∧ W (i + 1) m' H3) := by
  intro acc hacc
  have h0 := I.h0 hacc
  have hp : ∀ p ∈ c.pr, p.1 ≠ acc := (I.fresh hacc).2.1
  have hz := I.fzp
  have hl : σ.length = n := by rw [← I.len]; exact hL
  have hbl := a1p
  let W : Nat → Nat → Hp → Prop := fun i j H1 => ∃ L S1 ks vs us, j = (xs.drop i).length ∧ Iv K { c with pr := (acc, .dT ((a1t ks).zip us)) :: c.pr } md L σ S1 H1 ∧ ks.length = vs.length ∧ RVs K S1 vs us ∧ Same S S1 ∧ L.length = n ∧ ks.length ≤ i ∧ a4w n m tg t ek ev (xs.drop i) ks vs L Q1
  have I1 : Iv K { c with pr := (acc, .dT []) :: c.pr } md L σ S (upd H acc (.dT [])) := (I.lay hacc _).prot a0f (I.sn hacc) fun j w hm hj => (I.fresh hacc).2.2 j w (fun z => by rw [hm] at z; cases z) hj
  refine ⟨W, ⟨_, L, S, [], [], [], rfl, I1, rfl, rfl, Same.refl S, hL, Nat.le_refl _, by rw [List.drop_zero]; exact h⟩, ?_⟩
  rintro i j H1 ⟨L, S1, ks, vs, us, rfl, I, hkl, r, s, hL, hps, hc⟩
  have I0 := I.unprot hz
  obtain ⟨j1, j2⟩ := hJ i L σ S1 H1 I0 s
  obtain ⟨g1, g2, g3⟩ := I.prs (acc, .dT ((a1t ks).zip us)) List.mem_cons_self
  cases hd : xs.drop i with
  | nil =>
    left
    rw [hd] at hc
    refine ⟨j1 (List.getElem?_eq_none_iff.mpr (List.drop_eq_nil_iff.mp hd)), k acc ks vs us L S1 H1 hacc hc g2 g1 hkl r ⟨h0, hp, fun q w hm hq hs => ?_⟩ I0 s⟩
    by_cases mo : a0q md q = .own
    · exact g3 q w mo hq hs
    · have mo : a0q md q = .frz := by cases z : a0q md q with | imm => exact absurd z hm | own => exact absurd z mo | frz => rfl
      obtain ⟨b, f1⟩ := I0.fzm q w mo hq
      obtain ⟨_, f2, _⟩ := I0.fzs _ f1
      rw [hs] at f2; cases f2
      obtain ⟨ys, f3⟩ := hz _ f1
      exact hp _ f3 rfl
  | cons p rest =>
    right
    rw [hd] at hc
    have hi : xs[i]? = some p := by
      have := congrArg (·[0]?) hd
      simpa using this
    have hd' : xs.drop (i + 1) = rest := by
      have := congrArg List.tail hd
      simpa [List.tail_drop] using this
    have hix : i < xs.length := (List.getElem?_eq_some_iff.mp hi).1
    obtain ⟨go, yl⟩ := j2 p hi
    refine ⟨go, fun x H2 y => ?_⟩
    obtain ⟨S2, s2, tr, rx⟩ := yl x H2 y
    have I2 := (tr _ _ _ _ I).more m
    obtain ⟨σ2, L2, gq, q2, I2, len2, far⟩ := a7f ht I2 rx hc
    have l2 : n ≤ σ2.length := by rw [len2, List.length_append, hl]; lia
    have far' : ∀ q, q < n → σ2[q]? = σ[q]? := fun q hq => by rw [far n hg q hq, List.getElem?_append_left (by rw [hl]; exact hq)]
    refine gq _ ⟨⟨len2, fun q v hv => ?_⟩, ?_⟩
    · have hq : q < n := by
        by_cases h : q < σ.length
        · rw [← hl]; exact h
        · rw [List.getElem?_append_right (by lia), List.getElem?_replicate] at hv
          split at hv <;> cases hv
      rw [far n hg q hq]; exact hv
    · refine ⟨_, L2, S2, _, I2, q2, fun b L3 hb3 S3 H3 I3 s3 => ?_⟩
      cases b with
      | false =>
        rw [if_neg Bool.false_ne_true] at hb3 ⊢
        exact ⟨rest.length, by simp, L3.take n, S3, ks, vs, us, by rw [hd'], I3.take hmd hl l2 far', hkl, r.mono (s2.trans s3), s.trans (s2.trans s3), by rw [List.length_take, I3.len]; lia, by lia, by rw [hd']; exact hb3⟩
      | true =>
        rw [if_pos rfl] at hb3 ⊢
        refine ⟨_, L3, S3, _, I3, hb3, fun kx L4 hk u S4 H4 r4 I4 s4 => ?_⟩
        obtain ⟨ps, e1, hk1⟩ := wpx hk
        obtain ⟨kk, e2, hk2⟩ := wpx hk1
        cases a1x e1
        obtain ⟨b, rfl, hb4⟩ := b7n r4 e2
        refine ⟨_, L4, S4, _, I4, hk2, fun v L5 hv u S5 H5 r5 I5 s5 => ?_⟩
        obtain ⟨k1, _⟩ := I5.prs (acc, .dT ((a1t ks).zip us)) List.mem_cons_self
        have lr := r.length
        have r' := r.mono (s2.trans (s3.trans (s4.trans s5)))
        obtain ⟨pe, pr⟩ := a7w (ks := ks) (k := kk) r' r5
        obtain ⟨pl1, pl2⟩ := a4b ks vs kk v hkl
        refine ⟨_, kk.map Sum.inl, b, k1, rfl, I5.sub _ _ (s5 _ _ hb4), by rw [List.length_zip]; have : (a1t ks).length = ks.length := by simp [a1t]
                                                                           lia, rest.length, by simp, L5.take n, S5, (a3d ks vs kk v).1, (a3d ks vs kk v).2, (a3d ks us kk u).2, by rw [hd'], ?_, pl1, pr, s.trans (s2.trans (s3.trans (s4.trans s5))), by rw [List.length_take, I5.len]; lia, by lia, by rw [hd']; exact hv⟩
        rw [b6j ks us kk u (by lia), pe]
        exact (I5.take hmd hl l2 far').regrow h0 hp hz
end
section
variable {X:Cx} {C:CC} {n:Nat} {sp:Γd→Nat→Sp} {pos:Pos} {scope:Scope} {own:List Str} {kx vx tgx iter:Expr} {ifs:List Expr} {it:AW} {tg:Tg} {t:BW} {ek ev:EW} {nn m:Nat} {md':Md}
theorem c1s (G:Good X C n sp) (h:CompOk X C n sp scope own kx tgx iter ifs nn m md' it tg t ek) (hv:∀ X',Good X' (C.sub scope own md') n sp→FE X' (C.sub scope own md') vx ev):FE X C (.DictComp kx vx [⟨tgx,iter,ifs,0⟩] scope pos) (b8i nn m it tg t ek ev):=by
 have h0:=b2 h.st; have h1:=b2 h0.1; have h2:=b2 h1.1; have h3:=b2 h2.1; have h4:=b2 h3.1; have h5:=b2 h4.1; have h6:=b2 h5.1
 obtain ⟨s1,s2⟩:=G.sub h6.1 md'
 have hu:X.A.units + 1 < cLine:=by have:=G.room.units; lia
 have blk:∀ fp D s H,PG (cxC X scope own fp D s H) tgx (gT X.K tg)∧PTs (cxC X scope own fp D s H) ifs (lb X.K md' t)∧PE (cxC X scope own fp D s H) kx (lv X.K md' ek)∧PE (cxC X scope own fp D s H) vx (lv X.K md' ev):=fun fp D s H=>⟨h.tg _ (s2 fp D s H),h.ts _ (s2 fp D s H),h.el _ (s2 fp D s H),hv _ (s2 fp D s H)⟩
 refine PE.imp (c0w (X:=X) hu G.calm s1 h.it blk (b8a (nb h0.2))) fun σ H Q ⟨c,L,S,Q0,I,hh,k⟩=>?_
 refine ⟨c,L,S,_,I,hh,fun xs L1 hx J c' S1 H1 I1 un e0 hJ s1=>?_⟩
 obtain ⟨hl,hb,hc⟩:=hx
 rw [de h5.2]
 refine b8y I1 hJ hl (de h4.2) h2.2 h1.2 hb hc fun acc ks vs us L' S' H' hn q g1 g2 g3 g4 fr I' s'=>?_
 obtain ⟨u,hu,I2,r⟩:=c5v (un _ _ _ _ I') g1 g2 g3 g4 ⟨by rw [← e0]; exact fr.1,((un _ _ _ _ I1).fresh hn).2.1,fun j w hm=>fr.2.2 j w (a5o h3.2 j hm)⟩
 exact k _ L' q _ _ H' r I2 ((s1.trans s').trans (a0p g1))
end
noncomputable def c3o (a b:FV):Option FV:=match b with
 | .dct ks _=>(a6f a).bind fun ps=>(a0z ps).bind fun k=>some (.bl (decide (k∈ks)))
 | .dci ks _=>(a3o a).bind fun k=>some (.bl (decide (k∈ks)))
 | b=>inB a b
noncomputable def ni2B (a b:FV):Option FV:=match b with
 | .dct ks _=>(a6f a).bind fun ps=>(a0z ps).bind fun k=>some (.bl (!decide (k∈ks)))
 | .dci ks _=>(a3o a).bind fun k=>some (.bl (!decide (k∈ks)))
 | b=>niB a b
noncomputable def b4t (v w:FV):Option FV:=match v with
 | .dct ks vs=>(a6f w).bind fun ps=>(a0z ps).bind fun k=>a2z ks vs k
 | _=>none
section
variable {X:Cx}
theorem RH.dct {K:Γd} {S H:Hp} {ks:List (List Int)} {vs:List FV} {y:V} (hs:Same S H) (rq:RH K S H (.dct ks vs) y):∃ a us,y=.ref a∧ks.length=vs.length∧H a=some (.dT ((a1t ks).zip us))∧RVs K S vs us:=by
 rcases rq with ⟨a,us,e,hl,h1,h2⟩ | ⟨a,e,_,ps,us,e9,h1,h2⟩
 ·exact ⟨a,us,e,hl,hs _ _ h1,h2⟩
 ·obtain ⟨hl,rfl⟩:=itd e9
  exact ⟨a,us,e,hl,h1,h2⟩
theorem a8p {S H:Hp} {ks:List (List Int)} {vs:List FV} {ps:List FV} {k:List Int} {x y:V} (hs:Same S H) (rp:RH X.K S H (.tup ps) x) (rq:RH X.K S H (.dct ks vs) y) (e:a0z ps=some k):∃ a us,y=.ref a∧ks.length=us.length∧RVs X.K S vs us∧L2.DGet H a x (a2z ks us k):=by
 obtain ⟨a,us,rfl,hl,h1,h2⟩:=rq.dct hs
 obtain ⟨b,rfl,hb⟩:=b7n (rp.val rfl) e
 refine ⟨a,us,rfl,by rw [hl,h2.length],h2,?_⟩
 rw [← b1i]
 exact .t h1 (hs _ _ hb)
theorem a8j:∀ (ks:List Int) (us:List V) (k:Int),b0m ((a3m ks).zip us) (Sum.inl k)=a2z ks us k
 | [],us,k=>by cases us <;> rfl
 | k' :: ks,[],k=>rfl
 | k' :: ks,u :: us,k=>by
  show b0m ((Sum.inl k',u) :: (a3m ks).zip us) (Sum.inl k)=if k'=k then some u else a2z ks us k
  by_cases e:k'=k
  ·subst e; rw [a3w rfl,if_pos rfl]
  ·rw [a3x fun z=>e (Sum.inl.inj z),if_neg e]; exact a8j ks us k
theorem RH.dci {K:Γd} {S H:Hp} {ks:List Int} {vs:List FV} {y:V} (hs:Same S H) (rq:RH K S H (.dci ks vs) y):∃ a us,y=.ref a∧ks.length=vs.length∧H a=some (.dK ((a3m ks).zip us))∧RVs K S vs us:=by
 rcases rq with ⟨a,us,e,hl,h1,h2⟩ | ⟨a,e,_,ps,us,e9,h1,h2⟩
 ·exact ⟨a,us,e,hl,hs _ _ h1,h2⟩
 ·obtain ⟨hl,rfl⟩:=itd e9
  exact ⟨a,us,e,hl,h1,h2⟩
theorem b8l {S H:Hp} {ks:List Int} {vs:List FV} {k:Int} {y:V} (hs:Same S H) (rq:RH X.K S H (.dci ks vs) y):∃ a us,y=.ref a∧ks.length=us.length∧RVs X.K S vs us∧L2.DGet H a (.int k) (a2z ks us k):=by
 obtain ⟨a,us,rfl,hl,h1,h2⟩:=rq.dci hs
 refine ⟨a,us,rfl,by rw [hl,h2.length],h2,?_⟩
 rw [← a8j]
 exact .k (k:=Sum.inl k) h1
theorem d5m (hu:X.A.units + 64 < cLine):OpR X (compareOp .In) (Rq X.K c3o):=by
 intro pins s σ H x y v u Q I rx ry ⟨S,p,q,z,hs,rp,rq,e,k⟩
 cases q with
 | dct ks vs =>
  obtain ⟨ps,e1,e2⟩:=bnd e
  obtain ⟨kk,e3,e4⟩:=bnd e2
  cases a1x e1
  cases e4
  obtain ⟨a,us,rfl,hl,h2,g⟩:=a8p hs rp rq e3
  cases (show u=Value.ref a from ry)
  refine d_in (by lia) I g rx fun s' I'=>⟨.bl _,H,I',rfl,?_⟩
  have:(a2z ks us kk).isSome=decide (kk∈ks):=by rw [Bool.eq_iff_iff,a4d kk hl]; simp
  rw [this]
  exact k.bl
 | dci ks vs =>
  obtain ⟨kk,e1,e4⟩:=bnd e
  cases a1m e1
  cases e4
  cases rp.int
  obtain ⟨a,us,rfl,hl,h2,g⟩:=b8l (k:=kk) hs rq
  cases (show u=Value.ref a from ry)
  refine d_in (by lia) I g rx fun s' I'=>⟨.bl _,H,I',rfl,?_⟩
  have:(a2z ks us kk).isSome=decide (kk∈ks):=by rw [Bool.eq_iff_iff,a4d kk hl]; simp
  rw [this]
  exact k.bl
 | _=>exact q_in hu pins s σ H x y v u Q I rx ry ⟨S,p,_,z,hs,rp,rq,e,k⟩
end
theorem c8f:a4j c3o:=by
 intro v w z e
 cases w with
 | dct ks vs =>
  obtain ⟨ps,_,e⟩:=bnd e
  obtain ⟨k,_,e⟩:=bnd e
  cases e; exact ⟨_,rfl⟩
 | dci ks vs =>
  obtain ⟨k,_,e⟩:=bnd e
  cases e; exact ⟨_,rfl⟩
 | _ =>
  obtain ⟨b,_,rfl⟩:=mpd (show (inF v _).map FV.bl=some z from e)
  exact ⟨_,rfl⟩
section
variable {X:Cx} {C:CC} {n:Nat} {sp:Γd→Nat→Sp} {a b:Expr} {ea eb:EW} {pos p:Pos}
theorem fb_in2 (G:Good X C n sp) (ha:FE X C a ea) (hb:FR X C b eb) (hm:behindInMarks .In b=false):FB X C (.Compare a [.In] [b] pos) (a1i (eOp c3o ea eb)):=a7h c8f (d5m G.room.units) ha hb hm
variable {es:List Expr} {k:Nat} {p2:Pos}
theorem d7w (G:Good X C n sp) (ha:FE X C a ea) (hb:FE X C (.Tuple es k p2) eb):FE X C (.Subscript a (.Tuple es k p2) pos) (eOp b4t ea eb) :=
 PE.imp (b6x (X:=X.nox) (by have:=G.room.units; show X.A.units + 1 < cLine; lia) ha hb fun _ _=>rfl) fun σ H Q ⟨c,L,S,Q0,I,h,k⟩ =>
 ⟨c,L,S,_,I,h,fun v L1 hv x S1 H1 r1 I1 s1=>⟨c,L1,S1,_,I1,hv,fun w L2 hw y S2 H2 r2 I2 s2=>by
  obtain ⟨z,e,q⟩:=wpx hw
  cases v with
  | dct ks vs =>
   obtain ⟨ps,e1,e2⟩:=bnd e
   obtain ⟨kk,e3,e4⟩:=bnd e2
   cases a1x e1
   obtain ⟨a,us,rfl,hl,h2,g⟩:=a8p (X:=X) I2.sub (.inl r2) (.inl (r1.mono s2)) e3
   obtain ⟨u,e5,r5⟩:=a8k h2 e4
   rw [e5] at g
   exact ⟨a,u,rfl,g,k z L2 q u S2 H2 r5 I2 (s1.trans s2)⟩
  | _=>cases e⟩⟩
end
section
variable (Q:FV→Prop)
@[scoped simp ↓] theorem k_in2t (a:FV) (xs:List FV):wp (c3o a (.tup xs)) Q↔wp (inF a (.tup xs)) fun r=>Q (.bl r):=a2l _ _ _
@[scoped simp ↓] theorem k_dget (ps:List FV) (ks:List (List Int)) (vs:List FV):wp (b4t (.dct ks vs) (.tup ps)) Q↔wp (a0z ps) fun k=>wp (a2z ks vs k) Q:=by
 show wp ((a0z ps).bind _) Q↔_; rw [a3a]
@[scoped simp ↓] theorem ints_n (Q:List Int→Prop):wp (a0z []) Q=Q []:=propext Iff.rfl
@[scoped simp ↓] theorem ints_c (i:Int) (r:List FV) (Q:List Int→Prop):wp (a0z (.int i :: r)) Q↔wp (a0z r) fun ns=>Q (i :: ns):=by
 show wp ((a0z r).map (i :: ·)) Q↔_; rw [a2l]
end
@[scoped simp ↓] theorem d1d (n m:Nat) (it:AW) (tg:Tg) (t:BW) (ek ev:EW) (L:a0c) (Q:FV→a0c→Prop):b8i n m it tg t ek ev L Q=(it L fun xs L1=>L1.length=n∧xs.length≤big∧a4w n m tg t ek ev xs [] [] L1 fun ks vs L2=>Q (.dct ks vs) L2):=propext Iff.rfl
theorem b0a {α:Type} {tg:Tg} {n m:Nat} {ek ev:EW} {f:α→FV} {g:α→List Int} {h:α→FV} {Q:List (List Int)→List FV→a0c→Prop} {L:a0c}:∀ (xs:List α) (ks:List (List Int)) (vs:List FV),
  (∀ x∈xs,g x ∉ ks)→(xs.map g).Nodup →
  (∀ x∈xs,∀ K:List Int→FV→a0c→Prop,K (g x) (h x) L→gW tg (f x) (L++List.replicate m none) fun L1=>ek L1 fun kx L3=>wp (a6f kx) fun ps=>wp (a0z ps) fun k=>ev L3 fun v L4=>K k v (L4.take n))→Q (ks++xs.map g) (vs++xs.map h) L→a4w n m tg a1q ek ev (xs.map f) ks vs L Q
 | [],ks,vs,_,_,_,E=>by
  show Q ks vs L
  simpa using E
 | x :: xs,ks,vs,hn,hd,B,E=>by
  refine B x List.mem_cons_self (fun k v L'=>a4w n m tg a1q ek ev (xs.map f) (a3d ks vs k v).1 (a3d ks vs k v).2 L' Q) ?_
  have hk:=hn x List.mem_cons_self
  simp only [List.map_cons,List.nodup_cons] at hd
  have e:a3d ks vs (g x) (h x)=(ks++[g x],vs++[h x]):=by simp [a3d,hk]
  rw [e]
  refine b0a xs _ _ (fun y hy hm=>?_) hd.2 (fun y hy=>B y (List.mem_cons_of_mem _ hy)) (by simpa using E)
  rcases List.mem_append.mp hm with hm | hm
  ·exact hn y (List.mem_cons_of_mem _ hy) hm
  ·simp at hm
   exact hd.1 (by rw [← hm]; exact List.mem_map_of_mem hy)
end Kq
end
section
namespace PySem
theorem F.nolen_lri:typeLookup (.type "list_reverseiterator") "__len__" = pure none:=by rw [typeLookup_type,builtinLookup_eq_fast]; kernel_rfl
theorem F.slot_lri_hint:Slot "list_reverseiterator" "__length_hint__" "list_reverseiterator.__length_hint__" :=
 .of (owner:="list_reverseiterator") (n:="__length_hint__") (by rw [typeLookup_type,builtinLookup_eq_fast]; kernel_rfl) (by nofun) (by nofun) (by nofun)
  (by first | exact .inl (by decide +kernel) | exact .inr (by decide +kernel)) (by rw [isSubtype_type]; kernel_rfl)
section
variable {prog:Program} {w:World} {A:Around} {E:Value→Shared→Prop} {s:Shared}
theorem b1r {it l:Addr} {items:Array Value} {Q:List Value→Shared→Prop} (hh:A.handled=none) (hne:l≠it) (hit:s.heap.IsRevIter it l ((items.size:Int) - 1)) (hl:s.heap.IsList l items) (hz:items.size≤sizeLine)
  (hQ:∀ s' acc,Moved [it] (fun a b=>b=a) s s'→ItemsOf (fun i v=>items[items.size - 1 - i]?=some v) acc items.size→Q acc.toList s'):wpAny (model prog w) A (collect (.ref it)) Q E s:=by
 have W:=(Walks.listRev (prog:=prog) (w:=w) (A:=A.in1) (show A.in1.handled=none from hh) it l hne items).toS
 have l1:it < s.heap.objs.size:=by obtain ⟨o,e,_⟩:=hit; exact Heap.lt_size e
 have l2:l < s.heap.objs.size:=by obtain ⟨o,e,_⟩:=hl; exact Heap.lt_size e
 have hSf:s.heap.objs.size ∉ [it,l]:=fun hm=>by
  simp only [List.mem_cons,List.not_mem_nil,or_false] at hm
  rcases hm with hm | hm
  ·exact Nat.lt_irrefl _ (hm ▸ l1)
  ·exact Nat.lt_irrefl _ (hm ▸ l2)
 have hSI:s.heap.objs.size≠it:=fun e=>Nat.lt_irrefl _ (e ▸ l1)
 unfold collect
 refine Γa (wpAny_runValue (codeAny_builtin F.entry_proto_collect ?_)); rw [Around.under_plainId F.plain_proto_collect _]
 show wpAny _ A.in1 (newList [] >>= fun acc=>again (.builtin "list.__iadd__" ⟨[acc,.ref it],[]⟩)) _ _ s
 refine Γa (wpAny_newObj_type (Γb ⟨plainId_quiet F.plain_list_iadd _,codeAny_builtin F.entry_list_iadd ?_⟩)); rw [Around.under_plainId F.plain_list_iadd _]
 generalize hs1:({ s with heap:=s.heap.push { cls:=.type "list",data:=.seq ([]:List Value).toArray } }:Shared)=s1
 have k1:∀ b o,s.heap.get? b=some o→s1.heap.get? b=some o:=fun b o e=>by rw [← hs1]; exact Γc _ e
 have it1:=hit.at fun o e=>k1 it o e
 have li1:=hl.at fun o e=>k1 l o e
 have S1:s1.heap.get? s.heap.objs.size=some { cls:=.type "list",data:=.seq ([]:List Value).toArray }:=by rw [← hs1]; exact Heap.get?_push_size _ rfl
 have st1:0≤items.size∧s1.heap.IsRevIter it l ((items.size:Int) - 1 - ((0:Nat):Int))∧s1.heap.IsList l items:=⟨Nat.zero_le _,by simpa using it1,li1⟩
 have ty1:s1.TypeIs (.ref it) "list_reverseiterator":=it1.typeIs
 have h1:Builtin.List.listSameRef (.ref s.heap.objs.size) (.ref it)=false:=by simp [Builtin.List.listSameRef,hSI]
 show wpAny _ A.in1 (Builtin.List.listExtendWith (.ref s.heap.objs.size) (.ref it) (.ref s.heap.objs.size)) _ _ s1
 unfold Builtin.List.listExtendWith
 refine Γa (wpAny_typeOf ty1 ?_)
 rw [if_neg (by rw [h1]; decide)]
 refine Γa (W.self 0 s1 _ _ st1 (Γa (Γg ?_)))
 unfold Builtin.List.listLengthHint
 refine Γa (wpAny_specialOf ty1 F.nolen_lri ?_)
 show wpAny _ A.in1 (specialOf (Value.ref it) (Γe "__length_hint__") >>= _) _ _ _
 refine Γa (wpAny_specialOf ty1 F.slot_lri_hint.lookup ?_)
 (generalize hid:("list_reverseiterator.__length_hint__":String)=id0; (fail_if_success (clear hid id0)); wp_delta; rw [show splitId id0=some ("list_reverseiterator","__length_hint__") from by subst hid; nofun]; subst hid)
 refine Γa (wpAny_isInstance (b:=true) ty1 (by rw [isSubtype_type]; kernel_rfl) ?_)
 refine Γb ?_
 rw [if_neg (by decide)]
 refine Γb ⟨plainId_quiet F.plain_extend_loop _,codeAny_extend_loopS W hz _ hSf _ items.size 0 _ _ _ rfl (Nat.zero_le _) st1 S1 (ItemsOf.nil _) fun s' acc' c' hm hS' hacc=>?_⟩
 show wpAny _ A (load s.heap.objs.size >>= _) _ _ s'
 refine Γa (wpAny_load hS' (Γb (hQ s' acc' ?_ hacc)))
 subst hs1
 exact Moved.drop_new (o:={ cls:=.type "list",data:=.seq ([]:List Value).toArray }) (tk:=s.toks) hm (Nat.le_refl _)
end
end PySem
namespace Kq
open PySem PySem.Spec PyProof.Rows L2
section
variable {P:Program} {w:World} {A:Around} {E:Value→Shared→Prop} {s:Shared}
end
noncomputable def maxIF (v:FV):Option FV:=(a2e v).bind fun xs=>(a0z xs).bind fun ns=>match ns with
 | n :: r=>some (.int (c1c n r))
 | []=>none
section
variable {X:Cx}
end
section
variable {X:Cx} {C:CC} {n:Nat} {sp:Γd→Nat→Sp} {a:Expr} {ea:EW} {pos p:Pos}
end
end Kq
end
section
namespace PySem
section
variable {prog:Program} {w:World} {A:Around} {E:Value→Shared→Prop} {s:Shared}
theorem a6p {it l:Addr} {items:Array Value} {Q₁:Value→Shared→Prop} (hh:A.handled=none) (hne:l≠it) (hit:s.heap.IsRevIter it l ((items.size:Int) - 1)) (hl:s.heap.IsList l items) (hz:items.size≤sizeLine)
  (h:∀ s' acc,Moved [it] (fun a b=>b=a) s s'→ItemsOf (fun i v=>items[items.size - 1 - i]?=some v) acc items.size→Q₁ (.ref s'.heap.objs.size) { s' with heap:=s'.heap.push { cls:=.type "tuple",data:=.seq acc } }) :
  codeAny (model prog w) A (.call (.builtin "tuple.__new__") ⟨[.type "tuple",.ref it],[]⟩) (wants Q₁ E) s:=by
 refine codeAny_of_tree ?_
 show wpAny _ A.in1 (do checkBuiltinCall "tuple.__new__" ⟨[.type "tuple",.ref it],[]⟩; again (.builtin "tuple.__new__" ⟨[.type "tuple",.ref it],[]⟩)) _ _ s
 refine Γa (wpAny_of_eq (F.newCall_tuple_1 _) (Γb ⟨plainId_quiet F.plain_tuple_new _,codeAny_builtin F.entry_tuple_new ?_⟩)); rw [Around.under_plainId F.plain_tuple_new _]
 have hsub:=sub_tuple_self; have hinit:=init_tuple_lookup; have hmh:=madeHere_tuple
 have hTI:s.TypeIs (.ref it) "list_reverseiterator":=hit.typeIs
 wp_walk using wpAny_typeOf hTI,b1r (A:=A.in1) (show A.in1.handled=none from hh) hne hit hl hz
 intro s' acc hm hacc
 show wpAny _ _ (Builtin.Tuple.tupleExact acc.toList.toArray >>= fun v=>ret v) _ _ _
 unfold Builtin.Tuple.tupleExact
 refine Γa (wpAny_newObj_type (Γb ?_) (by show acc.toList.toArray.size≤sizeLine; simp only [Array.toArray_toList]; rw [hacc.1]; exact hz))
 have e:acc.toList.toArray=acc:=by simp
 rw [e]; exact h s' acc hm hacc
theorem a6r {it l:Addr} {items:Array Value} {Q:Value→Shared→Prop} (hh:A.handled=none) (hne:l≠it) (hit:s.heap.IsRevIter it l ((items.size:Int) - 1)) (hl:s.heap.IsList l items) (hz:items.size≤sizeLine)
  (hQ:∀ s' acc,Moved [it] (fun a b=>b=a) s s'→ItemsOf (fun i v=>items[items.size - 1 - i]?=some v) acc items.size→Q (.ref s'.heap.objs.size) { s' with heap:=s'.heap.push { cls:=.type "tuple",data:=.seq acc } }) :
  wpAny (model prog w) A (call (.type "tuple") [.ref it]) Q E s:=by
 refine callType_codes (Q₁:=fun obj s₁=>s₁.TypeIs obj "tuple"∧Q obj s₁) F.called_tuple (F.typeCall_tuple_1 _) F.entry_object_init (a6p (A:=A.in1) hh hne hit hl hz fun s' acc hm hacc=>⟨⟨_,Heap.get?_push_size _ rfl,rfl⟩,hQ s' acc hm hacc⟩) fun obj s₁ h₁=>?_
 exact ⟨h₁.1,F.args_object_init_2 obj _,object_init_meets F.called_tuple.init.lookup F.called_tuple.made (by decide) prog w A.in1 _ s₁ ⟨h₁.1,rfl,h₁.2⟩⟩
end
end PySem
namespace Kq
open PySem PySem.Spec PyProof.Rows L2
section
variable {X:Cx} {a:Expr} {ta:TA} {p p2 pos pos2:Pos}
theorem c5i (hc:X.calm=true) (hg:Gl X "reversed") (hm:X.mg "reversed" = none) (hg2:Gl X "tuple") (hm2:X.mg "tuple" = none) (ha:PA X [a] ta) (hs:starEach [a] X.env=[(false,eval a X.env)]) :
  PE X (.Call (.Name "tuple" p) [.Call (.Name "reversed" p2) [a] [] pos2] [] pos) (fun σ H Q=>ta σ H fun vs H1=>∃ l xs,vs=[.ref l]∧SqL X.K H1 l xs∧∀ q,H1 q=none→Q (.ref q) (upd H1 q (.tup xs.reverse))):=by
 intro pins s σ H Q I h
 refine wpAny_Call_Name_kw (a2u I hg2 hm2 (show bootBuiltins (Γe "tuple")=some (.type "tuple") by nofun) ?_ (by nofun) (by nofun))
 refine PyProof.Rows.callWith_type1 (T:="tuple") ?_ rfl rfl
 show wpAny _ _ (spliced ((false,eval (.Call (.Name "reversed" p2) [a] [] pos2) X.env) :: backTo pos [])) _ _ s
 refine Calls.spliced_cons (Call_ (a2u I hg hm (show bootBuiltins (Γe "reversed")=some (.type "reversed") by nofun) (PyProof.Rows.callWith_type1 (T:="reversed") (thn (ha pos2 pins s σ H _ I h) fun us s1 ⟨vs,H1,I1,r1,q1⟩=>?_) hs rfl)))
 obtain ⟨l,xs,e,hq,q⟩:=q1
 subst e
 obtain ⟨u,rfl,ru⟩:=a2w r1
 cases (show u=Value.ref l from ru)
 obtain ⟨its,rv,pl,hz⟩:=I1.list hq
 have hlen:=rv.length
 have ll:l < s1.heap.objs.size:=by obtain ⟨o,e,_⟩:=pl.isList; exact Heap.lt_size e
 refine call_reversed_list pl.isList (Calls.spliced_nil ?_)
 have I2:Inv X pins σ H1 { s1 with heap:=s1.heap.push (revObj l ((its.toArray.size:Int) - 1)) }:=I1.kept (t':=s1.toks) fun b o e=>Γc _ e
 refine a6r (items:=its.toArray) (l:=l) (I1.ok.hd hc) (Nat.ne_of_lt ll) ⟨_,Heap.get?_push_size _ rfl,rfl,rfl⟩ (pl.isList.push _) (by simpa [← hlen] using hz) fun s' acc hm hacc=>?_
 have I3:Inv X pins σ H1 s':=by
  have:=I1.kept (h':=s'.heap) (t':=s'.toks) fun b o e=>hm.heap b o (by simp; exact Nat.ne_of_lt (Heap.lt_size e)) (Γc _ e)
  have e:s' = { s1 with heap:=s'.heap,toks:=s'.toks }:=by
   obtain ⟨h1,h2,h3,h4,h5⟩:=hm
   obtain ⟨a,b,c,d,e⟩:=s'
   simp only at h2 h3 h4
   subst h2 h3 h4; rfl
  rw [e]; exact this
 refine ⟨.ref s'.heap.objs.size,_,I3.laid (t':=s'.toks) (o:=.tup xs.reverse) (fun b ob q=>Γc _ q) (Nat.le_refl _) ?_,rfl,q _ (I3.hok.fresh (Nat.le_refl _))⟩
 have e:acc.toList=its.reverse:=by
  have h1:acc.toList.length=its.length:=by simpa using hacc.1
  apply List.ext_getElem
  ·rw [List.length_reverse]; exact h1
  ·intro i h2 h3
   have h4:=hacc.2 i (acc.toList[i]) (by simp at h2; simp [h2])
   have h5:its[its.length - 1 - i]?=some acc.toList[i]:=by simpa using h4
   rw [List.getElem_reverse]
   exact ((List.getElem?_eq_some_iff.mp h5).2).symm
 refine ⟨by rw [List.length_reverse]; exact hz,its.reverse,rv.reverse,?_⟩
 rw [← e]
 exact IsTup.new _ _
end
noncomputable def c4s (v:FV):Option FV:=(a2e v).map fun xs=>.tup xs.reverse
@[scoped simp ↓] theorem f_revT (v:FV) (Q:FV→Prop):wp (c4s v) Q↔wp (a2e v) fun xs=>Q (.tup xs.reverse):=a2l _ _ _
theorem d7n {X:Cx} {C:CC} {n:Nat} {sp:Γd→Nat→Sp} {a:Expr} {ea:EW} {pos p p2 pos2:Pos} (G:Good X C n sp) (hg:(C.gl (Γe "reversed") && C.gl (Γe "tuple"))=true) (hs:a0k a=false) (ha:FR X C a ea):FE X C (.Call (.Name (Γe "tuple") p) [.Call (.Name (Γe "reversed") p2) [a] [] pos2] [] pos) (eUn c4s ea) :=
 PE.imp (c5i (X:=X.nox) G.calm (G.gl (b2 hg).1) (G.blt "reversed" (by decide)) (G.gl (b2 hg).2) (G.blt "tuple" (by decide)) (a0o ha a1y (a0d hs)) (a0d hs)) fun σ H Q ⟨c,L,S,Q0,I,h,k⟩ =>
 ⟨c,L,S,_,I,h,fun v L1 hv x S1 H1 r1 I1 s1=>by
  obtain ⟨z,e,q⟩:=wpx hv
  obtain ⟨ps,e1,rfl⟩:=mpd e
  obtain ⟨a,ys,rfl,hq,ry⟩:=r1.list I1.sub e1
  exact ⟨a,ys,rfl,hq,fun p hp=>(a9i I1 fun x S' H' r I' s'=>k _ L1 q x S' H' r I' (s1.trans s')).tup _ _ p rfl ry.rev hp⟩⟩
end Kq
end
section
namespace Kq
open PySem PySem.Spec PyProof.Rows L2
section
variable {P:Program} {w:World} {A:Around} {E:Value→Shared→Prop} {s:Shared}
end
noncomputable def b5w (v:FV):Option FV:=(a3b v).bind fun xs=>(c8j xs).map .int
section
variable {X:Cx}
theorem b4v (hc:X.calm=true):a1l X (.builtin "sum") (fun xs H Q=>∃ (a:Addr) (ns:List Int),xs=[.ref a]∧SqT X.K H a (ns.map V.int)∧ns.length≤big∧(∀ n∈ns,-(2 ^ 40)≤n∧n≤2 ^ 40)∧Q (.int ns.sum) H):=by
 intro pins s σ H xs us Q I r h
 obtain ⟨a,ns,rfl,hq,hz,hb,q⟩:=h
 obtain ⟨u,rfl,rx⟩:=a2w r
 cases rx
 obtain ⟨its,r',pl,hz'⟩:=I.tuple hq
 have hlen:ns.length=its.length:=by have:=r'.length; simpa using this
 have pt:s.heap.IsTuple a its.toArray:=pl
 have alt:a < s.heap.objs.size:=by obtain ⟨_,e,_⟩:=pt; exact Heap.lt_size e
 have hh:X.A.in1.handled=none:=I.ok.hd hc
 refine call_sum_walk (wpAny_pyIter_tuple pt ?_)
 refine ⟨s.heap.objs.size,_,_,_,_,_,fun i=>ns.getD i 0,rfl,Walks.tuple hh s.heap.objs.size a (Nat.ne_of_lt alt) its.toArray,⟨⟨_,Heap.get?_push_size _ rfl,rfl,rfl⟩,pt.at fun o e=>Γc _ e⟩,?_,?_,?_,?_⟩
 ·intro b hb'
  simp at hb'
  rcases hb' with rfl | rfl
  ·show _ < (s.heap.push _).objs.size; rw [Heap.size_push]; exact Nat.lt_succ_self _
  ·show _ < (s.heap.push _).objs.size; rw [Heap.size_push]; exact Nat.lt_succ_of_lt alt
 ·intro i v hv
  have hv:its.toArray[i]?=some v:=hv
  have hi:i < ns.length:=by rw [hlen]; simpa using (Array.getElem?_eq_some_iff.mp hv).1
  obtain ⟨t,e⟩:=Vals.mapInt r' i hi
  refine ⟨t,?_⟩
  have e':its.toArray[i]?=some (.int (ns.getD i 0) t):=by simpa using e
  rw [hv] at e'
  exact Option.some.inj e'
 ·intro j hj
  have hj':j < ns.length:=by rw [hlen]; simpa using hj
  have hm:ns.getD j 0∈ns:=by simp [List.getD,hj']
  refine ⟨?_,?_⟩
  ·have:=hb _ hm
   show -(2 ^ 63)≤ns.getD j 0∧ns.getD j 0 < 2 ^ 63
   lia
  ·rw [a1s ns (j + 1) hj']
   have b2:=b5v 1099511627776 (by decide) (ns.take (j + 1)) fun n hn=>by have:=hb n (List.mem_of_mem_take hn); lia
   have l2:(ns.take (j + 1)).length≤100000:=by rw [List.length_take]; unfold big at hz; lia
   unfold InLong; lia
 ·intro h' tk t' hk
  have e:preSum (fun i=>ns.getD i 0) its.toArray.size=ns.sum:=by
   rw [List.size_toArray,← hlen,a1s ns _ (Nat.le_refl _),List.take_length]
  rw [e]
  refine ⟨.int ns.sum,H,?_,⟨t',rfl⟩,q⟩
  exact I.kept (t':=tk) fun b o e=>hk b o (by simp; exact Nat.ne_of_lt (Heap.lt_size e)) (Γc _ e)
theorem d1p (hc:X.calm=true):a1l X (.builtin "sum") (Rc X.K b5w):=by
 rintro pins s σ H xs us Q I r ⟨S,v,x,z,rfl,hs,rv,e,k⟩
 cases v with
 | tup ps =>
  obtain ⟨n,e3,rfl⟩:=mpd e
  obtain ⟨ns,e4,e5⟩:=bnd e3
  obtain ⟨hb,rfl⟩:=itd e5
  obtain ⟨a,ys,rfl,hq,ry⟩:=rv.tup hs
  cases a1b ry e4
  refine b4v hc pins s σ H _ us Q I r ⟨a,ns,rfl,SqT.of hq,hb.1,fun n hn=>?_,k.int⟩
  have:=List.all_eq_true.mp hb.2 n hn
  simpa [a7r] using this
 | lst ps=>exact d1q hc pins s σ H _ us Q I r ⟨S,.lst ps,x,z,rfl,hs,rv,e,k⟩
 | scr ps=>exact d1q hc pins s σ H _ us Q I r ⟨S,.scr ps,x,z,rfl,hs,rv,e,k⟩
 | _=>cases e
end
section
variable {X:Cx} {C:CC} {n:Nat} {sp:Γd→Nat→Sp} {a:Expr} {ea:EW} {pos p:Pos}
theorem d7p (G:Good X C n sp) (hg:C.gl (Γe "sum")=true) (hs:a0k a=false) (ha:FR X C a ea):FE X C (.Call (.Name (Γe "sum") p) [a] [] pos) (eUn b5w ea):=b1k (d1p G.calm) G (by decide) (by nofun) (by nofun) (by nofun) hg hs ha
end
@[scoped simp ↓] theorem f_sum2 (v:FV) (Q:FV→Prop):wp (b5w v) Q↔wp (a3b v) fun xs=>wp (c8j xs) fun n=>Q (.int n):=by
 show wp ((a3b v).bind _) Q↔_
 simp only [a3a,a2l]
noncomputable def d6n {α:Type} (xs:List α) (k:Nat) (y:α):List α:=xs.take k++y :: xs.drop k
noncomputable def insF (v:FV) (ys:List FV):Option FV:=match ys with
 | [i,y]=>(a8u v).bind fun xs=>(a3o i).bind fun k=>if 0≤k∧k < 4611686018427387904∧xs.length < big then some (.lst (d6n xs k.toNat y)) else none
 | _=>none
noncomputable def eMethA (f:FV→List FV→Option FV) (i:Nat) (as:AW):EW:=fun L Q=>wp (lk L i) fun v=>wp (a8u v) fun _=>as L fun ys L1=>wp (lk L1 i) fun x=>wp (f x ys) fun z=>Q .non (L1.set i (some z))
section
variable {X:Cx}
theorem Vals.take:∀ {xs:List V} {us:List Value} (k:Nat),Vals xs us→Vals (xs.take k) (us.take k)
 | _,_,0,_=>.nil
 | _,_,k + 1,.nil=>.nil
 | _,_,k + 1,.cons r t=>.cons r (Vals.take k t)
theorem Vals.drop:∀ {xs:List V} {us:List Value} (k:Nat),Vals xs us→Vals (xs.drop k) (us.drop k)
 | _,_,0,h=>h
 | _,_,k + 1,.nil=>.nil
 | _,_,k + 1,.cons r t=>Vals.drop k t
end
section
variable {K:Γd} {S:Hp}
theorem RVs.ins {ps:List FV} {vs:List V} {p:FV} {v:V} (k:Nat) (h:RVs K S ps vs) (hp:RV K S p v):RVs K S (d6n ps k p) (d6n vs k v) :=
 (h.take k).append (show RVs K S (p :: ps.drop k) (v :: vs.drop k) from ⟨v,_,rfl,hp,h.drop k⟩)
end
section
variable {X:Cx} {C:CC} {n:Nat} {sp:Γd→Nat→Sp} {a b:Expr} {as:AW} {nx:Str} {p:Pos} {i:Nat}
end
end Kq
end
section
namespace PySem
open Sem (wp)
end PySem
namespace Kq
open PySem PySem.Spec PyProof.Rows L2
section
variable {P:Program} {w:World} {A:Around} {R:Result→Shared→Prop} {H:Hp} {h0:Heap} {it l D:Addr} {items:Array Value}
end
section
variable {X:Cx} {pins:List (Addr×Obj)} {σ:L2.St} {H:Hp} {s:Shared} {A:Around} {E:Value→Shared→Prop}
end
end Kq
end
section
namespace Kq
open PySem PySem.Spec PyProof.Rows L2
noncomputable def c9u:FV→Option (List Int×FV)
 | .tup [.tup ks,v]=>(a0z ks).map fun k=>(k,v)
 | _=>none
noncomputable def c3d:List FV→Option (List (List Int×FV))
 | []=>some []
 | x :: r=>(c9u x).bind fun p=>(c3d r).map fun q=>p :: q
noncomputable def b6l {α:Type}:List (List Int×α)→List (List Int)→List α→List (List Int)×List α
 | [],ks,vs=>(ks,vs)
 | p :: r,ks,vs=>b6l r (a3d ks vs p.1 p.2).1 (a3d ks vs p.1 p.2).2
noncomputable def dictF (v:FV):Option FV:=(a2e v).bind fun xs=>(c3d xs).bind fun ps=>some (.dct (b6l ps [] []).1 (b6l ps [] []).2)
section
variable {K:Γd} {S:Hp}
end
section
variable {X:Cx}
end
section
variable {X:Cx} {C:CC} {n:Nat} {sp:Γd→Nat→Sp} {a b:Expr} {ea eb:EW} {pos p:Pos}
theorem d3b {nx:Str} {p2:Pos} (G:Good X C n sp) (ha:FE X C a ea) (hb:FE X C (.Name nx p2) eb):FE X C (.Subscript a (.Name nx p2) pos) (eOp b4t ea eb) :=
 PE.imp (b6x (X:=X.nox) (by have:=G.room.units; show X.A.units + 1 < cLine; lia) ha hb fun _ _=>rfl) fun σ H Q ⟨c,L,S,Q0,I,h,k⟩ =>
 ⟨c,L,S,_,I,h,fun v L1 hv x S1 H1 r1 I1 s1=>⟨c,L1,S1,_,I1,hv,fun w L2 hw y S2 H2 r2 I2 s2=>by
  obtain ⟨z,e,q⟩:=wpx hw
  cases v with
  | dct ks vs =>
   obtain ⟨ps,e1,e2⟩:=bnd e
   obtain ⟨kk,e3,e4⟩:=bnd e2
   cases a1x e1
   obtain ⟨a,us,rfl,hl,h2,g⟩:=a8p (X:=X) I2.sub (.inl r2) (.inl (r1.mono s2)) e3
   obtain ⟨u,e5,r5⟩:=a8k h2 e4
   rw [e5] at g
   exact ⟨a,u,rfl,g,k z L2 q u S2 H2 r5 I2 (s1.trans s2)⟩
  | _=>cases e⟩⟩
end
noncomputable def iZipN (i:Nat) (eb:EW):AW:=fun L Q=>wp (lk L i) fun _=>eb L fun y L1=>wp (lk L1 i) fun x=>wp (a3b x) fun xs=>wp (a3b y) fun ys=>Q (a3p xs ys) L1
section
variable {X:Cx} {C:CC} {n:Nat} {sp:Γd→Nat→Sp} {b:Expr} {eb:EW} {pos p p2 tp:Pos} {i kk:Nat} {nx:Str} {elts:List Expr}
end
end Kq
end
section
namespace L2
open PySem PySem.Spec PyProof.Rows
noncomputable def a1k (h:Heap) (z TI TO:Addr) (f m:Value):Prop:=h.get? z=some { cls:=.type "zip",data:=.fields #[f,m,.bool false,.ref TI,.ref TO] }
theorem a4m {M:Model} {A:Around} {E:Value→Shared→Prop} {s:Shared} {a:Addr} {Q:Option Obj→Shared→Prop} (h:Q (s.heap.get? a) s):wpAny M A (loadIfAlive a) Q E s:=fun _ _ _=>h
section
variable {P:Program} {w:World} {A:Around} {E:Value→Shared→Prop} {s:Shared} {z TI TO:Addr} {f m:Value}
theorem b1x (zz:a1k s.heap z TI TO f m) (hf:f=.none ∨ ∃ n,f=.int n 0) (hm:∃ c,m=.bool c):wpAny (model P w) A (Builtin.SmallTypes.ownedTupleIsFree (.ref z)) (fun r s'=>(r=true∧s'=s) ∨ (r=false∧∃ g m',(∃ c,m'=.bool c)∧s' = { s with heap:=g }∧a1k g z TI TO f m'∧Heap.SameBut z s.heap g)) (fun _ _=>False) s:=by
 unfold Builtin.SmallTypes.ownedTupleIsFree
 refine Γa (wpAny_field zz rfl (x:=f) rfl ?_)
 rcases hf with rfl | ⟨n,rfl⟩
 ·exact Γb (.inl ⟨rfl,rfl⟩)
 ·refine Γa (a4m ?_)
  cases e:s.heap.get? n.toNat with
  | none=>exact Γb (.inl ⟨rfl,rfl⟩)
  | some o =>
   rw [if_neg (by exact Bool.false_ne_true)]
   refine Γa (wpAny_field zz rfl (x:=m) rfl ?_)
   obtain ⟨c,rfl⟩:=hm
   cases c with
   | true =>
    rw [if_neg (by decide)]
    exact Γb (.inr ⟨rfl,s.heap,_,⟨_,rfl⟩,rfl,zz,rfl,fun b hb=>rfl⟩)
   | false =>
    rw [if_pos (by decide)]
    refine Γa (wpAny_setField_rec zz (by simp) fun g1 z1 b1=>Γb (.inr ⟨rfl,g1,.bool true,⟨_,rfl⟩,rfl,z1,b1⟩))
end
section
variable {P:Program} {w:World} {A:Around} {E:Value→Shared→Prop} {s:Shared} {p q:Bool} {z TI TO i1 i2 l1 l2:Addr} {k1 k2:Nat} {xs ys:Array Value} {x y a b f m:Value}
theorem b5g {Q:Value→Shared→Prop} (D:ZipApart z TI TO i1 i2 l1 l2) (zz:a1k s.heap z TI TO f m) (hf:f=.none ∨ ∃ n,f=.int n 0) (hm:∃ c,m=.bool c) (zi:IsPair s.heap TI (.ref i1) (.ref i2)) (zo:IsPair s.heap TO a b)
  (t1:IterB p s.heap i1 l1 k1) (t2:IterB q s.heap i2 l2 k2) (m1:SeqB p s.heap l1 xs) (m2:SeqB q s.heap l2 ys) (ex:xs[k1]?=some x) (ey:ys[k2]?=some y)
  (K:∀ h' f' m',(f'=.none ∨ ∃ n,f'=.int n 0)→(∃ c,m'=.bool c)→a1k h' z TI TO f' m'→(∃ c d,IsPair h' TO c d)→IterB p h' i1 l1 (k1 + 1)→IterB q h' i2 l2 (k2 + 1)→IsPair h' s.heap.objs.size x y →
   (∀ c o,c≠z→c≠TO→c≠i1→c≠i2→s.heap.get? c=some o→h'.get? c=some o)→Q (.ref s.heap.objs.size) { s with heap:=h' }) :
  wpAny (model P w) A (Builtin.«zip.__next__» ⟨[.ref z],[]⟩) (fun fin s'=>∃ v,fin=.done (.ret v)∧Q v s') E s:=by
 show wpAny _ _ (field (.ref z) 2 >>= _) _ _ _; refine Γa (wpAny_field zz rfl (x:=.bool false) rfl ?_)
 show wpAny _ _ (field (.ref z) 3 >>= _) _ _ _; refine Γa (wpAny_field zz rfl (x:=.ref TI) rfl (Γa (wpAny_seqItems zi rfl ?_)))
 show wpAny _ _ (Builtin.SmallTypes.ownedTupleIsFree (.ref z) >>= _) _ _ _
 refine Γa (wpAny_mono (b1x zz hf hm) ?_ fun _ _ h=>h.elim)
 rintro r s' (⟨hr,hs'⟩ | ⟨hr,g,m',hm',hs',zz',b0⟩)
 ·rw [hs',hr]; simp only [if_true]
  refine Γa (wpAny_rule (Γa (wpAny_field zz rfl (x:=.ref TO) rfl (Γa (wpAny_setField_rec zz (by simp) fun g1 z1 b1=>?_)))))
  replace z1:a1k g1 z TI TO .ellipsis m:=z1
  refine Γa ?_; simp only [List.zipIdx_cons,List.zipIdx_nil,List.forIn_cons,List.forIn_nil]
  refine Γa (Γa (wpAny_onRaise ?_)); show wpAny _ _ (Builtin.SmallTypes.nextOf (.ref i1) >>= _) _ _ _
  refine Γa (a6j (t1.move b1.extBut D.i1z) (m1.move b1.extBut D.l1z) ex fun g2 t12 b2=>Γb ?_)
  have o2:IsPair g2 TO a b:=b2.extBut _ _ D.TOi1 (b1.extBut _ _ D.TOz zo)
  refine Γa (wpAny_seqItems o2 rfl (Γa (wpAny_updateSeq_pair o2 fun g3 o3 b3=>?_)))
  replace o3:IsPair g3 TO x b:=o3
  refine Γa (wpAny_letGo (Γb (Γa (Γa (wpAny_onRaise ?_))))); show wpAny _ _ (Builtin.SmallTypes.nextOf (.ref i2) >>= _) _ _ _
  refine Γa (a6j (((t2.move b1.extBut D.i2z).move b2.extBut D.i12.symm).move b3.extBut D.TOi2.symm) (((m2.move b1.extBut D.l2z).move b2.extBut D.l2i1).move b3.extBut D.l2TO) ey fun g4 t24 b4=>Γb ?_)
  have o4:IsPair g4 TO x b:=b4.extBut _ _ D.TOi2 o3
  refine Γa (wpAny_seqItems o4 rfl (Γa (wpAny_updateSeq_pair o4 fun g5 o5 b5=>?_)))
  replace o5:IsPair g5 TO x y:=o5
  refine Γa (wpAny_letGo (Γb (Γb (Γa (wpAny_seqItems o5 rfl (Γa (wpAny_newTuple ?_)))))))
  have sz:g5.objs.size=s.heap.objs.size:=by rw [b5.1,b4.1,b3.1,b2.1,b1.1]
  have z5:a1k g5 z TI TO .ellipsis m:=b5.extBut _ _ D.TOz.symm (b4.extBut _ _ D.i2z.symm (b3.extBut _ _ D.TOz.symm (b2.extBut _ _ D.i1z.symm z1)))
  have kk:∀ c o,c≠z→c≠TO→c≠i1→c≠i2→s.heap.get? c=some o→g5.get? c=some o:=fun c o c1 c2 c3 c4 e=>b5.extBut _ _ c2 (b4.extBut _ _ c4 (b3.extBut _ _ c2 (b2.extBut _ _ c3 (b1.extBut _ _ c1 e))))
  have t15:IterB p g5 i1 l1 (k1 + 1):=((t12.move b3.extBut D.TOi1.symm).move b4.extBut D.i12).move b5.extBut D.TOi1.symm
  have t25:IterB q g5 i2 l2 (k2 + 1):=t24.move b5.extBut D.TOi2.symm
  have zlt:z < g5.objs.size:=Heap.lt_size z5
  show wpAny _ _ (Builtin.SmallTypes.ownedTupleHandOut (.ref z) (.ref g5.objs.size) >>= _) _ _ _; refine Γa ?_; unfold Builtin.SmallTypes.ownedTupleHandOut
  have z6:a1k (g5.push { cls:=.type "tuple",data:=.seq #[x,y] }) z TI TO .ellipsis m:=Γc _ z5
  refine Γa (wpAny_setField_rec z6 (by simp) fun g7 z7 b7=>?_); replace z7:a1k g7 z TI TO (rawInt g5.objs.size) m:=z7
  refine wpAny_setField_rec z7 (by simp) fun g8 z8 b8=>?_; replace z8:a1k g8 z TI TO (rawInt g5.objs.size) (.bool false):=z8
  have up:∀ c o,c≠z→g5.get? c=some o→g8.get? c=some o:=fun c o c1 e=>b8.extBut _ _ c1 (b7.extBut _ _ c1 (Γc _ e))
  have tt:IsPair g8 g5.objs.size x y:=b8.extBut _ _ (Nat.ne_of_gt zlt) (b7.extBut _ _ (Nat.ne_of_gt zlt) (Heap.get?_push_size _ rfl))
  rw [sz] at z8 tt
  refine Γb ⟨_,rfl,?_⟩; show Q (.ref g5.objs.size) _; rw [sz]
  exact K g8 _ _ (.inr ⟨_,rfl⟩) ⟨_,rfl⟩ z8 ⟨_,_,up _ _ D.TOz o5⟩ (t15.to fun o e=>up _ o D.i1z e) (t25.to fun o e=>up _ o D.i2z e) tt fun c o c1 c2 c3 c4 e=>up c o c1 (kk c o c1 c2 c3 c4 e)
 ·rw [hs',hr]; simp only [Bool.false_eq_true,if_false]
  refine Γa ?_
  rw [← Array.forIn_toList]
  simp only [List.forIn_cons,List.forIn_nil]
  refine Γa (Γa (Γg ?_)); show wpAny _ _ (Builtin.SmallTypes.nextOf (.ref i1) >>= _) _ _ _
  refine Γa (a6j (t1.move b0.extBut D.i1z) (m1.move b0.extBut D.l1z) ex fun g2 t12 b2=>Γb (Γb ?_))
  refine Γa (Γa (Γg ?_)); show wpAny _ _ (Builtin.SmallTypes.nextOf (.ref i2) >>= _) _ _ _
  refine Γa (a6j ((t2.move b0.extBut D.i2z).move b2.extBut D.i12.symm) ((m2.move b0.extBut D.l2z).move b2.extBut D.l2i1) ey fun g4 t24 b4=>Γb (Γb (Γb ?_)))
  show wpAny _ _ (newTuple [x,y] >>= _) _ _ _
  refine Γa (wpAny_newTuple (Γb ⟨_,rfl,?_⟩))
  have sz:g4.objs.size=s.heap.objs.size:=by rw [b4.1,b2.1,b0.1]
  show Q (.ref g4.objs.size) _
  have tt:IsPair (g4.push { cls:=.type "tuple",data:=.seq #[x,y] }) g4.objs.size x y:=Heap.get?_push_size _ rfl
  rw [sz] at tt
  rw [sz]
  have z4:a1k g4 z TI TO f m':=b4.extBut _ _ D.i2z.symm (b2.extBut _ _ D.i1z.symm zz')
  refine K _ f m' hf hm' (Γc _ z4) ⟨a,b,Γc _ (b4.extBut _ _ D.TOi2 (b2.extBut _ _ D.TOi1 (b0.extBut _ _ D.TOz zo)))⟩ ((t12.move b4.extBut D.i12).to fun o e=>Γc _ e) (t24.to fun o e=>Γc _ e) tt fun c o c1 c2 c3 c4 e=>Γc _ (b4.extBut _ _ c4 (b2.extBut _ _ c3 (b0.extBut _ _ c1 e)))
theorem b9s {Q:Fin→Shared→Prop} (hh:A.handled=none) (D:ZipApart z TI TO i1 i2 l1 l2) (zz:a1k s.heap z TI TO f m) (hf:f=.none ∨ ∃ n,f=.int n 0) (hm:∃ c,m=.bool c) (zi:IsPair s.heap TI (.ref i1) (.ref i2)) (zo:IsPair s.heap TO a b)
  (t1:IterB p s.heap i1 l1 k1) (t2:IterB q s.heap i2 l2 k2) (m1:SeqB p s.heap l1 xs) (m2:SeqB q s.heap l2 ys) (en:xs[k1]?=none ∨ ys[k2]?=none)
  (K:∀ h' e,(∀ c o,c≠z→c≠TO→c≠i1→c≠i2→s.heap.get? c=some o→h'.get? c=some o)→(∃ o,h'.get? e=some o∧o.cls=.type "StopIteration")→E (.ref e) { s with heap:=h' }) :
  wpAny (model P w) A (Builtin.«zip.__next__» ⟨[.ref z],[]⟩) Q E s:=by
 show wpAny _ _ (field (.ref z) 2 >>= _) _ _ _; refine Γa (wpAny_field zz rfl (x:=.bool false) rfl ?_)
 show wpAny _ _ (field (.ref z) 3 >>= _) _ _ _; refine Γa (wpAny_field zz rfl (x:=.ref TI) rfl (Γa (wpAny_seqItems zi rfl ?_)))
 show wpAny _ _ (Builtin.SmallTypes.ownedTupleIsFree (.ref z) >>= _) _ _ _
 refine Γa (wpAny_mono (b1x zz hf hm) ?_ fun _ _ h=>h.elim)
 rintro r s' (⟨hr,hs'⟩ | ⟨hr,g,m',hm',hs',zz',b0⟩)
 ·rw [hs',hr]; simp only [if_true]
  refine Γa (wpAny_rule (Γa (wpAny_field zz rfl (x:=.ref TO) rfl (Γa (wpAny_setField_rec zz (by simp) fun g1 z1 b1=>?_)))))
  replace z1:a1k g1 z TI TO .ellipsis m:=z1
  refine Γa ?_; simp only [List.zipIdx_cons,List.zipIdx_nil,List.forIn_cons,List.forIn_nil]
  refine Γa (Γa (wpAny_onRaise ?_)); show wpAny _ _ (Builtin.SmallTypes.nextOf (.ref i1) >>= _) _ _ _
  have fin:∀ {g:Heap} {e:Addr} {o:Obj},a1k g z TI TO .ellipsis m→g.get? e=some o→o.cls=.type "StopIteration"→e≠z:=fun h1 h2 h3 x=>by subst x; rw [h1] at h2; cases h2; simp at h3
  cases hx:xs[k1]? with
  | none =>
   refine Γa (b0w hh (t1.move b1.extBut D.i1z) (m1.move b1.extBut D.l1z) hx fun g2 e b2 he=>?_)
   obtain ⟨oe,e1,e2⟩:=he
   have z2:a1k g2 z TI TO .ellipsis m:=b2 _ _ D.i1z.symm z1
   exact wpAny_setField_rec z2 (by simp) fun g3 _ b3=>K g3 e (fun c o c1 _ c3 _ x=>b3.extBut _ _ c1 (b2 _ _ c3 (b1.extBut _ _ c1 x))) ⟨oe,b3.extBut _ _ (fin z2 e1 e2) e1,e2⟩
  | some x =>
   have hy:ys[k2]?=none:=by rcases en with h | h; rw [hx] at h; cases h; exact h
   refine Γa (a6j (t1.move b1.extBut D.i1z) (m1.move b1.extBut D.l1z) hx fun g2 t12 b2=>Γb ?_)
   have o2:IsPair g2 TO a b:=b2.extBut _ _ D.TOi1 (b1.extBut _ _ D.TOz zo)
   refine Γa (wpAny_seqItems o2 rfl (Γa (wpAny_updateSeq_pair o2 fun g3 o3 b3=>Γa (wpAny_letGo (Γb (Γa (Γa (wpAny_onRaise ?_))))))))
   show wpAny _ _ (Builtin.SmallTypes.nextOf (.ref i2) >>= _) _ _ _
   refine Γa (b0w hh (((t2.move b1.extBut D.i2z).move b2.extBut D.i12.symm).move b3.extBut D.TOi2.symm) (((m2.move b1.extBut D.l2z).move b2.extBut D.l2i1).move b3.extBut D.l2TO) hy fun g4 e b4 he=>?_)
   obtain ⟨oe,e1,e2⟩:=he
   have z4:a1k g4 z TI TO .ellipsis m:=b4 _ _ D.i2z.symm (b3.extBut _ _ D.TOz.symm (b2.extBut _ _ D.i1z.symm z1))
   exact wpAny_setField_rec z4 (by simp) fun g5 _ b5=>K g5 e (fun c o c1 c2 c3 c4 x=>b5.extBut _ _ c1 (b4 _ _ c4 (b3.extBut _ _ c2 (b2.extBut _ _ c3 (b1.extBut _ _ c1 x))))) ⟨oe,b5.extBut _ _ (fin z4 e1 e2) e1,e2⟩
 ·rw [hs',hr]; simp only [Bool.false_eq_true,if_false]
  refine Γa ?_
  rw [← Array.forIn_toList]
  simp only [List.forIn_cons,List.forIn_nil]
  refine Γa (Γa (Γg ?_)); show wpAny _ _ (Builtin.SmallTypes.nextOf (.ref i1) >>= _) _ _ _
  cases hx:xs[k1]? with
  | none =>
   refine Γa (b0w hh (t1.move b0.extBut D.i1z) (m1.move b0.extBut D.l1z) hx fun g2 e b2 he=>?_)
   exact K g2 e (fun c o c1 _ c3 _ x=>b2 _ _ c3 (b0.extBut _ _ c1 x)) he
  | some x =>
   have hy:ys[k2]?=none:=by rcases en with h | h; rw [hx] at h; cases h; exact h
   refine Γa (a6j (t1.move b0.extBut D.i1z) (m1.move b0.extBut D.l1z) hx fun g2 t12 b2=>Γb (Γb ?_))
   refine Γa (Γa (Γg ?_)); show wpAny _ _ (Builtin.SmallTypes.nextOf (.ref i2) >>= _) _ _ _
   refine Γa (b0w hh ((t2.move b0.extBut D.i2z).move b2.extBut D.i12.symm) ((m2.move b0.extBut D.l2z).move b2.extBut D.l2i1) hy fun g4 e b4 he=>?_)
   exact K g4 e (fun c o c1 _ c3 c4 x=>b4 _ _ c4 (b2.extBut _ _ c3 (b0.extBut _ _ c1 x))) he
theorem b5f {Q:Option Value→Shared→Prop} (D:ZipApart z TI TO i1 i2 l1 l2) (zz:a1k s.heap z TI TO f m) (hf:f=.none ∨ ∃ n,f=.int n 0) (hm:∃ c,m=.bool c) (zi:IsPair s.heap TI (.ref i1) (.ref i2)) (zo:IsPair s.heap TO a b)
  (t1:IterB p s.heap i1 l1 k1) (t2:IterB q s.heap i2 l2 k2) (m1:SeqB p s.heap l1 xs) (m2:SeqB q s.heap l2 ys) (ex:xs[k1]?=some x) (ey:ys[k2]?=some y)
  (K:∀ h' f' m',(f'=.none ∨ ∃ n,f'=.int n 0)→(∃ c,m'=.bool c)→a1k h' z TI TO f' m'→(∃ c d,IsPair h' TO c d)→IterB p h' i1 l1 (k1 + 1)→IterB q h' i2 l2 (k2 + 1)→IsPair h' s.heap.objs.size x y →
   (∀ c o,c≠z→c≠TO→c≠i1→c≠i2→s.heap.get? c=some o→h'.get? c=some o)→Q (some (.ref s.heap.objs.size)) { s with heap:=h' }):wpAny (model P w) A (pyNext (.ref z)) Q E s:=by
 have ty:s.TypeIs (.ref z) "zip":=⟨_,zz,rfl⟩
 unfold pyNext
 exact Γa (wpAny_attempt (wpAny_callSpecial?_slot (name:=Γe "__next__") ty F.slot_zip_next (wpAny_call_entry F.slot_zip_next ty F.entry_zip_next (b5g D zz hf hm zi zo t1 t2 m1 m2 ex ey fun h' f' m' x1 x2 a1 a2 a3 a4 a5 a6=>Γb (K h' f' m' x1 x2 a1 a2 a3 a4 a5 a6)) (F.args_zip_next_1 _))))
theorem b5e {Q:Option Value→Shared→Prop} (hh:A.handled=none) (D:ZipApart z TI TO i1 i2 l1 l2) (zz:a1k s.heap z TI TO f m) (hf:f=.none ∨ ∃ n,f=.int n 0) (hm:∃ c,m=.bool c) (zi:IsPair s.heap TI (.ref i1) (.ref i2)) (zo:IsPair s.heap TO a b)
  (t1:IterB p s.heap i1 l1 k1) (t2:IterB q s.heap i2 l2 k2) (m1:SeqB p s.heap l1 xs) (m2:SeqB q s.heap l2 ys) (en:xs[k1]?=none ∨ ys[k2]?=none)
  (K:∀ h',(∀ c o,c≠z→c≠TO→c≠i1→c≠i2→s.heap.get? c=some o→h'.get? c=some o)→Q none { s with heap:=h' }):wpAny (model P w) A (pyNext (.ref z)) Q E s:=by
 have ty:s.TypeIs (.ref z) "zip":=⟨_,zz,rfl⟩
 unfold pyNext
 refine Γa (wpAny_attempt (wpAny_callSpecial?_slot (name:=Γe "__next__") ty F.slot_zip_next (wpAny_call_entry F.slot_zip_next ty F.entry_zip_next (b9s hh D zz hf hm zi zo t1 t2 m1 m2 en fun h' e hk he=>?_) (F.args_zip_next_1 _))))
 obtain ⟨o,e1,e2⟩:=he
 exact Γa (wpAny_isInstance (T:="StopIteration") (b:=true) ⟨o,e1,e2⟩ isSubtype_stop (Γb (K _ hk)))
end
theorem b0x {prog:Program} {w:World} {A:Around} {E:Value→Shared→Prop} {s:Shared} {z TI TO:Addr} {f m:Value} {Q:Value→Shared→Prop} (zz:a1k s.heap z TI TO f m) (h:Q (.ref z) s):wpAny (model prog w) A (pyIter (.ref z)) Q E s:=by
 have hT:s.TypeIs (.ref z) "zip":=⟨_,zz,rfl⟩
 refine wpAny_pyIter_slot hT F.slot_zip_iter (wpAny_call_entry F.slot_zip_iter hT F.entry_zip_iter ?_ (F.args_zip_iter_1 _))
 show wpAny _ _ (ret (.ref z)) _ _ s
 exact Γb ⟨_,rfl,"zip",_,hT,F.slot_zip_next.lookup,h⟩
theorem c3x {P:Program} {w:World} {K:Γd} {p q:Bool} {nx:Str} {pos:Pos} {a b z TI TO i1 i2:Addr} (D:ZipApart z TI TO i1 i2 a b) :
  Turn P w K (.Name nx pos) (Iz2 K p q a b) [z,TO,i1,i2,TI] z (fun i h=>(∃ f m,(f=.none ∨ ∃ n,f=.int n 0)∧(∃ c,m=.bool c)∧a1k h z TI TO f m)∧IsPair h TI (.ref i1) (.ref i2)∧(∃ c d,IsPair h TO c d)∧IterB p h i1 a i∧IterB q h i2 b i) where
 mem:=by simp
 obj:=fun i h st c hc=>by
  obtain ⟨⟨f,m,hf0,hm0,zz⟩,zi,⟨x,y,zo⟩,t1,t2⟩:=st
  simp only [List.mem_cons,List.not_mem_nil,or_false] at hc
  rcases hc with rfl | rfl | rfl | rfl | rfl
  ·exact ⟨_,zz,fun v z=>by cases z⟩
  ·exact ⟨_,zo,fun v z=>by cases z⟩
  ·exact t1.obj
  ·exact t2.obj
  ·exact ⟨_,zi,fun v z=>by cases z⟩
 keep:=fun i h h' st kk=>by
  obtain ⟨⟨f,m,hf0,hm0,zz⟩,zi,⟨x,y,zo⟩,t1,t2⟩:=st
  exact ⟨⟨f,m,hf0,hm0,kk z (by simp) _ zz⟩,kk TI (by simp) _ zi,⟨x,y,kk TO (by simp) _ zo⟩,t1.to fun o e=>kk i1 (by simp) o e,t2.to fun o e=>kk i2 (by simp) o e⟩
 item:=by
  intro X hP hw hK hc i pins s σ H E I hf st hg
  subst hP hw hK
  obtain ⟨xs,ys,x,y,q1,q2,hx,hy⟩:=hg
  obtain ⟨⟨f,m,hf0,hm0,zz⟩,zi,⟨u0,v0,zo⟩,t1,t2⟩:=st
  obtain ⟨its,rv,m1,_⟩:=I.seqB q1
  obtain ⟨jts,rw',m2,_⟩:=I.seqB q2
  obtain ⟨u,hu,ru⟩:=rv.get hx
  obtain ⟨u',hu',ru'⟩:=rw'.get hy
  refine b5f D zz hf0 hm0 zi zo t1 t2 m1 m2 (x:=u) (y:=u') (by simpa using hu) (by simpa using hu') fun h'' f' m' hf' hm' z'' a2 a3 a4 T'' hk=>?_
  refine ⟨_,rfl,Γb ?_⟩
  have szn:z≠s.heap.objs.size:=Nat.ne_of_lt (Heap.lt_size zz)
  have I1:Inv X pins σ (upd H s.heap.objs.size (.tup [x,y])) { s with heap:=h'' }:=I.turnedNew (t':=s.toks) (ch:=[z,TO,i1,i2]) (Nat.le_refl _)
   (fun c ob hc e=>by simp only [List.mem_cons,List.not_mem_nil,or_false,not_or] at hc; exact hk c ob hc.1 hc.2.1 hc.2.2.1 hc.2.2.2 e)
   (fun c hc=>hf c (by simp only [List.mem_cons,List.not_mem_nil,or_false] at hc ⊢; rcases hc with z | z | z | z <;> simp [z])) ⟨by show 2≤sizeLine; decide,[u,u'],.cons ru (.cons ru' .nil),⟨_,T'',rfl,_,rfl⟩⟩
  refine ⟨.ref s.heap.objs.size,_,I1,rfl,⟨_,I.fresh,rfl,fun xs' ys' x' y' r1 r2 hx' hy'=>?_⟩,⟨⟨f',m',hf',hm',z''⟩,hk _ _ D.TIz D.TITO D.TIi1 D.TIi2 zi,a2,a3,a4⟩,fun c hc=>?_⟩
  ·have e1:=I.seqB_inj r1 q1
   have e2:=I.seqB_inj r2 q2
   subst e1 e2
   rw [hx] at hx'; rw [hy] at hy'; cases hx'; cases hy'; rfl
  ·have:c≠s.heap.objs.size:=by
    have hlt:c < s.heap.objs.size:=by
     simp only [List.mem_cons,List.not_mem_nil,or_false] at hc
     rcases hc with rfl | rfl | rfl | rfl | rfl
     ·exact Heap.lt_size zz
     ·exact Heap.lt_size zo
     ·exact t1.lt
     ·exact t2.lt
     ·exact Heap.lt_size zi
    exact Nat.ne_of_lt hlt
   rw [a0e this]; exact (hf c hc).1
 done:=by
  intro X hP hw hK hc i pins s σ H E I hf st hg
  subst hP hw hK
  obtain ⟨xs,ys,q1,q2,hx⟩:=hg
  obtain ⟨⟨f,m,hf0,hm0,zz⟩,zi,⟨u0,v0,zo⟩,t1,t2⟩:=st
  obtain ⟨its,rv,m1,l1⟩:=I.seqB q1
  obtain ⟨jts,rw',m2,l2⟩:=I.seqB q2
  refine b5e (I.ok.hd hc) D zz hf0 hm0 zi zo t1 t2 m1 m2 (hx.elim (fun z=>.inl (by simp; lia)) fun z=>.inr (by simp; lia)) fun h' hk=>⟨rfl,?_⟩
  exact I.turnedL (t':=s.toks) (ch:=[z,TO,i1,i2]) (fun c ob hc e=>by simp only [List.mem_cons,List.not_mem_nil,or_false,not_or] at hc; exact hk c ob hc.1 hc.2.1 hc.2.2.1 hc.2.2.2 e)
   (fun c hc=>hf c (by simp only [List.mem_cons,List.not_mem_nil,or_false] at hc ⊢; rcases hc with z | z | z | z <;> simp [z]))
 self:=fun _ _ _ _ _ st h=>by
  obtain ⟨⟨f,m,hf0,hm0,zz⟩,_⟩:=st
  exact b0x zz h
section
variable {X:Cx}
theorem d5q {nx:Str} {tp:Pos} {e1 e2:Expr} {ta:TA} {p pos:Pos} (hg:Gl X "zip") (hm:X.mg "zip" = none) (ha:PA X [e1,e2] ta)
  (hs:starEach [e1,e2] X.env=[(false,eval e1 X.env),(false,eval e2 X.env)]) (hs2:starEach [e2] X.env=[(false,eval e2 X.env)]):PI X (.Name nx tp) (.Call (.Name "zip" p) [e1,e2] [] pos) (iZ2 X.K ta):=by
 intro pins s σ H R I h
 refine wpAny_Call_Name_kw (a2u I hg hm PyProof.Rows.boot_zip ?_ (by decide) (by decide))
 refine PyProof.Rows.callWith_type1 (thn (ha pos pins s σ H _ I h) fun us s1 ⟨vs,H1,I1,r1,q1⟩=>?_) (by rw [hs,hs2]) (by rw [hs2]; rfl)
 obtain ⟨p,q,a,b,e,⟨xs,hq1⟩,⟨ys,hq2⟩,kk⟩:=q1
 subst e
 obtain ⟨u1,u2,rfl,ra,rb⟩:=b9v r1
 cases ra; cases rb
 obtain ⟨its,rv,m1,_⟩:=I1.seqB hq1
 obtain ⟨jts,rw',m2,_⟩:=I1.seqB hq2
 refine b0c m1 m2 fun h' zz zi zo t1 t2 hk=>wpAny_pyIter_zip (f0:=.none) zz ?_
 have I2:Inv X pins σ H1 { s1 with heap:=h' }:=I1.kept (t':=s1.toks) fun c o e=>hk c o e
 refine ⟨_,_,_,Iz2 X.K p q a b,H1,rfl,I2,c3x (zipApart_new m1.lt m2.lt),⟨⟨.none,.bool false,.inl rfl,⟨_,rfl⟩,zz⟩,zi,⟨_,_,zo⟩,t1,t2⟩,fun c hc=>?_,kk⟩
 have hge:s1.heap.objs.size≤c:=by
  simp only [List.mem_cons,List.not_mem_nil,or_false] at hc
  rcases hc with rfl | rfl | rfl | rfl | rfl <;> first | exact Nat.le_refl _ | exact Nat.le_add_right _ _
 exact I1.fpOk hge (I1.hok.fresh hge)
end
end L2
end
section
namespace Kq
open PySem PySem.Spec PyProof.Rows L2
section
variable {X:Cx} {C:CC} {n:Nat} {sp:Γd→Nat→Sp} {a b:Expr} {ea eb:EW} {pos p tp:Pos} {nt:Str}
theorem d7g (G:Good X C n sp) (hg:C.gl (Γe "zip")=true) (hs:a0k a=false) (hs2:a0k b=false) (ha:FE X C a ea) (hb:FE X C b eb):FI X C C.md (.Name nt tp) (.Call (.Name (Γe "zip") p) [a,b] [] pos) (c3p ea eb) :=
 PI.imp (d5q (G.gl hg) (G.blt "zip" (by decide)) (a0o ha (a0o hb a1y (a0d hs2)) (a0d hs)) (by rw [a0d hs,a0d hs2]; rfl) (a0d hs2)) fun σ H R ⟨c,L,S,Q0,I,h,k⟩ =>
 ⟨c,L,S,_,I,h,fun v L1 hv x S1 H1 r1 I1 s1=>⟨c,L1,S1,_,I1,hv,fun w L2 hw y S2 H2 r2 I2 s2=>by
  obtain ⟨ps,e,hw⟩:=wpx hw
  obtain ⟨qs,e',q⟩:=wpx hw
  obtain ⟨l,rfl,st⟩:=(r1.mono s2).stays e
  obtain ⟨l',rfl,st'⟩:=r2.stays e'
  obtain ⟨vs,h1,_⟩:=st S2 H2 (Same.refl _) I2.sub
  obtain ⟨ws,h2,_⟩:=st' S2 H2 (Same.refl _) I2.sub
  exact ⟨_,_,l,l',rfl,⟨vs,h1⟩,⟨ws,h2⟩,k _ L2 q _ c S2 H2 I2 (fun _ _ _ _ I=>I) rfl (c3m (fun L σ S H I s=>st S H s I.sub) fun L σ S H I s=>st' S H s I.sub) (s1.trans s2)⟩⟩⟩
end
noncomputable def d0f (o:HO):Prop:=∀ xs,o≠.tup xs
mutual
noncomputable def noL:FV→Bool
 | .lst _=>false
 | .scr _=>false
 | .tup xs=>c7y xs
 | .dct _ _=>false
 | .dci _ _=>false
 | .dcz _ _ _=>false
 | _=>true
noncomputable def c7y:List FV→Bool
 | []=>true
 | x :: r=>noL x && c7y r
end
noncomputable def eCallL (call:CW) (f:Nat) (a:AW):EW:=fun L Q=>a L fun xs L1=>call f xs fun z=>noL z.1=true∧Q z.1 L1
noncomputable def eCallM (call:CW) (f:Nat) (a:AW):EW:=fun L Q=>a L fun xs L1=>call f xs fun z=>wp (a8u z.1) fun ps=>c7y ps=true∧Q z.1 L1
noncomputable def RHs (K:Γd) (S H:Hp) (os:List Addr):List FV→List V→Prop
 | [],vs=>vs=[]
 | p :: ps,vs=>∃ v r,vs=v :: r∧(RV K S p v ∨ ∃ a,v=.ref a∧a∈os∧a3n K S H a p)∧RHs K S H os ps r
section
variable {K:Γd} {S H S' H':Hp} {os os':List Addr}
theorem RHs.more:∀ {ps:List FV} {vs:List V},RHs K S H os ps vs→(∀ a∈os,a∈os')→RHs K S H os' ps vs
 | [],vs,h,_=>h
 | p :: ps,vs,⟨v,r,e,h1,h2⟩,k=>⟨v,r,e,h1.imp_right fun ⟨a,e,m,o⟩=>⟨a,e,k a m,o⟩,RHs.more h2 k⟩
noncomputable def c5z (S:Hp) (os:List Addr):Hp:=fun a=>if a∈os then none else S a
mutual
theorem RV.less {K:Γd} {S:Hp} {os:List Addr} (h:∀ a∈os,∃ o,S a=some o∧d0f o):∀ {p:FV} {v:V},noL p=true→RV K S p v→RV K (c5z S os) p v
 | .non,v,_,e=>e
 | .bl b,v,_,e=>e
 | .int i,v,_,e=>e
 | .str _,v,_,e=>e
 | .shn _,v,_,e=>e
 | .tup ps,v,n,⟨a,xs,e,h1,h2⟩=>⟨a,xs,e,by
   unfold c5z
   rw [if_neg fun m=>by obtain ⟨zs,z,n⟩:=h a m; rw [z] at h1; cases h1; exact n _ rfl]; exact h1,RVs.less h (by simpa [noL] using n) h2⟩
 | .dct ks vs,v,n,_=>by simp [noL] at n
 | .dci ks vs,v,n,_=>by simp [noL] at n
 | .dcz _ ks vs,v,n,_=>by simp [noL] at n
 | .lst ps,v,n,_=>by simp [noL] at n
 | .scr ps,v,n,_=>by simp [noL] at n
theorem RVs.less {K:Γd} {S:Hp} {os:List Addr} (h:∀ a∈os,∃ o,S a=some o∧d0f o):∀ {ps:List FV} {vs:List V},c7y ps=true→RVs K S ps vs→RVs K (c5z S os) ps vs
 | [],vs,_,e=>e
 | p :: ps,vs,n,⟨v,r,e,h1,h2⟩=>by
  have n:noL p=true∧c7y ps=true:=by simpa [c7y] using n
  exact ⟨v,r,e,RV.less h n.1 h1,RVs.less h n.2 h2⟩
end
variable {c:Cn} {md:Md} {L:a0c} {σ:L2.St}
end
section
variable {X:Cx} {C:CC} {n:Nat} {sp:Γd→Nat→Sp} {a:Expr} {ea:EW} {pos p:Pos} {call:CW} {f i:Nat} {nx:Str} {xs:List Expr} {as:AW}
end
noncomputable def revF (v:FV):Option FV:=(a8u v).map fun xs=>.lst xs.reverse
noncomputable def eMeth0 (f:FV→Option FV) (i:Nat):EW:=fun L Q=>wp (lk L i) fun x=>wp (f x) fun z=>Q .non (L.set i (some z))
section
variable {X:Cx} {C:CC} {n:Nat} {sp:Γd→Nat→Sp} {pos p:Pos} {call:CW} {f i:Nat} {nx:Str}
end
end Kq
end
section
namespace Kq
open PySem PySem.Spec PyProof.Rows L2 PySem.W
noncomputable def Lv {α:Type} (n:Nat) (P:α→Prop):KasT α→Prop
 | .ret a=>P a
 | .ask i j k=>i < n∧j < n∧∀ b,Lv n P (k b)
theorem Lv.mono {α:Type} {n:Nat} {P P':α→Prop} (h:∀ a,P a→P' a):∀ {t:KasT α},Lv n P t→Lv n P' t
 | .ret a,x=>h a x
 | .ask i j k,x=>⟨x.1,x.2.1,fun b=>Lv.mono h (x.2.2 b)⟩
theorem Lv.bind {α β:Type} {n:Nat} {P:α→Prop} {P':β→Prop} {f:α→KasT β} (h:∀ a,P a→Lv n P' (f a)):∀ {t:KasT α},Lv n P t→Lv n P' (t.bind f)
 | .ret a,x=>h a x
 | .ask i j k,x=>⟨x.1,x.2.1,fun b=>Lv.bind h (x.2.2 b)⟩
section
variable {n:Nat}
end
noncomputable def IntTup (h:Heap) (v:Value):Prop:=∃ (a:Addr) (o:Obj) (us:List Value) (n:Nat) (k:Int) (ks:List Int),v=.ref a∧h.get? a=some o∧o.cls=.type "tuple"∧o.data=.seq us.toArray n∧Vals ((k :: ks).map V.int) us
theorem IntTup.keep {h h':Heap} {v:Value} (x:IntTup h v) (k:∀ b o,h.get? b=some o→h'.get? b=some o):IntTup h' v:=by
 obtain ⟨a,o,us,n,i,ks,e,h1,h2⟩:=x
 exact ⟨a,o,us,n,i,ks,e,k _ _ h1,h2⟩
section
variable {prog:Program} {w:World} {A:Around} {E:Value→Shared→Prop} {s:Shared} {vs:List Value}
end
end Kq
end
section
namespace Kq
open PySem PySem.Spec PyProof.Rows L2
noncomputable def b5s:List FV→Bool
 | []=>true
 | .tup ps :: r=>(match a0z ps with | some (_ :: _)=>true | _=>false) && b5s r
 | _=>false
noncomputable def d9d (a:EW):EW:=fun L Q=>a L fun v L1=>wp (a2e v) fun xs=>b5s xs=true∧2≤xs.length∧xs.length < 64∧∀ ys:List FV,ys.Perm xs→Q (.lst ys) L1
theorem Vals.perm {us us':List Value} (p:us'.Perm us):∀ {ys:List V},Vals ys us→∃ zs,zs.Perm ys∧Vals zs us':=by
 induction p with
 | nil=>intro ys h; exact ⟨ys,.refl _,h⟩
 | cons x p ih =>
  intro ys h
  cases h with
  | @cons y _ ys' _ r h =>
  obtain ⟨zs,e,g⟩:=ih h
  exact ⟨y :: zs,e.cons y,.cons r g⟩
 | swap x y l =>
  intro ys h
  cases h with
  | @cons a _ ys' _ r h =>
  cases h with
  | @cons b _ ys'' _ r' h =>
  exact ⟨b :: a :: ys'',.swap a b ys'',.cons r' (.cons r h)⟩
 | trans p q ih1 ih2 =>
  intro ys h
  obtain ⟨zs,e,g⟩:=ih2 h
  obtain ⟨ws,e',g'⟩:=ih1 g
  exact ⟨ws,e'.trans e,g'⟩
section
variable {K:Γd} {S:Hp}
theorem RVs.perm {vs vs':List V} (p:vs'.Perm vs):∀ {ps:List FV},RVs K S ps vs→∃ qs,qs.Perm ps∧RVs K S qs vs':=by
 induction p with
 | nil=>intro ps h; exact ⟨ps,.refl _,h⟩
 | cons x p ih =>
  intro ps h
  cases ps with
  | nil=>cases h
  | cons q ps =>
   obtain ⟨v,r,e,h1,h2⟩:=h
   cases e
   obtain ⟨zs,e,g⟩:=ih h2
   exact ⟨q :: zs,e.cons q,_,_,rfl,h1,g⟩
 | swap x y l =>
  intro ps h
  cases ps with
  | nil=>cases h
  | cons a ps =>
   obtain ⟨v,r,e,h1,h2⟩:=h
   cases e
   cases ps with
   | nil=>cases h2
   | cons b ps =>
    obtain ⟨v2,r2,e2,h3,h4⟩:=h2
    cases e2
    exact ⟨b :: a :: ps,.swap a b ps,_,_,rfl,h3,_,_,rfl,h1,h4⟩
 | trans p q ih1 ih2 =>
  intro ps h
  obtain ⟨zs,e,g⟩:=ih2 h
  obtain ⟨ws,e',g'⟩:=ih1 g
  exact ⟨ws,e'.trans e,g'⟩
end
section
variable {X:Cx}
end
section
variable {X:Cx} {C:CC} {n:Nat} {sp:Γd→Nat→Sp} {a:Expr} {ea:EW} {pos p:Pos}
end
theorem c0n (ks:List Int) (us:List V) (k:Int) (u:V) (hl:ks.length=us.length):a6i ((a3m ks).zip us) (Sum.inl k) u=(a3m (a3d ks us k u).1).zip (a3d ks us k u).2:=by
 have hany:(((a3m ks).zip us).any fun kv=>decide (kv.1=Sum.inl k))=true↔k∈ks:=by
  rw [a5d,a8j,a4d k hl]
 unfold a6i a3d
 by_cases e:k∈ks
 ·rw [if_pos (hany.mpr e),if_pos e]
  clear e hany
  induction ks generalizing us with
  | nil=>cases us <;> rfl
  | cons k' ks ih=>cases us with
   | nil=>rfl
   | cons u' us =>
    have:=ih us (by simpa using hl)
    show (if (Sum.inl k':Int ⊕ Str)=Sum.inl k then (Sum.inl k',u) else (Sum.inl k',u')) :: ((a3m ks).zip us).map _=(Sum.inl k',if k'=k then u else u') :: (a3m ks).zip _
    rw [this]
    congr 1
    by_cases e:k'=k
    ·subst e; simp
    ·rw [if_neg fun z=>e (Sum.inl.inj z),if_neg e]
 ·rw [if_neg fun z=>e (hany.mp z),if_neg e]
  show _=(a3m (ks++[k])).zip (us++[u])
  have:a3m (ks++[k])=a3m ks++[Sum.inl k]:=by simp [a3m]
  rw [this,List.zip_append (by simpa [a3m] using hl)]; rfl
noncomputable def dgoF (v w:FV):Option (Option FV):=match v with
 | .dct ks vs=>(a6f w).bind fun ps=>(a0z ps).bind fun k=>some (a2z ks vs k)
 | .dci ks vs=>(a3o w).bind fun k=>some (a2z ks vs k)
 | .dcz _ ks vs=>(a6f w).bind fun ps=>(a0z ps).bind fun k=>some (a2z ks vs k)
 | _=>none
noncomputable def dgF (v w:FV):Option FV:=(dgoF v w).bind id
noncomputable def dget1F (v w:FV):Option FV:=(dgoF v w).map fun o=>o.getD .non
noncomputable def isDF:FV→Option Unit
 | .dct _ _=>some ()
 | .dci _ _=>some ()
 | _=>none
noncomputable def c2c (v j x:FV):Option FV:=match v with
 | .dct ks vs=>(a6f j).bind fun ps=>(a0z ps).bind fun k=>if ks.length < big then some (.dct (a3d ks vs k x).1 (a3d ks vs k x).2) else none
 | .dci ks vs=>(a3o j).bind fun k=>if ks.length < big then some (.dci (a3d ks vs k x).1 (a3d ks vs k x).2) else none
 | _=>none
section
variable {X:Cx} {K:Γd} {S H:Hp}
theorem RH.dcz {o:Obj} {ks:List (List Int)} {vs:List FV} {x:V} (hs:Same S H) (r:RH K S H (.dcz o ks vs) x):∃ a us,x=.ref a∧ks.length=vs.length∧H a=some (.frz o (.dT ((a1t ks).zip us)))∧RVs K S vs us:=by
 rcases r with ⟨a,xs,e,h0,h1,h2⟩ | ⟨a,e,_,qs,xs,e2,h1,h2⟩
 ·exact ⟨a,xs,e,h0,hs _ _ h1,h2⟩
 ·obtain ⟨hl,rfl⟩:=itd e2
  exact ⟨a,xs,e,hl,h1,h2⟩
end
noncomputable def c0h (k:Nat) (i e:EW):SW:=fun L Q=>wp (lk L k) fun _=>e L fun x L1=>i L1 fun j L2=>wp (lk L2 k) fun y=>wp (c2c y j x) fun z=>Q .next (L2.set k (some z))
section
variable {K:Γd} {c:Cn} {md:Md} {L:a0c} {σ:L2.St} {S H:Hp}
theorem Iv.writeV (I:Iv K c md L σ S H) {i:Nat} {v w:FV} {a:Addr} {ps:List FV} {xs:List V} (m:a0q md i=.own) (e:L[i]?=some (some v)) (e1:σ[i]?=some (some (.ref a))) (hw:d5z w=some ps) (r:RVs K S ps xs) :
  Iv K c md (L.set i (some w)) σ S (upd H a (d2k w xs)):=by
 obtain ⟨a',e1',⟨h1,_⟩,_⟩:=I.own i v (fun z=>by rw [m] at z; cases z) e
 rw [e1] at e1'; cases e1'
 exact I.back m e e1 (Same.refl S) (fun b o z=>by rw [a0e fun y=>by subst y; rw [h1] at z; cases z]; exact I.sub b o z) (fun b o z=>.inl z) (fun b o z n=>by rw [a0e n]; exact z) ⟨h1,ps,xs,hw,a0f,r⟩
theorem c2b {i:Nat} {v j x z:FV} {a:Addr} {y u:V} (I:Iv K c md L σ S H) (m:a0q md i=.own) (e:L[i]?=some (some v)) (e1:σ[i]?=some (some (.ref a))) (rj:RV K S j y) (rx:RV K S x u) (h:c2c v j x=some z):∃ H',L2.DPut H a y u H'∧Iv K c md (L.set i (some z)) σ S H':=by
 obtain ⟨a',f1,⟨o1,ps,us,e9,o2,o3⟩,_⟩:=I.own i v (fun z=>by rw [m] at z; cases z) e
 rw [e1] at f1; cases f1
 have hbl:=a1p
 cases v with
 | dct ks vs =>
  obtain ⟨qs,g1,h⟩:=bnd h
  obtain ⟨k,g2,h⟩:=bnd h
  obtain ⟨hb,rfl⟩:=itd h
  obtain ⟨hl,rfl⟩:=itd e9
  cases a1x g1
  obtain ⟨b,rfl,hkb⟩:=b7n rj g2
  have hu:ks.length=us.length:=by rw [hl,o3.length]
  obtain ⟨p1,p2⟩:=a7w (ks:=ks) (k:=k) o3 rx
  refine ⟨_,.t o2 (I.sub _ _ hkb) (by simp [a1t]; lia),?_⟩
  rw [b6j ks us k u hu,← p1]
  exact I.writeV (w:=.dct _ _) m e e1 (if_pos (a4b ks _ k x hl).1) p2
 | dci ks vs =>
  obtain ⟨k,g2,h⟩:=bnd h
  obtain ⟨hb,rfl⟩:=itd h
  obtain ⟨hl,rfl⟩:=itd e9
  cases a1m g2
  cases (show y=V.int k from rj)
  have hu:ks.length=us.length:=by rw [hl,o3.length]
  obtain ⟨p1,p2⟩:=a7w (ks:=ks) (k:=k) o3 rx
  refine ⟨_,.k (k:=Sum.inl k) o2 (by simp [a3m]; lia),?_⟩
  rw [c0n ks us k u hu,← p1]
  exact I.writeV (w:=.dci _ _) m e e1 (if_pos (a4b ks _ k x hl).1) p2
 | _=>cases h
end
section
variable {X:Cx} {C:CC} {n:Nat} {sp:Γd→Nat→Sp} {fr:Bool} {a b:Expr} {ea eb:EW} {pos p px:Pos} {i:Nat} {nx:Str}
theorem d2w:FF X C (.Dict [] [] pos) (eC (.dct [] [])):=PE.imp c0v fun σ H Q ⟨c,L,S,Q0,I,h,k⟩=>fun p hp=>k _ L h p S _ ⟨I.sn hp,[],[],rfl,a0f,rfl⟩ (I.fresh hp) (I.lay hp _) (Same.refl S)
theorem d7c (G:Good X C n sp) (hn:C.nm i nx=true) (m:a0q C.md i=.own) (hc:(!a7e a && !a4r b)=true) (ha:FE X C a ea) (hb:FE X C b eb):FS X C fr (.Assign [.Subscript (.Name nx px) b p] a pos) (c0h i eb ea):=by
 have hc:=b2 hc
 refine PS.imp (c5c (X:=X.nox) (by have:=G.room.units; show X.A.units + 1 < cLine; lia) (a4n (pos:=px) G hn) hb ha (a3y (nb hc.1))) fun D σ H ⟨c,L,S,Q0,I,h,k⟩=>?_
 have mi:a0q C.md i≠.imm:=fun z=>by rw [m] at z; cases z
 obtain ⟨v0,e,h⟩:=wpx h
 obtain ⟨l,e1,_⟩:=I.own i v0 mi ((a4c _ _ _).mp e)
 refine ⟨c,L,S,_,I,h,fun v L1 q x S1 H1 r1 I1 s1=>⟨_,e1,c,L1,S1,_,I1,q,fun w L2 q y S2 H2 r2 I2 s2=>?_⟩⟩
 obtain ⟨v1,e2,q2⟩:=wpx q
 obtain ⟨z,e3,q3⟩:=wpx q2
 have e2:=(a4c _ _ _).mp e2
 obtain ⟨H3,g,I3⟩:=c2b I2 m e2 e1 r2 (r1.mono s2) e3
 exact ⟨l,H3,rfl,g,k .next _ q3 σ S2 _ I3 (s1.trans s2)⟩
end
section
variable (Q:FV→Prop) (i:Nat) (L:a0c)
@[scoped simp ↓] theorem d2h (k:Nat) (i e:EW) (Q:FFl→a0c→Prop):c0h k i e L Q=(wp (lk L k) fun _=>e L fun x L1=>i L1 fun j L2=>wp (lk L2 k) fun y=>wp (c2c y j x) fun z=>Q .next (L2.set k (some z))):=propext Iff.rfl
@[scoped simp ↓] theorem d6k (ks:List (List Int)) (vs ps:List FV) (x:FV):wp (c2c (.dct ks vs) (.tup ps) x) Q↔wp (a0z ps) fun k=>ks.length < big∧Q (.dct (a3d ks vs k x).1 (a3d ks vs k x).2):=by
 show wp ((a0z ps).bind _) Q↔_; rw [a3a]; simp only [a3v]
end
section
variable {P:Program} {w:World} {A:Around} {E:Value→Shared→Prop} {s:Shared}
end
section
variable {X:Cx}
theorem c6o:∀ {ns:List Int} {us:List Value},Vals (ns.map V.int) us→IntsAre us ns
 | [],us,h=>by cases h; exact .nil
 | n :: ns,us,h=>by
  cases h with
  | cons r h=>obtain ⟨t,rfl⟩:=r; exact .cons n t (c6o h)
theorem d0e:∀ {us:List Value} {ns:List Int},IntsAre us ns→Vals (ns.map V.int) us
 | _,_,.nil=>.nil
 | _,_,.cons n t h=>.cons ⟨t,rfl⟩ (d0e h)
end
noncomputable def eSortI (a:EW):EW:=fun L Q=>a L fun v L1=>wp (a2e v) fun xs=>wp (a0z xs) fun ns=>ns.length < 64∧∀ ms:List Int,ms.Perm ns→ms.Pairwise (·≤·)→Q (.lst (ms.map .int)) L1
section
variable {X:Cx} {C:CC} {n:Nat} {sp:Γd→Nat→Sp} {a:Expr} {ea:EW} {pos p:Pos}
end
noncomputable def b3x (v:FV):Option FV:=(a2e v).bind fun xs=>(a0z xs).map fun ns=>.int ns.sum
section
variable {X:Cx}
theorem b9d (hc:X.calm=true):a1l X (.builtin "sum") (fun xs H Q=>∃ (a:Addr) (ns:List Int),xs=[.ref a]∧SqL X.K H a (ns.map V.int)∧Q (.int ns.sum) H):=by
 intro pins s σ H xs us Q I r h
 obtain ⟨a,ns,rfl,hq,q⟩:=h
 obtain ⟨u,rfl,rx⟩:=a2w r
 cases rx
 obtain ⟨its,r',pl,hz'⟩:=I.list hq
 have hlen:ns.length=its.length:=by have:=r'.length; simpa using this
 have alt:a < s.heap.objs.size:=by obtain ⟨_,e,_⟩:=pl.isList; exact Heap.lt_size e
 have hh:X.A.in1.handled=none:=I.ok.hd hc
 refine call_sum_walkG (wpAny_pyIter_list pl.isList ?_)
 refine ⟨s.heap.objs.size,_,_,_,_,_,fun i=>ns.getD i 0,rfl,Walks.list hh s.heap.objs.size a (Nat.ne_of_lt alt) its.toArray,⟨⟨_,Heap.get?_push_size _ rfl,rfl,rfl⟩,pl.isList.at fun o e=>Γc _ e⟩,?_,?_,?_⟩
 ·intro b hb'
  simp at hb'
  rcases hb' with rfl | rfl
  ·show _ < (s.heap.push _).objs.size; rw [Heap.size_push]; exact Nat.lt_succ_self _
  ·show _ < (s.heap.push _).objs.size; rw [Heap.size_push]; exact Nat.lt_succ_of_lt alt
 ·intro i v hv
  have hv:its.toArray[i]?=some v:=hv
  have hi:i < ns.length:=by rw [hlen]; simpa using (Array.getElem?_eq_some_iff.mp hv).1
  obtain ⟨t,e⟩:=Vals.mapInt r' i hi
  refine ⟨t,?_⟩
  have e':its.toArray[i]?=some (.int (ns.getD i 0) t):=by simpa using e
  rw [hv] at e'
  exact Option.some.inj e'
 ·intro h' tk t' hk
  have e:preSum (fun i=>ns.getD i 0) its.toArray.size=ns.sum:=by
   rw [List.size_toArray,← hlen,a1s ns _ (Nat.le_refl _),List.take_length]
  rw [e]
  refine ⟨.int ns.sum,H,?_,⟨t',rfl⟩,q⟩
  exact I.kept (t':=tk) fun b o e=>hk b o (by simp; exact Nat.ne_of_lt (Heap.lt_size e)) (Γc _ e)
theorem d1o (hc:X.calm=true):a1l X (.builtin "sum") (Rc X.K b3x):=by
 rintro pins s σ H xs us Q I r ⟨S,v,x,z,rfl,hs,rv,e,k⟩
 obtain ⟨ps,e1,e2⟩:=bnd e
 obtain ⟨ns,e3,rfl⟩:=mpd e2
 obtain ⟨a,ys,rfl,hq,ry⟩:=rv.list hs e1
 cases a1b ry e3
 exact b9d hc pins s σ H _ us Q I r ⟨a,ns,rfl,hq,k.int⟩
end
section
variable {X:Cx} {C:CC} {n:Nat} {sp:Γd→Nat→Sp} {a:Expr} {ea:EW} {pos p:Pos}
theorem d7o (G:Good X C n sp) (hg:C.gl (Γe "sum")=true) (hs:a0k a=false) (ha:FR X C a ea):FE X C (.Call (.Name (Γe "sum") p) [a] [] pos) (eUn b3x ea):=b1k (d1o G.calm) G (by decide) (by nofun) (by nofun) (by nofun) hg hs ha
end
@[scoped simp ↓] theorem f_sumG (v:FV) (Q:FV→Prop):wp (b3x v) Q↔wp (a2e v) fun xs=>wp (a0z xs) fun ns=>Q (.int ns.sum):=by
 show wp ((a2e v).bind _) Q↔_; rw [a3a]; simp only [a2l]
end Kq
end
section
namespace L2
open PySem PySem.Spec PyProof.Rows
noncomputable def ZSt (p q:Bool) (z TI TO i1 i2 a b:Addr) (i:Nat) (h:Heap):Prop:=(∃ f m,(f=.none ∨ ∃ n,f=.int n 0)∧(∃ c,m=.bool c)∧a1k h z TI TO f m)∧IsPair h TI (.ref i1) (.ref i2)∧(∃ c d,IsPair h TO c d)∧IterB p h i1 a i∧IterB q h i2 b i
theorem ZSt.keep {p q:Bool} {z TI TO i1 i2 a b:Addr} {i:Nat} {h h':Heap} (st:ZSt p q z TI TO i1 i2 a b i h) (kk:∀ c∈[z,TO,i1,i2,TI],∀ o,h.get? c=some o→h'.get? c=some o):ZSt p q z TI TO i1 i2 a b i h':=by
 obtain ⟨⟨f,m,hf0,hm0,zz⟩,zi,⟨x,y,zo⟩,t1,t2⟩:=st
 exact ⟨⟨f,m,hf0,hm0,kk z (by simp) _ zz⟩,kk TI (by simp) _ zi,⟨x,y,kk TO (by simp) _ zo⟩,t1.to fun o e=>kk i1 (by simp) o e,t2.to fun o e=>kk i2 (by simp) o e⟩
section
variable {X:Cx} {pins:List (Addr×Obj)} {σ:St} {A:Around} {R:Result→Shared→Prop}
end
end L2
end
section
namespace L2
open PySem PySem.Spec PyProof.Rows
section
variable {X:Cx} {pins:List (Addr×Obj)} {σ:St}
variable {e1 e2:Expr} {ta:TA} {pp p2 pos pos2:Pos}
end
end L2
end
section
namespace Kq
open PySem PySem.Spec PyProof.Rows L2
section
variable {X:Cx} {C:CC} {n:Nat} {sp:Γd→Nat→Sp} {a b:Expr} {ea eb:EW} {p p2 pos pos2:Pos}
end
noncomputable def inW (tg:Tg) (t:BW) (e:EW):List FV→List FV→a0c→(List FV→a0c→Prop)→Prop
 | [],acc,L,Q=>Q acc L
 | y :: r,acc,L,Q=>gW tg y L fun L1=>t L1 fun b L2=>if b=true then e L2 fun v L3=>inW tg t e r (acc++[v]) L3 Q else inW tg t e r acc L2 Q
noncomputable def b0b (n m:Nat) (tg:Tg) (t:BW) (it2:AW) (tg2:Tg) (t2:BW) (e:EW):List FV→List FV→a0c→(List FV→a0c→Prop)→Prop
 | [],acc,L,Q=>Q acc L
 | x :: xs,acc,L,Q=>gW tg x (L++List.replicate m none) fun L1=>t L1 fun b L2=>if b=true then it2 L2 fun ys L3=>acc.length + ys.length≤big∧inW tg2 t2 e ys acc L3 fun acc' L4=>b0b n m tg t it2 tg2 t2 e xs acc' (L4.take n) Q else b0b n m tg t it2 tg2 t2 e xs acc (L2.take n) Q
noncomputable def d1e (n m:Nat) (it:AW) (tg:Tg) (t:BW) (it2:AW) (tg2:Tg) (t2:BW) (e:EW):EW:=fun L Q=>it L fun xs L1=>L1.length=n∧b0b n m tg t it2 tg2 t2 e xs [] L1 fun ys L2=>Q (.lst ys) L2
noncomputable def liv (K:Γd) (md:Md) (it:AW):TI:=fun σ H R=>∃ c L S Q0,Iv K c md L σ S H∧it L Q0∧∀ xs L',Q0 xs L'→∀ J S' H',Iv K c md L' σ S' H'→(∀ c md,ItR K c md J xs S')→Same S S'→R J H'
noncomputable def FIv (X:Cx) (C:CC) (tg iter:Expr) (it:AW):Prop:=PI X.nox tg iter (liv X.K C.md it)
section
variable {X:Cx} {C:CC} {n:Nat} {sp:Γd→Nat→Sp} {a b tg:Expr} {ea eb:EW} {pos p:Pos}
end
section
variable {K:Γd} {c:Cn} {md:Md} {L:a0c} {σ:L2.St} {S H:Hp}
theorem d0t {n:Nat} {it2:AW} {tg:Tg} {t:BW} {e:EW} {acc:Addr} {us:List V} {ps:List FV} {Q1:List FV→a0c→Prop} {R:L2.St→Hp→Prop} (I:Iv K { c with pr:=(acc,.lst us) :: c.pr } md L σ S H)
  (h0:c.H0 acc=none) (hp:∀ p∈c.pr,p.1≠acc) (hz:∀ p∈c.fz,∃ o,(p.2,o)∈c.pr) (r:RVs K S ps us) (ht:a3l md tg=true) (hg:a7o n tg=true)
  (hh:it2 L fun ys L1=>ps.length + ys.length≤big∧inW tg t e ys ps L1 Q1)
  (k:∀ ps' us' L' σ' S' H',Q1 ps' L'→Iv K { c with pr:=(acc,.lst us') :: c.pr } md L' σ' S' H'→RVs K S' ps' us'→Same S S'→σ'.length=σ.length→(∀ q,q < n→σ'[q]?=σ[q]?)→R σ' H') :
  tIn (liv K md it2) (gT K tg) (lb K md t) (lv K md e) acc σ H R:=by
 have hbl:=a1p
 refine ⟨_,L,S,_,I,hh,fun ys L1 hx J S1 H1 I1 hJ s1=>?_⟩
 obtain ⟨hb,hc⟩:=hx
 let W:Nat→Nat→L2.St→Hp→Prop:=fun i j σ' H'=>∃ L' S' ps' us',j=(ys.drop i).length∧Iv K { c with pr:=(acc,.lst us') :: c.pr } md L' σ' S' H'∧RVs K S' ps' us'∧Same S1 S'∧σ'.length=σ.length∧(∀ q,q < n→σ'[q]?=σ[q]?)∧ps'.length≤ps.length + i∧inW tg t e (ys.drop i) ps' L' Q1
 refine ⟨W,⟨_,L1,S1,ps,us,rfl,I1,r.mono s1,Same.refl _,rfl,fun _ _=>rfl,Nat.le_refl _,by rw [List.drop_zero]; exact hc⟩,?_⟩
 rintro i j σ' H' ⟨L',S',ps',us',rfl,I',r',s',hl,far0,hps,hc⟩
 obtain ⟨j1,j2⟩:=hJ _ _ i L' σ' S' H' I' s'
 cases hd:ys.drop i with
 | nil =>
  left
  rw [hd] at hc
  exact ⟨j1 (List.getElem?_eq_none_iff.mpr (List.drop_eq_nil_iff.mp hd)),k ps' us' L' σ' S' H' hc I' r' (s1.trans s') hl far0⟩
 | cons p rest =>
  right
  rw [hd] at hc
  have hi:ys[i]?=some p:=by
   have:=congrArg (·[0]?) hd
   simpa using this
  have hd':ys.drop (i + 1)=rest:=by
   have:=congrArg List.tail hd
   simpa [List.tail_drop] using this
  have hix:i < ys.length:=(List.getElem?_eq_some_iff.mp hi).1
  obtain ⟨go,yl⟩:=j2 p hi
  refine ⟨go,fun x H2 y=>?_⟩
  obtain ⟨S2,s2,tr,rx⟩:=yl x H2 y
  have I2:=tr _ _ _ _ I'
  obtain ⟨σ2,L2,gq,q2,I2,len2,far⟩:=a7f ht I2 rx hc
  refine gq _ ?_
  refine ⟨_,L2,S2,_,I2,q2,fun b L3 hb3 S3 H3 I3 s3=>?_⟩
  cases b with
  | false =>
   rw [if_neg Bool.false_ne_true] at hb3 ⊢
   exact ⟨rest.length,by simp,L3,S3,ps',us',by rw [hd'],I3,r'.mono (s2.trans s3),s'.trans (s2.trans s3),len2.trans hl,fun q hq=>(far n hg q hq).trans (far0 q hq),by lia,by rw [hd']; exact hb3⟩
  | true =>
   rw [if_pos rfl] at hb3 ⊢
   refine ⟨_,L3,S3,_,I3,hb3,fun v L4 hv u S4 H4 r4 I4 s4=>?_⟩
   obtain ⟨k1,_⟩:=I4.prs (acc,.lst us') List.mem_cons_self
   have lr:=r'.length
   exact ⟨us',k1,by lia,rest.length,by simp,L4,S4,ps'++[v],us'++[u],by rw [hd'],I4.regrow h0 hp hz,(r'.mono (s2.trans (s3.trans s4))).append (RVs.one r4),s'.trans (s2.trans (s3.trans s4)),len2.trans hl,fun q hq=>(far n hg q hq).trans (far0 q hq),by simp; lia,by rw [hd']; exact hv⟩
theorem b8z {J:It} {xs:List FV} {n m:Nat} {tg:Tg} {t:BW} {it2:AW} {tg2:Tg} {t2:BW} {e:EW} {Q:VK} {Q1:List FV→a0c→Prop} (I:Iv K c md L σ S H) (hJ:ItR K c md J xs S) (hL:L.length=n) (hmd:md.length≤n) (ht:a3l md tg=true) (hg:a7o n tg=true) (ht2:a3l md tg2=true) (hg2:a7o n tg2=true) (h:b0b n m tg t it2 tg2 t2 e xs [] L Q1)
  (k:∀ acc ps L' S' H',H acc=none→Q1 ps L'→a3n K S' H' acc (.lst ps)→a8t c md L' σ acc→Iv K c md L' σ S' H'→Same S S'→Q (.ref acc) H') :
  ∀ acc,H acc=none→∃ W:Nat→Nat→Hp→Prop,(∃ m,W 0 m (upd H acc (.lst [])))∧∀ i j H,W i j H →
   (J.stop i H∧Q (.ref acc) H) ∨ (J.go i H∧∀ x H',J.yld i H x H'→gT K tg x (σ++List.replicate m none) H' fun σ2 H2=>Wk (σ++List.replicate m none) σ2∧lb K md t σ2 H2 fun b H3 =>
    if b=true then tIn (liv K md it2) (gT K tg2) (lb K md t2) (lv K md e) acc σ2 H3 fun σ3 H4=>Wk (σ++List.replicate m none) σ3∧∃ m',m' < j∧W (i + 1) m' H4 else ∃ m',m' < j∧W (i + 1) m' H3):=by
 intro acc hacc
 have h0:=I.h0 hacc
 have hp:∀ p∈c.pr,p.1≠acc:=(I.fresh hacc).2.1
 have hz:=I.fzp
 have hl:σ.length=n:=by rw [← I.len]; exact hL
 let W:Nat→Nat→Hp→Prop:=fun i j H1=>∃ L S1 ps us,j=(xs.drop i).length∧Iv K { c with pr:=(acc,.lst us) :: c.pr } md L σ S1 H1∧RVs K S1 ps us∧Same S S1∧L.length=n∧b0b n m tg t it2 tg2 t2 e (xs.drop i) ps L Q1
 have I1:Iv K { c with pr:=(acc,.lst []) :: c.pr } md L σ S (upd H acc (.lst [])):=(I.lay hacc _).prot a0f (I.sn hacc) fun j w hm hj=>(I.fresh hacc).2.2 j w (fun z=>by rw [hm] at z; cases z) hj
 refine ⟨W,⟨_,L,S,[],[],rfl,I1,rfl,Same.refl S,hL,by rw [List.drop_zero]; exact h⟩,?_⟩
 rintro i j H1 ⟨L,S1,ps,us,rfl,I,r,s,hL,hc⟩
 have I0:=I.unprot hz
 obtain ⟨j1,j2⟩:=hJ i L σ S1 H1 I0 s
 obtain ⟨g1,g2,g3⟩:=I.prs (acc,.lst us) List.mem_cons_self
 cases hd:xs.drop i with
 | nil =>
  left
  rw [hd] at hc
  refine ⟨j1 (List.getElem?_eq_none_iff.mpr (List.drop_eq_nil_iff.mp hd)),k acc ps L S1 H1 hacc hc ⟨g2,ps,us,rfl,g1,r⟩ ⟨h0,hp,fun q w hm hq hs=>?_⟩ I0 s⟩
  by_cases mo:a0q md q=.own
  ·exact g3 q w mo hq hs
  ·have mo:a0q md q=.frz:=by cases z:a0q md q with | imm=>exact absurd z hm | own=>exact absurd z mo | frz=>rfl
   obtain ⟨b,f1⟩:=I0.fzm q w mo hq
   obtain ⟨_,f2,_⟩:=I0.fzs _ f1
   rw [hs] at f2; cases f2
   obtain ⟨ys,f3⟩:=hz _ f1
   exact hp _ f3 rfl
 | cons p rest =>
  right
  rw [hd] at hc
  have hi:xs[i]?=some p:=by
   have:=congrArg (·[0]?) hd
   simpa using this
  have hd':xs.drop (i + 1)=rest:=by
   have:=congrArg List.tail hd
   simpa [List.tail_drop] using this
  have hix:i < xs.length:=(List.getElem?_eq_some_iff.mp hi).1
  obtain ⟨go,yl⟩:=j2 p hi
  refine ⟨go,fun x H2 y=>?_⟩
  obtain ⟨S2,s2,tr,rx⟩:=yl x H2 y
  have I2:=(tr _ _ _ _ I).more m
  obtain ⟨σ2,L2,gq,q2,I2,len2,far⟩:=a7f ht I2 rx hc
  have l2:n≤σ2.length:=by rw [len2,List.length_append,hl]; lia
  have far':∀ q,q < n→σ2[q]?=σ[q]?:=fun q hq=>by rw [far n hg q hq,List.getElem?_append_left (by rw [hl]; exact hq)]
  have wk:∀ {σ3:List (Option V)},σ3.length=(σ++List.replicate m none).length→(∀ q,q < n→σ3[q]?=σ[q]?)→Wk (σ++List.replicate m none) σ3:=fun {σ3} hl3 f3=>⟨hl3,fun q v hv=>by
   have hq:q < n:=by
    by_cases h:q < σ.length
    ·rw [← hl]; exact h
    ·rw [List.getElem?_append_right (by lia),List.getElem?_replicate] at hv
     split at hv <;> cases hv
   rw [List.getElem?_append_left (by rw [hl]; exact hq)] at hv
   rw [f3 q hq]; exact hv⟩
  refine gq _ ⟨wk len2 far',?_⟩
  refine ⟨_,L2,S2,_,I2,q2,fun b L3 hb3 S3 H3 I3 s3=>?_⟩
  cases b with
  | false =>
   rw [if_neg Bool.false_ne_true] at hb3 ⊢
   exact ⟨rest.length,by simp,L3.take n,S3,ps,us,by rw [hd'],I3.take hmd hl l2 far',r.mono (s2.trans s3),s.trans (s2.trans s3),by rw [List.length_take,I3.len]; lia,by rw [hd']; exact hb3⟩
  | true =>
   rw [if_pos rfl] at hb3 ⊢
   refine d0t (n:=n) I3 h0 hp hz (r.mono (s2.trans s3)) ht2 hg2 hb3 fun ps' us' L' σ' S' H' q' I' r' s' hl' f'=>?_
   have f'':∀ q,q < n→σ'[q]?=σ[q]?:=fun q hq=>(f' q hq).trans (far' q hq)
   exact ⟨wk (hl'.trans len2) f'',rest.length,by simp,L'.take n,S',ps',us',by rw [hd'],I'.take hmd hl (by rw [hl']; exact l2) f'',r',s.trans (s2.trans (s3.trans s')),by rw [List.length_take,I'.len,hl']; lia,by rw [hd']; exact q'⟩
end
section
variable {X:Cx} {C:CC} {n:Nat} {sp:Γd→Nat→Sp} {pos p px:Pos} {i:Nat} {nx:Str} {fr:Bool}
variable {scope:Scope} {own:List Str} {elt tgx iter tgx2 iter2:Expr} {ifs ifs2:List Expr} {it it2:AW} {tg tg2:Tg} {t t2:BW} {e:EW} {nn m:Nat} {md':Md}
structure CompOk2 (X:Cx) (C:CC) (n:Nat) (sp:Γd→Nat→Sp) (scope:Scope) (own:List Str) (elt tgx iter:Expr) (ifs:List Expr) (tgx2 iter2:Expr) (ifs2:List Expr) (nn m:Nat) (md':Md) (it:AW) (tg:Tg) (t:BW) (it2:AW) (tg2:Tg) (t2:BW) (e:EW):Prop where
 st:(C.scOk scope own && decide (C.N.length=nn) && decide (own.length=m) && decide (md'.length≤nn) && d0k C.md md' && a3l md' tg && a7o nn tg && !b7t iter)=true
 st2:(a3l md' tg2 && a7o nn tg2 && !b7t iter2)=true
 it:FI X C md' tgx iter it
 tg:∀ X',Good X' (C.sub scope own md') n sp→FG X' tgx tg
 ts:∀ X',Good X' (C.sub scope own md') n sp→FTs X' (C.sub scope own md') ifs t
 it2:∀ X',Good X' (C.sub scope own md') n sp→FIv X' (C.sub scope own md') tgx2 iter2 it2
 tg2:∀ X',Good X' (C.sub scope own md') n sp→FG X' tgx2 tg2
 ts2:∀ X',Good X' (C.sub scope own md') n sp→FTs X' (C.sub scope own md') ifs2 t2
 el:∀ X',Good X' (C.sub scope own md') n sp→FE X' (C.sub scope own md') elt e
theorem CompOk2.run (G:Good X C n sp) (h:CompOk2 X C n sp scope own elt tgx iter ifs tgx2 iter2 ifs2 nn m md' it tg t it2 tg2 t2 e) {σ:L2.St} {H:Hp} {Q:VK} (hq:lf X.K C.md (d1e nn m it tg t it2 tg2 t2 e) σ H Q):c8i (li X.K C.md md' it) (gT X.K tg) (lb X.K md' t) (liv X.K md' it2) (gT X.K tg2) (lb X.K md' t2) (lv X.K md' e) own.length σ H Q:=by
 have h0:=b2 h.st; have h1:=b2 h0.1; have h2:=b2 h1.1; have h3:=b2 h2.1; have h4:=b2 h3.1; have h5:=b2 h4.1; have h6:=b2 h5.1
 have g0:=b2 h.st2; have g1:=b2 g0.1
 obtain ⟨c,L,S,Q0,I,hh,k⟩:=hq
 refine ⟨c,L,S,_,I,hh,fun xs L1 hx J c' S1 H1 I1 un e0 hJ s1=>?_⟩
 obtain ⟨hl,hc⟩:=hx
 rw [de h5.2]
 refine b8z I1 hJ hl (de h4.2) h2.2 h1.2 g1.1 g1.2 hc fun acc ps L' S' H' hn q o fr I' s'=>k _ L' q acc S' H' o ⟨by rw [← e0]; exact fr.1,((un _ _ _ _ I1).fresh hn).2.1,fun j w hm=>fr.2.2 j w (a5o h3.2 j hm)⟩ (un _ _ _ _ I') (s1.trans s')
end
noncomputable def ePop (i:Nat):EW:=fun L Q=>wp (lk L i) fun v=>wp (a8u v) fun xs=>wp (xs[xs.length - 1]?) fun y=>Q y (L.set i (some (.lst xs.dropLast)))
noncomputable def popI (xs:List FV) (k:Int):Option FV:=if 0≤k∧k < 4611686018427387904 then xs[k.toNat]? else none
noncomputable def ePopAt (i:Nat) (a:EW):EW:=fun L Q=>wp (lk L i) fun v=>wp (a8u v) fun _=>a L fun w L1=>wp (a3o w) fun k=>wp (lk L1 i) fun x=>wp (a8u x) fun xs=>wp (popI xs k) fun y=>Q y (L1.set i (some (.lst (xs.eraseIdx k.toNat))))
section
variable {K:Γd} {S:Hp}
end
section
variable {X:Cx} {C:CC} {n:Nat} {sp:Γd→Nat→Sp} {a:Expr} {ea:EW} {pos p:Pos} {i:Nat} {nx:Str}
end
end Kq
end
section
namespace L2
open PySem PySem.Spec PyProof.Rows
section
variable {X:Cx} {a e k:Expr} {ta te tk:TE} {pos p2:Pos}
end
end L2
namespace Kq
open PySem PySem.Spec PyProof.Rows L2
noncomputable def turnLF (v:FV):Option FV:=(a8u v).map fun xs=>.lst xs.reverse
section
variable {X:Cx} {C:CC} {a:Expr} {ea:EW} {pos:Pos}
end
end Kq
end
section
namespace L2
open PySem PySem.Spec PyProof.Rows
noncomputable def d4d (i j l:Nat) (ta:TA):TS:=fun D σ H=>ta σ H fun vs H1=>∃ v w z,vs=[v,w,z]∧D.nx (((σ.set i (some v)).set j (some w)).set l (some z)) H1
theorem b9z {v w z:V} {us:List Value} (r:Vals [v,w,z] us):∃ u1 u2 u3,us=[u1,u2,u3]∧RelV v u1∧RelV w u2∧RelV z u3:=by
 cases r with
 | cons p q =>
  cases q with
  | cons p' q' =>
   cases q' with
   | cons p'' q'' =>
    cases q''
    exact ⟨_,_,_,rfl,p,p',p''⟩
section
variable {X:Cx} {pos:Pos}
theorem c4z {i j l:Nat} {x y z:Str} {a b d:Expr} {ta:TA} {px py pz pt:Pos} {kt k2 pt2} (hc:X.calm=true) (hN:X.N.Nodup) (hi:X.N[i]?=some x) (hj:X.N[j]?=some y) (hl:X.N[l]?=some z) (hij:i≠j) (hil:i≠l) (hjl:j≠l)
  (hx:X.env.scope.names.lookup x=some .local) (hy:X.env.scope.names.lookup y=some .local) (hz:X.env.scope.names.lookup z=some .local) (ha:PA X [a,b,d] ta)
  (hw:swappedStores [.Tuple [.Name x px,.Name y py,.Name z pz] kt pt] (.Tuple [a,b,d] k2 pt2) X.env=pure (some [x,y,z]))
  (hs:swapsWithSole [.Tuple [.Name x px,.Name y py,.Name z pz] kt pt] (.Tuple [a,b,d] k2 pt2) pos.line X.env=pure false:=by rfl) :
  PS X (.Assign [.Tuple [.Name x px,.Name y py,.Name z pz] kt pt] (.Tuple [a,b,d] k2 pt2) pos) (d4d i j l ta):=by
 intro pins s σ H D I h
 rw [exec_Assign_arm]
 refine Γa (wpAny_standAt ?_)
 rw [hs]
 refine Γa (Γb ?_)
 rw [if_neg (by decide)]
 refine Γa (Tuple_ (thn (ha _ pins s σ H _ I h) fun us s1 ⟨vs,H1,I1,r1,q1⟩=>?_))
 obtain ⟨v,w,t,e1,q1⟩:=q1
 subst e1
 obtain ⟨u1,u2,u3,rfl,r1,r2,r3⟩:=b9z r1
 refine wpAny_newObj_type ?_ (by show 3≤sizeLine; decide)
 have I2:Inv X pins σ H1 { s1 with heap:=s1.heap.push { cls:=.type "tuple",data:=.seq [u1,u2,u3].toArray } }:=I1.kept (t':=s1.toks) fun b o e=>Γc _ e
 rw [hw]
 refine Γa (Γb ?_)
 show wpAny (model X.prog X.w) X.A (do rule "assign.swapped-stores"; let items ← unpackItems (.ref s1.heap.objs.size) 3 none; assignInOrder [fun v=>bindName X.env z v,fun v=>bindName X.env y v,fun v=>bindName X.env x v] items.reverse; pure Flow.next) _ _ _
 refine Γa (wpAny_rule (Γa (unpackItems_tuple (items:=#[u1,u2,u3]) (I.ok.hd hc) (IsTup.new s1.heap _) fun h' hx'=>?_)))
 have I3:=I2.kept (h':=h') (t':=s1.toks) fun b o e=>hx' b o (Nat.ne_of_lt (Heap.lt_size e)) e
 show wpAny _ _ (assignInOrder [fun v=>bindName X.env z v,fun v=>bindName X.env y v,fun v=>bindName X.env x v] [u3,u2,u1] >>= fun _=>pure Flow.next) _ _ _
 refine Γa (assignInOrder_cons (wpAny_bindName (a3i I3 hN hl (.inl hz) r3 (fun s2 I4=>?_) (.inr hz))))
 refine assignInOrder_cons (wpAny_bindName (a3i I4 hN hj (.inl hy) r2 (fun s3 I5=>?_) (.inr hy)))
 refine assignInOrder_cons (wpAny_bindName (a3i I5 hN hi (.inl hx) r1 (fun s4 I6=>assignInOrder_nil (Γb ?_)) (.inr hx)))
 rw [List.set_comm _ _ (Ne.symm hij),List.set_comm _ _ (Ne.symm hil),List.set_comm _ _ (Ne.symm hjl)] at I6
 exact ⟨_,H1,I6,q1⟩
end
end L2
namespace Kq
open PySem PySem.Spec PyProof.Rows L2
theorem sw3 {x y z:Str} {px py pz pt pt2:Pos} {kt k2:Nat} {a b d:Expr} {env:Env} (hk:env.scope.kind=.function) (hx:env.scope.names.lookup x=some .local) (hy:env.scope.names.lookup y=some .local) (hz:env.scope.names.lookup z=some .local) (hxy:x≠y) (hxz:x≠z) (hyz:y≠z) (hl:(py.line == px.line)=true) (hl2:(pz.line == px.line)=true)
  (sa:a7q a=false) (sb:a7q b=false) (sd:a7q d=false) (hf:(foldedForSure 8 a && foldedForSure 8 b && foldedForSure 8 d)=false) (hc:(constantsAlone 8 a && constantsAlone 8 b && constantsAlone 8 d)=false) :
  swappedStores [.Tuple [.Name x px,.Name y py,.Name z pz] kt pt] (.Tuple [a,b,d] k2 pt2) env=pure (some [x,y,z]):=by
 have hb:env.blockKind=.function:=by unfold Env.blockKind; rw [hk]; rfl
 have kx:env.kindOf x=some .local:=hx
 have ky:env.kindOf y=some .local:=hy
 have kz:env.kindOf z=some .local:=hz
 unfold swappedStores
 have hyx:¬ y=x:=fun e=>hxy e.symm
 have hzx:¬ z=x:=fun e=>hxz e.symm
 have hzy:¬ z=y:=fun e=>hyz e.symm
 have hs:([a,b,d].any fun | .Starred ..=>true | _=>false)=false:=by
  show (a7q a || (a7q b || (a7q d || false)))=false
  rw [sa,sb,sd]; rfl
 have hf':[a,b,d].all (foldedForSure 8)=false:=by simpa [Bool.and_assoc] using hf
 have hc':[a,b,d].all (constantsAlone 8)=false:=by simpa [Bool.and_assoc] using hc
 have hlx:((some (Expr.Name x px)).map (·.pos.line)).getD 0=px.line:=rfl
 simp only [List.length_cons,List.length_nil,hb,hs,hf',hc',List.head?_cons,hlx,List.filterMap_cons,List.filterMap_nil,kx,ky,kz,hl,hl2,beq_self_eq_true,Bool.and_self,if_true]
 simp [List.eraseDups_cons,hyx,hzx,hzy,bne,hxy,hxz,hyz]
 intro h
 exfalso
 rcases h with h | h | h
 ·cases a <;> first | (cases h; done) | (cases sa; done)
 ·cases b <;> first | (cases h; done) | (cases sb; done)
 ·cases d <;> first | (cases h; done) | (cases sd; done)
noncomputable def c3c (C:CC) (i j l:Nat) (x y z:Str) (px py pz:Pos) (a b d:Expr):Bool:=decide (C.N[i]?=some x) && decide (C.N[j]?=some y) && decide (C.N[l]?=some z) && decide (i≠j) && decide (i≠l) && decide (j≠l) && decide (x≠y) && decide (x≠z) && decide (y≠z) && decide (C.sc.lookup x=some .local) && decide (C.sc.lookup y=some .local) && decide (C.sc.lookup z=some .local) && (py.line == px.line) && (pz.line == px.line) && !a7q a && !a7q b && !a7q d && !(foldedForSure 8 a && foldedForSure 8 b && foldedForSure 8 d) && !(constantsAlone 8 a && constantsAlone 8 b && constantsAlone 8 d)
section
variable {X:Cx} {C:CC} {n:Nat} {sp:Γd→Nat→Sp} {a b d:Expr} {ea eb ed:EW} {pos px py pz:Pos} {i j l:Nat} {nx ny nz:Str} {fr:Bool}
theorem d7a (G:Good X C n sp) {kt k2:Nat} {pt p2:Pos} (hm:a3l C.md (.tp [i,j,l])=true) (h:c3c C i j l nx ny nz px py pz a b d=true) (ha:FE X C a ea) (hb:FE X C b eb) (hd:FE X C d ed):FS X C fr (.Assign [.Tuple [.Name nx px,.Name ny py,.Name nz pz] kt pt] (.Tuple [a,b,d] k2 p2) pos) (a1e (a3f (a0a ea (a0a eb (a0a ed a0h)))) (.tp [i,j,l])):=by
 unfold c3c at h
 simp only [Bool.and_eq_true,decide_eq_true_eq] at h
 obtain ⟨⟨⟨⟨⟨⟨⟨⟨⟨⟨⟨⟨⟨⟨⟨⟨⟨⟨h1,h2⟩,h3⟩,h4⟩,h5⟩,h6⟩,h7⟩,h8⟩,h9⟩,h10⟩,h11⟩,h12⟩,h13⟩,h14⟩,h15⟩,h16⟩,h17⟩,h18⟩,h19⟩:=h
 have lx:X.env.scope.names.lookup nx=some .local:=by rw [G.sc]; exact h10
 have ly:X.env.scope.names.lookup ny=some .local:=by rw [G.sc]; exact h11
 have lz:X.env.scope.names.lookup nz=some .local:=by rw [G.sc]; exact h12
 have sa:a0k a=false:=by cases a <;> first | rfl | (exact nb h15)
 have sb:a0k b=false:=by cases b <;> first | rfl | (exact nb h16)
 have sd:a0k d=false:=by cases d <;> first | rfl | (exact nb h17)
 refine PS.imp (c4z (X:=X.nox) G.calm G.nd' (G.ix (decide_eq_true h1)) (G.ix (decide_eq_true h2)) (G.ix (decide_eq_true h3)) h4 h5 h6 lx ly lz (a0o ha (a0o hb (a0o hd a1y (a0d sd)) (a0d sb)) (a0d sa)) (sw3 (env:=X.env) G.kind lx ly lz h7 h8 h9 h13 h14 (nb h15) (nb h16) (nb h17) (nb h18) (nb h19))) fun D σ H ⟨c,L,S,Q0,I,h,k⟩=>?_
 have hm1:=b2 (show (decide (a0q C.md i=.imm) && (decide (a0q C.md j=.imm) && (decide (a0q C.md l=.imm) && true)))=true from hm)
 have hm2:=b2 hm1.2
 refine ⟨c,L,S,_,I,h,fun v L1 q x S1 H1 r1 I1 s1=>⟨c,L1,S1,_,I1,q,fun w L2 q y S2 H2 r2 I2 s2=>⟨c,L2,S2,_,I2,q,fun t L3 q z S3 H3 r3 I3 s3=>⟨x,y,z,rfl,?_⟩⟩⟩⟩
 exact k .next _ q.2 _ S3 H3 (((I3.setI (de hm1.1) (r1.mono (s2.trans s3))).setI (de hm2.1) (r2.mono s3)).setI (de (b2 hm2.2).1) r3) (s1.trans (s2.trans s3))
end
end Kq
end
section
namespace Kq
open PySem PySem.Spec PyProof.Rows L2
noncomputable def eMv (j:Nat):EW:=fun L Q=>wp (lk L j) fun v=>Q v (L.set j none)
noncomputable def eCallT (call:CW) (f:Nat) (ea:EW) (as:AW):EW:=fun L Q=>ea L fun v L1=>as L1 fun vs L2=>call f (v :: vs) fun z=>Q z.1 L2
section
variable {X:Cx} {C:CC} {n:Nat} {sp:Γd→Nat→Sp} {a b:Expr} {ea eb:EW} {pos p:Pos} {call:CW}
variable {K:Γd} {c:Cn} {md:Md} {L:a0c} {σ:L2.St} {S H S' H':Hp} {i j f:Nat} {nx:Str} {xs:List Expr} {as:AW}
theorem a3j {L:a0c} {j i:Nat} {v:FV} (z:(L.set j none)[i]?=some (some v)):i≠j∧L[i]?=some (some v):=by
 by_cases q:i=j
 ·subst q
  have hj:i < L.length:=by have:=(List.getElem?_eq_some_iff.mp z).1; rwa [List.length_set] at this
  rw [List.getElem?_set_self hj] at z; cases z
 ·rw [List.getElem?_set_ne (Ne.symm q)] at z; exact ⟨q,z⟩
theorem Iv.drop (I:Iv K c md L σ S H) (hm:a0q md j=.own) (hj:j≠0):Iv K c md (L.set j none) σ S H where
 len:=by rw [List.length_set]; exact I.len
 imm:=fun i v h e=>I.imm i v h (a3j e).2
 own:=fun i v h e=>I.own i v h (a3j e).2
 dis:=fun i k v w a h1 h2 e1 e2=>I.dis i k v w a h1 h2 (a3j e1).2 (a3j e2).2
 sub:=I.sub
 frame:=I.frame
 s0:=I.s0
 grow:=I.grow
 lent:=fun a h=>by
  obtain ⟨g1,g2,g3⟩:=I.lent a h
  rw [List.getElem?_set_ne hj]; exact ⟨g1,g2,g3⟩
 fzs:=fun p hp=>by
  obtain ⟨g1,g2,g3⟩:=I.fzs p hp
  have:p.1≠j:=fun z=>by rw [z,hm] at g1; cases g1
  rw [List.getElem?_set_ne (Ne.symm this)]; exact ⟨g1,g2,g3⟩
 fzm:=fun i v h e=>I.fzm i v h (a3j e).2
 fzp:=I.fzp
 prs:=fun p hp=>let ⟨g1,g2,g3⟩:=I.prs p hp; ⟨g1,g2,fun i v h e=>g3 i v h (a3j e).2⟩
 ntp:=I.ntp
end
noncomputable def sFrz (j:Nat) (r:SW):SW:=fun L Q=>wp (lk L j) fun _=>r L fun fl L'=>Q fl (L'.set j none)
section
variable {X:Cx} {C:CC} {n:Nat} {sp:Γd→Nat→Sp} {fr:Bool} {sts:List Stmt} {r:SW}
variable {K:Γd} {c:Cn} {md md':Md} {L:a0c} {σ:L2.St} {S H:Hp} {j:Nat}
end
end Kq
end
set_option maxHeartbeats 1000000
set_option maxHeartbeats 4000000
section
namespace Kq
open PySem PySem.Spec PyProof.Rows L2 PySem.W
noncomputable def gA (a:Array Keyed) (i:Nat):Keyed:=a.getD i (.none,.none)
theorem c6q {a:Array Keyed} {i:Nat} (h:i < a.size):a[i]?=some (gA a i):=by
 simp [gA,Array.getD_eq_getD_getElem?,getElem?_pos a i h]
structure Cmp (prog:Program) (w:World) (A:Around) (E:Value→Shared→Prop) (s:Shared) (kd:SortKind) (Ok:Keyed→Prop) (lt:Keyed→Keyed→Bool):Prop where
 run:∀ x y,Ok x→Ok y→∀ (st:SortSt) (Q:Option Bool→SortSt→Prop),kindOf st=kd→Q (some (lt x y)) st→wpS (model prog w) A E s (lt' x y) Q st
 refl:∀ x,lt x x=false
 trans:∀ x y z,lt y x=false→lt z y=false→lt z x=false
 asym:∀ x y,lt x y=true→lt y x=false
noncomputable def Srt (lt:Keyed→Keyed→Bool) (a:Array Keyed) (lo hi:Nat):Prop:=∀ i j,lo≤i→i≤j→j < hi→lt (gA a j) (gA a i)=false
noncomputable def Out (a b:Array Keyed) (lo hi:Nat):Prop:=b.Perm a∧∀ k,k < lo ∨ hi≤k→gA b k=gA a k
theorem Out.refl (a:Array Keyed) (lo hi:Nat):Out a a lo hi:=⟨Array.Perm.refl _,fun _ _=>rfl⟩
theorem Out.trans {a b c:Array Keyed} {lo hi:Nat} (h:Out a b lo hi) (g:Out b c lo hi):Out a c lo hi:=⟨g.1.trans h.1,fun k hk=>(g.2 k hk).trans (h.2 k hk)⟩
theorem Out.size {a b:Array Keyed} {lo hi:Nat} (h:Out a b lo hi):b.size=a.size:=h.1.size_eq
noncomputable def AllOk (Ok:Keyed→Prop) (a:Array Keyed):Prop:=∀ x∈a.toList,Ok x
theorem AllOk.at {Ok:Keyed→Prop} {a:Array Keyed} (h:AllOk Ok a) {i:Nat} (hi:i < a.size):Ok (gA a i):=by
 refine h _ ?_
 have:=c6q hi
 rw [← Array.getElem?_toList] at this
 exact List.mem_of_getElem? this
theorem AllOk.perm {Ok:Keyed→Prop} {a b:Array Keyed} (h:AllOk Ok a) (p:b.Perm a):AllOk Ok b:=fun x hx=>h x ((Array.perm_iff_toList_perm.mp p).mem_iff.mp hx)
section
variable {prog:Program} {w:World} {A:Around} {E:Value→Shared→Prop} {s:Shared} {kd:SortKind} {Ok:Keyed→Prop} {lt:Keyed→Keyed→Bool}
abbrev stA (kd:SortKind) (a:Array Keyed) (p:Array (Nat×Nat×Nat)) (g:Nat):SortSt:=SortSt.mk' kd a p g none
theorem ask (C:Cmp prog w A E s kd Ok lt) {a:Array Keyed} {p:Array (Nat×Nat×Nat)} {g i j:Nat} {Q:Option Bool→SortSt→Prop} (ho:AllOk Ok a) (hi:i < a.size) (hj:j < a.size) (h:Q (some (lt (gA a i) (gA a j))) (stA kd a p g)):wpS (model prog w) A E s (ltAt' i j) Q (stA kd a p g):=by
 rw [ltAt'_eq]
 refine wpS_bind (wpS_get ?_)
 show wpS _ _ _ _ (do let x ← elem' a i; let y ← elem' a j; lt' x y) Q _
 rw [elem'_eq,elem'_eq,c6q hi,c6q hj]
 exact wpS_bind (wpS_pure (wpS_bind (wpS_pure (C.run _ _ (ho.at hi) (ho.at hj) _ _ rfl h))))
theorem turned {a:Array Keyed} {p:Array (Nat×Nat×Nat)} {g i j:Nat} {Q:Unit→SortSt→Prop} (h:Q () (stA kd (mirror a i j ((j - i) / 2)) p g)):wpS (model prog w) A E s (reverseSlice' i j) Q (stA kd a p g):=by
 rw [reverseSlice'_eq]; exact wpS_modify h
end
section
variable {prog:Program} {w:World} {A:Around} {E:Value→Shared→Prop} {s:Shared} {kd:SortKind} {Ok:Keyed→Prop} {lt:Keyed→Keyed→Bool}
end
section
variable {prog:Program} {w:World} {A:Around} {E:Value→Shared→Prop} {s:Shared} {kd:SortKind} {Ok:Keyed→Prop} {lt:Keyed→Keyed→Bool}
end
abbrev Asc {α:Type} (lt:α→α→Bool) (l:List α):Prop:=l.Pairwise fun x y=>lt y x=false
structure MI {α:Type} (lt:α→α→Bool) (X Y O:List α) (i j:Nat):Prop where
 perm:O.Perm (X.take i++Y.take j)
 srt:Asc lt O
 bef:∀ x∈O,∀ y∈X.drop i++Y.drop j,lt y x=false
section
variable {α:Type} {lt:α→α→Bool} {X Y O:List α} {i j k:Nat}
theorem MI.swap (h:MI lt X Y O i j):MI lt Y X O j i:=⟨h.perm.trans List.perm_append_comm,h.srt,fun x hx y hy=>h.bef x hx y (by simpa [or_comm] using hy)⟩
theorem MI.more (h:MI lt X Y O i j) (hX:Asc lt X) (hc:∀ x∈(X.drop i).take k,∀ y∈Y.drop j,lt y x=false):MI lt X Y (O++(X.drop i).take k) (i + k) j:=by
 have hsub:X.drop i=(X.drop i).take k++X.drop (i + k):=by rw [← List.drop_drop,List.take_append_drop]
 have hXd:Asc lt (X.drop i):=hX.sublist (List.drop_sublist _ _)
 rw [hsub] at hXd
 obtain ⟨s1,s2,s3⟩:=List.pairwise_append.mp hXd
 refine ⟨?_,?_,fun x hx y hy=>?_⟩
 ·rw [List.take_add,List.append_assoc]
  refine (h.perm.append_right _).trans ?_
  rw [List.append_assoc]
  exact List.Perm.append_left _ List.perm_append_comm
 ·refine List.pairwise_append.mpr ⟨h.srt,s1,fun x hx y hy=>h.bef x hx y (List.mem_append_left _ (List.mem_of_mem_take hy))⟩
 ·rcases List.mem_append.mp hx with hx | hx
  ·refine h.bef x hx y ?_
   rcases List.mem_append.mp hy with hy | hy
   ·rw [hsub]; exact List.mem_append_left _ (List.mem_append_right _ hy)
   ·exact List.mem_append_right _ hy
  ·rcases List.mem_append.mp hy with hy | hy
   ·exact s3 x hx y hy
   ·exact hc x hx y hy
noncomputable def Mrg (lt:α→α→Bool) (X Y R:List α):Prop:=R.Perm (X++Y)∧Asc lt R
theorem Mrg.swap {R:List α} (h:Mrg lt X Y R):Mrg lt Y X R:=⟨h.1.trans List.perm_append_comm,h.2⟩
end
section
variable {lt:Keyed→Keyed→Bool} {x y o:Array Keyed} {i j k:Nat}
abbrev MA (lt:Keyed→Keyed→Bool) (x y o:Array Keyed) (i j:Nat):Prop:=MI lt x.toList y.toList o.toList i j
theorem MA.swap (h:MA lt x y o i j):MA lt y x o j i:=MI.swap h
end
section
variable {prog:Program} {w:World} {A:Around} {E:Value→Shared→Prop} {s:Shared} {kd:SortKind} {Ok:Keyed→Prop} {lt:Keyed→Keyed→Bool}
end
abbrev rv (lt:Keyed→Keyed→Bool):Keyed→Keyed→Bool:=fun u v=>lt v u
noncomputable def MH (lt:Keyed→Keyed→Bool) (x y o:Array Keyed) (i j:Nat):Prop:=MI (rv lt) x.toList.reverse y.toList.reverse o.toList (x.size - i) (y.size - j)
section
variable {lt:Keyed→Keyed→Bool} {x y o:Array Keyed} {i j t:Nat}
theorem MH.swap (h:MH lt x y o i j):MH lt y x o j i:=MI.swap h
end
section
variable {prog:Program} {w:World} {A:Around} {E:Value→Shared→Prop} {s:Shared} {kd:SortKind} {Ok:Keyed→Prop} {lt:Keyed→Keyed→Bool}
end
noncomputable def back (r:Array Keyed) (s:Nat) (a:Array Keyed):Array Keyed:=r.toList.zipIdx.foldl (fun a q=>a.setIfInBounds (s + q.2) q.1) a
section
variable {prog:Program} {w:World} {A:Around} {E:Value→Shared→Prop} {s:Shared} {kd:SortKind} {Ok:Keyed→Prop} {lt:Keyed→Keyed→Bool}
end
noncomputable def Cov (lt:Keyed→Keyed→Bool) (a:Array Keyed):List (Nat×Nat×Nat)→Nat→Nat→Prop
 | [],s,e=>s=e
 | (u,n,_) :: r,s,e=>u=s∧1≤n∧Srt lt a s (s + n)∧Cov lt a r (s + n) e
section
variable {lt:Keyed→Keyed→Bool} {a b:Array Keyed}
theorem Cov.snoc:∀ {l:List (Nat×Nat×Nat)} {s e n f:Nat},Cov lt a l s e→1≤n→Srt lt a e (e + n)→Cov lt a (l++[(e,n,f)]) s (e + n)
 | [],s,e,n,f,h,h1,h2=>by cases (show s=e from h); exact ⟨rfl,h1,h2,rfl⟩
 | (u,m,_) :: r,s,e,n,f,⟨g1,g2,g3,g4⟩,h1,h2=>⟨g1,g2,g3,g4.snoc h1 h2⟩
end
section
variable {prog:Program} {w:World} {A:Around} {E:Value→Shared→Prop} {s:Shared} {kd:SortKind} {Ok:Keyed→Prop} {lt:Keyed→Keyed→Bool}
end
section
variable {prog:Program} {w:World} {A:Around} {E:Value→Shared→Prop} {s:Shared} {vs:List Value} {kd:SortKind} {kf:Value→List Int}
end
noncomputable def numsOf (h:Heap):Value→List Int
 | .ref a=>match h.get? a with
  | some o=>match o.data with
   | .seq us _=>us.toList.map numOf
   | _=>[]
  | none=>[]
 | _=>[]
section
variable {prog:Program} {w:World} {A:Around} {E:Value→Shared→Prop} {s:Shared} {vs:List Value}
noncomputable def NumTup (h:Heap) (v:Value) (ks:List Int):Prop:=∃ (a:Addr) (o:Obj) (us:List Value) (n:Nat),v=.ref a∧h.get? a=some o∧o.cls=.type "tuple"∧o.data=.seq us.toArray n∧Vals (ks.map V.int) us∧ks≠[]
theorem NumTup.keep {h h':Heap} {v:Value} {ks:List Int} (x:NumTup h v ks) (k:∀ b o,h.get? b=some o→h'.get? b=some o):NumTup h' v ks:=by
 obtain ⟨a,o,us,n,e,h1,h2⟩:=x
 exact ⟨a,o,us,n,e,k _ _ h1,h2⟩
end
noncomputable def fkey:FV→List Int
 | .tup ps=>(a0z ps).getD []
 | _=>[]
noncomputable def eSortT (a:EW):EW:=fun L Q=>a L fun v L1=>wp (a2e v) fun xs=>b5s xs=true∧xs.length≤big∧∀ ys:List FV,ys.Perm xs→(ys.Pairwise fun x y=>lexLt (fkey y) (fkey x)=false)→Q (.lst ys) L1
section
variable {K:Γd} {S:Hp}
end
section
variable {X:Cx}
end
section
variable {X:Cx} {C:CC} {n:Nat} {sp:Γd→Nat→Sp} {a:Expr} {ea:EW} {pos p:Pos}
end
noncomputable def EntAt (h:Heap) (d:Addr) (es:Array DictEntry) (ep:Nat):Prop:=∃ o,h.get? d=some o∧o.ExactDict∧o.data=.dict es ep
section
variable {prog:Program} {w:World} {A:Around} {E:Value→Shared→Prop} {s:Shared} {it d:Addr} {i n ep:Nat} {es:Array DictEntry}
theorem EntAt.keep {h h':Heap} (x:EntAt h d es ep) (k:∀ o,h.get? d=some o→h'.get? d=some o):EntAt h' d es ep:=by
 obtain ⟨o,ho,r⟩:=x
 exact ⟨o,k o ho,r⟩
end
section
variable {X:Cx} {pins:List (Addr×Obj)} {σ:L2.St} {H:Hp} {s:Shared} {a:Addr}
end
noncomputable def keyF (k:List Int):FV:=.tup (k.map .int)
section
variable {X:Cx} {C:CC} {n:Nat} {sp:Γd→Nat→Sp} {tg:Expr} {p:Pos} {i:Nat} {nx:Str}
variable {K:Γd} {c:Cn} {md:Md}
end
section
variable {prog:Program} {w:World} {A:Around} {E:Value→Shared→Prop} {s:Shared} {d:Addr} {es:Array DictEntry} {ep:Nat}
end
theorem obj_there {P:Program} {w:World} {H:Hp} {h:Heap} {a:Addr} {o:HO} (x:ObjOk P w H h a o):∃ u,h.get? a=some u:=by
 cases o with
 | lst xs=>exact let ⟨_,_,_,_,e⟩:=x; ⟨_,e⟩
 | tup xs=>exact let ⟨_,_,_,o,e,_⟩:=x; ⟨o,e⟩
 | dK kvs=>exact let ⟨_,_,_,_,o,_,_,e,_⟩:=x; ⟨o,e⟩
 | dT kvs=>exact let ⟨_,_,_,_,o,_,_,e,_⟩:=x; ⟨o,e⟩
 | set S n=>exact let ⟨o,_,_,_,e,_⟩:=x; ⟨o,e⟩
 | ins C dx fs=>exact let ⟨_,_,_,e,_⟩:=x; ⟨_,e⟩
 | own y=>exact x
 | xd fs=>exact let ⟨_,⟨o,_,_,e,_⟩,_⟩:=x; ⟨o,e⟩
 | rng lo hi=>exact let ⟨_,_,_,e⟩:=x; ⟨_,e⟩
 | frz ob u=>exact ⟨ob,x.1⟩
 | tbl ps=>exact ⟨_,x⟩
 | met f y=>exact ⟨_,x⟩
 | ext φ=>exact x.2.1
theorem c1l {X:Cx} {pins:List (Addr×Obj)} {σ:L2.St} {H:Hp} {s:Shared} {h':Heap} {a:Addr} {o:HO} {t':Nat} (I:Inv X pins σ H s) (k:∀ b u,s.heap.get? b=some u→h'.get? b=some u) (hp:∀ b u,s.heap.get? b=some u→b≠a) (new:ObjOk X.prog X.w (upd H a o) h' a o):Inv X pins σ (upd H a o) { s with heap:=h',toks:=t' }∧H a=none:=by
 have tr:∀ {b u},H b=some u→b≠a:=fun {b u} e=>let ⟨v,hv⟩:=obj_there (I.hok b u e); hp b v hv
 have ow:∀ b u,H b=some u→upd H a o b=some u:=fun b u e=>by rw [a0e (tr e)]; exact e
 refine ⟨I.un (t':=t') ⟨fun b o' e _ _ _=>k b o' e,fun b o' e _ _ _=>⟨o'.slots,k b o' e⟩,fun b o' e n _=>by rw [a0e (hp b o' e)]; exact n,fun b o' e _=>⟨o',k b o' e⟩,fun b xs e=>ow b _ e,fun b o' u e=>ow b _ e,fun b ps e=>⟨#[],by rw [Array.append_empty]; exact ow b _ e⟩⟩ fun b u e=>?_,?_⟩
 ·by_cases z:b=a
  ·subst z; rw [a0f] at e; cases e; exact new
  ·rw [a0e z] at e
   exact (I.hok b u e).stay (fun c v _ q=>k c v q) (fun c e=>ow c _ e) fun c xs e=>ow c _ e
 ·cases q:H a with
  | none=>rfl
  | some u=>exact absurd rfl (tr q)
section
variable {X:Cx}
end
noncomputable def d1j:FV→Option (List (List Int))
 | .dct ks _=>some ks
 | .dcz _ ks _=>some ks
 | _=>none
noncomputable def eSortD (j:Nat):EW:=fun L Q=>wp (lk L j) fun v=>wp (d1j v) fun ks=>ks.length≤big∧(∀ k∈ks,k≠[])∧∀ ys:List (List Int),ys.Perm ks→(ys.Pairwise fun x y=>lexLt y x=false)→Q (.lst (ys.map keyF)) L
section
variable {X:Cx} {C:CC} {n:Nat} {sp:Γd→Nat→Sp} {pos p p':Pos} {i:Nat} {nx:Str}
theorem Iv.tups {K:Γd} {c:Cn} {md:Md} {L:a0c} {σ:L2.St} {H:Hp}:∀ {ys:List (List Int)} {zs:List V} {S:Hp},Iv K c md L σ S H→Paired (fun (k:List Int) (z:V)=>∃ b:Addr,z=V.ref b∧H b=some (.tup (k.map V.int))) ys zs→∃ S',Iv K c md L σ S' H∧Same S S'∧RVs K S' (ys.map keyF) zs
 | _,_,S,I,.nil=>⟨S,I,Same.refl S,rfl⟩
 | _,_,S,I,.cons (a:=k) (b:=z) ⟨b,e,hb⟩ t=>by
  subst e
  obtain ⟨S',I',s',r⟩:=Iv.tups I t
  obtain ⟨I2,s2⟩:=I'.tup hb
  exact ⟨_,I2,s'.trans s2,V.ref b,_,rfl,⟨b,_,rfl,a0f,RVs.ns k⟩,r.mono s2⟩
end
noncomputable def b1v (xs:Array Nat):Prop:=∀ i j (hi:i < xs.size) (hj:j < xs.size),i < j→xs[i] < xs[j]
noncomputable def d2e (xs:Array Nat) (j r:Nat):Prop:=r≤xs.size∧(∀ k (h:k < xs.size),k < r→xs[k] < j)∧∀ k (h:k < xs.size),r≤k→j≤xs[k]
theorem a8s {xs:Array Nat} {j:Nat} (rs:b1v xs):∀ (f lo hi:Nat),hi≤xs.size→lo≤hi→hi - lo≤f→(∀ k (h:k < xs.size),k < lo→xs[k] < j)→(∀ k (h:k < xs.size),hi≤k→j≤xs[k])→d2e xs j (SetTable.below.go xs j f lo hi)
 | 0,lo,hi,h1,h2,h3,a,b=>by
  have e:lo=hi:=by lia
  subst e
  exact ⟨h1,a,b⟩
 | f + 1,lo,hi,h1,h2,h3,a,b=>by
  unfold SetTable.below.go
  by_cases h:lo < hi
  ·rw [if_pos h]
   have hm:(lo + hi) / 2 < xs.size:=by lia
   dsimp only
   rw [Array.getD_eq_getD_getElem?,Array.getElem?_eq_getElem hm,Option.getD_some]
   by_cases q:xs[(lo + hi) / 2] < j
   ·rw [if_pos q]
    refine a8s rs f _ _ h1 (by lia) (by lia) (fun k hk hl=>?_) b
    by_cases e:k=(lo + hi) / 2
    ·subst e; exact q
    ·exact Nat.lt_trans (rs k _ hk hm (by lia)) q
   ·rw [if_neg q]
    refine a8s rs f _ _ (by lia) (by lia) (by lia) a fun k hk hl=>?_
    by_cases e:k=(lo + hi) / 2
    ·subst e; lia
    ·have:=rs _ k hm hk (by lia); lia
  ·rw [if_neg h]
   have e:lo=hi:=by lia
   subst e
   exact ⟨h1,a,b⟩
theorem a6b {xs:Array Nat} (rs:b1v xs) (j:Nat):d2e xs j (SetTable.below xs j):=by
 unfold SetTable.below
 exact a8s rs _ _ _ (Nat.le_refl _) (Nat.zero_le _) (by lia) (fun k _ h=>absurd h (Nat.not_lt_zero _)) fun k h1 h2=>absurd h1 (by lia)
theorem a8h {α:Type} (xs:Array α) (p:Nat) (x:α) (hp:p≤xs.size):(SetTable.insertAt xs p x).toList=xs.toList.take p++x :: xs.toList.drop p:=by
 unfold SetTable.insertAt
 simp
 exact List.take_of_length_le (by simp)
theorem rise_list {xs:Array Nat}:b1v xs↔xs.toList.Pairwise (· < ·):=by
 rw [List.pairwise_iff_getElem]
 constructor
 ·intro h i j hi hj l
  simpa using h i j (by simpa using hi) (by simpa using hj) l
 ·intro h i j hi hj l
  have:=h i j (by simpa using hi) (by simpa using hj) l
  rwa [Array.getElem_toList,Array.getElem_toList] at this
theorem b1h {xs:Array Nat} {j:Nat} (rs:b1v xs) (ne:xs[SetTable.below xs j]?≠some j):b1v (SetTable.insertAt xs (SetTable.below xs j) j):=by
 obtain ⟨h1,h2,h3⟩:=a6b rs j
 rw [rise_list,a8h _ _ _ h1,List.pairwise_append]
 have rl:=rise_list.mp rs
 refine ⟨rl.sublist (List.take_sublist _ _),List.pairwise_cons.mpr ⟨fun y hy=>?_,rl.sublist (List.drop_sublist _ _)⟩,fun x hx y hy=>?_⟩
 ·obtain ⟨i,hi,e⟩:=List.mem_iff_getElem.mp hy
  simp at hi e
  have hb:SetTable.below xs j + i < xs.size:=by lia
  have g:=h3 _ hb (by lia)
  rw [e] at g
  rcases Nat.lt_or_ge j y with l | l
  ·exact l
  ·have e2:y=j:=by lia
   exfalso
   by_cases z:i=0
   ·subst z
    apply ne
    rw [Array.getElem?_eq_getElem (by lia)]
    simp at e
    rw [e,e2]
   ·have hb0:SetTable.below xs j < xs.size:=by lia
    have g0:=h3 _ hb0 (Nat.le_refl _)
    have g1:=rs _ _ hb0 hb (by lia)
    rw [e] at g1; lia
 ·obtain ⟨i,hi,e⟩:=List.mem_iff_getElem.mp hx
  simp at hi e
  have gx:=h2 i (by lia) (by lia)
  rw [e] at gx
  rcases List.mem_cons.mp hy with rfl | hy
  ·exact gx
  ·obtain ⟨k,hk,e'⟩:=List.mem_iff_getElem.mp hy
   simp at hk e'
   have g:=h3 _ (show SetTable.below xs j + k < xs.size by lia) (by lia)
   rw [e'] at g; lia
noncomputable def TabOk (t:SetTable) (l:Bool):Prop:=t.led=l∧t.dummies = #[]∧(t.plain=true→b1v t.place)
theorem TabOk.fresh (f m:Nat) (l:Bool):TabOk (.fresh f m l) l:=⟨rfl,rfl,fun _ i j hi=>absurd hi (Nat.not_lt_zero _)⟩
theorem TabOk.stand {t:SetTable} {l:Bool} (h:TabOk t l) (n:Nat):TabOk (t.standIn n) l:=⟨h.1,rfl,fun z=>Bool.noConfusion z⟩
theorem TabOk.orStand {t:SetTable} {l:Bool} (h:TabOk t l) (n:Nat):TabOk (t.orStandIn n) l:=by
 unfold SetTable.orStandIn
 split
 ·exact h
 ·exact h.stand n
theorem b3e (j:Nat):SetTable.has #[] j=false:=by
 unfold SetTable.has
 rfl
theorem b2m {t:SetTable} (hd:t.dummies = #[]) {f:Nat→Int} {h:Int}:∀ (n:Nat) (p:SetTable.Probe) (j:Nat) (d:Option Nat),p.dummy=none→SetTable.probe.go t f h n p=some (.empty j d)→d=none∧t.slot j=.empty
 | 0,p,j,d,_,e=>by cases e
 | n + 1,p,j,d,hp,e=>by
  unfold SetTable.probe.go at e
  have ad:(t.advance p).dummy=none:=by
   unfold SetTable.advance
   split
   ·exact hp
   ·exact hp
  cases q:t.slot p.j with
  | empty=>rw [q] at e; cases e; exact ⟨hp,q⟩
  | dummy =>
   exfalso
   unfold SetTable.slot at q
   rw [hd,b3e] at q
   dsimp only at q
   by_cases z:(t.place[SetTable.below t.place p.j]? == some p.j)=true
   ·rw [if_pos z] at q; exact nomatch q
   ·rw [if_neg z,if_neg (by simp)] at q; exact nomatch q
  | live i =>
   rw [q] at e
   dsimp only at e
   split at e
   ·cases e
   ·exact b2m hd n _ j d ad e
theorem b8b {t:SetTable} (hd:t.dummies = #[]) {h:Int} {j:Nat} {b:Bool} (e:t.freeSlot h=some (j,b)):t.slot j=.empty:=by
 unfold SetTable.freeSlot SetTable.probe at e
 split at e
 ·rename_i j' d q
  obtain ⟨rfl,q2⟩:=b2m hd _ _ _ _ rfl q
  cases e
  exact q2
 ·cases e
theorem TabOk.put {t:SetTable} {l:Bool} (h:TabOk t l) {j:Nat} (e:t.slot j=.empty):TabOk (t.put j).1 l:=by
 refine ⟨h.1,?_,fun p=>?_⟩
 ·show (if SetTable.has t.dummies j then _ else t.dummies) = #[]
  rw [h.2.1,b3e]; rfl
 ·refine b1h (h.2.2 p) fun z=>?_
  unfold SetTable.slot at e
  rw [if_pos (by rw [z]; simp)] at e
  cases e
theorem TabOk.layNew {t:SetTable} {l:Bool} (h:TabOk t l) (es:Array (Int×Value)) (k:Int) (x:Value):TabOk (layNew t es k x).2.1 l:=by
 unfold PySem.layNew
 cases q:t.freeSlot k with
 | none=>exact h.stand _
 | some jb=>exact (h.put (b8b h.2.1 q)).orStand _
theorem TabOk.relay {t:SetTable} {l:Bool} (h:TabOk t l) (es:Array (Int×Value)) (n:Nat):TabOk (relayAll t es n).2.1 l:=by
 unfold relayAll
 cases q:t.relaid (es.map (·.1)) n with
 | none=>exact h.stand _
 | some p =>
  obtain ⟨t',od⟩:=p
  dsimp only
  split
  ·show TabOk t' l
   unfold SetTable.relaid SetTable.laid at q
   cases ow:SetTable.layClean (SetTable.sizeAbove n - 1) (es.map (·.1)) with
   | none=>rw [ow] at q; cases q
   | some owner =>
    rw [ow] at q
    cases q
    refine ⟨h.1,rfl,fun _=>?_⟩
    rw [rise_list]
    show (List.map Prod.fst (List.filterMap (fun j=>(owner.getD j none).map (j,·)) (List.range _))).Pairwise (· < ·)
    rw [List.pairwise_map,List.pairwise_filterMap]
    refine List.pairwise_lt_range.imp fun {a b} hab x hx y hy=>?_
    cases hoa:owner.getD a none with
    | none=>rw [hoa] at hx; cases hx
    | some va =>
     cases hob:owner.getD b none with
     | none=>rw [hob] at hy; cases hy
     | some vb =>
      rw [hoa] at hx; rw [hob] at hy
      cases hx; cases hy
      exact hab
  ·exact h.stand _
noncomputable def NumEs (l:List (Int×Value)):Prop:=∀ e∈l,∃ k tk,e=(hashInt k,Value.int k tk)
theorem NumEs.elems {prog:Program} {w:World} {l:List (Int×Value)} (h:NumEs l):ElemsOf (intKind prog w) l:=fun e he=>by
 obtain ⟨k,tk,rfl⟩:=h e he
 exact ⟨⟨k,intKind_is _ _ _ _,rfl⟩,rfl⟩
theorem NumEs.perm {l l':List (Int×Value)} (h:NumEs l) (p:l'.Perm l):NumEs l':=fun e he=>h e (p.mem_iff.mp he)
noncomputable def a7i (l:List (Int×Value)):List Int:=l.map fun e=>numOf e.2
structure SetData (w:World) (o:Obj) (ns:List Int) (es:Array (Int×Value)) (ep:Nat) (t:SetTable):Prop where
 ex:o.ExactSet
 dat:o.data=.set es ep t
 num:NumEs es.toList
 perm:(a7i es.toList).Perm ns
 small:ns.length < scanBound
 fits:t.fits es.size=true
 tab:TabOk t (!w.params.followText "set-order")
noncomputable def SetN (w:World) (h:Heap) (a:Addr) (ns:List Int):Prop:=ns.Nodup∧∃ o es ep t,h.get? a=some o∧SetData w o ns es ep t
theorem SetData.size {w:World} {o:Obj} {ns:List Int} {es:Array (Int×Value)} {ep:Nat} {t:SetTable} (d:SetData w o ns es ep t):es.size=ns.length:=by
 have:=d.perm.length_eq
 rw [a7i,List.length_map,Array.length_toList] at this
 exact this
section
variable {prog:Program} {w:World} {A:Around} {E:Value→Shared→Prop} {s:Shared} {a:Addr}
theorem SetData.put {o:Obj} {ns ms:List Int} {es es':Array (Int×Value)} {ep:Nat} {t t':SetTable} {h:Heap} (d:SetData w o ns es ep t) (ho:h.get? a=some o) (n':NumEs es'.toList) (p':(a7i es'.toList).Perm ms) (s':ms.length < scanBound) (f':t'.fits es'.size=true) (t2:TabOk t' (!w.params.followText "set-order")) :
  ∃ o',(h.update a (Obj.putSet es' t')).get? a=some o'∧SetData w o' ms es' (ep + 1) t':=by
 refine ⟨_,Heap.get?_update_self (Obj.putSet es' t') ho (by rw [putSet_of es' t' d.dat]; rfl),?_⟩
 rw [putSet_of es' t' d.dat]
 exact ⟨d.ex,rfl,n',p',s',f',t2⟩
theorem b7z (b:Bool) {Q:Unit→Shared→Prop} (q:Q () s):wpAny (model prog w) A (match b with | true=>rule "set.scan.the-table-gave-way" | false=>pure ()) Q E s:=by
 cases b
 ·exact Γb q
 ·exact wpAny_rule q
theorem c7s {k:Int} {tk:Nat} {ns:List Int} {Q:Bool→Shared→Prop} (hS:SetN w s.heap a ns) (hr:ns.length + 1 < scanBound)
  (q:∀ h' b,Heap.SameBut a s.heap h'→SetN w h' a (if k∈ns then ns else ns++[k])→Q b { s with heap:=h' }) :
  wpAny (model prog w) A (setAddHashed a (.int k tk) (hashInt k)) Q E s:=by
 obtain ⟨nd,o,es,ep,t,ho,d⟩:=hS
 have hz:es.size < scanBound:=by rw [d.size]; exact d.small
 have hk:(intKind prog w).is k (.int k tk)=true:=intKind_is _ _ _ _
 unfold setAddHashed setAddHashedIn
 refine Γg (Γa (wpAny_setState_of ho d.dat d.fits ?_))
 dsimp only
 rw [byScan_of (knd:=intKind prog w) rfl hz d.num.elems,if_pos rfl]
 unfold setAddByScan
 refine Γa (Γa (wpAny_rule (Γa (wpAny_setScan_of (knd:=intKind prog w) hk ho d.dat d.fits d.num.elems ?_))))
 have mem:k∈ns↔∃ e∈es.toList,(intKind prog w).is k e.2=true:=by
  rw [← d.perm.mem_iff,a7i,List.mem_map]
  constructor
  ·rintro ⟨e,he,ek⟩
   obtain ⟨j,tj,rfl⟩:=d.num e he
   cases (show j=k from ek)
   exact ⟨_,he,intKind_is _ _ _ _⟩
  ·rintro ⟨e,he,ek⟩
   obtain ⟨j,tj,rfl⟩:=d.num e he
   refine ⟨_,he,?_⟩
   exact (intKind prog w).inj (.int j tj) _ _ (intKind_is _ _ _ _) ek
 cases fr:es.toList.findIdx? (fun e=>(intKind prog w).is k e.2) with
 | some j =>
  obtain ⟨hj,pj,_⟩:=List.findIdx?_eq_some_iff_getElem.mp fr
  have hin:k∈ns:=mem.mpr ⟨_,List.getElem_mem hj,pj⟩
  refine Γb (Γb ?_)
  have:=q s.heap false (Heap.SameBut.refl a s.heap)
  rw [if_pos hin] at this
  exact this ⟨nd,o,es,ep,t,ho,d⟩
 | none =>
  have hni:k ∉ ns:=fun z=>by
   obtain ⟨e,he,pe⟩:=mem.mp z
   have:=List.findIdx?_eq_none_iff.mp fr e he
   rw [pe] at this; cases this
  rw [if_neg hni] at q
  have nd':(ns++[k]).Nodup:=by
   rw [List.nodup_append]
   exact ⟨nd,by simp,fun x hx y hy z=>hni (by rw [List.mem_singleton.mp hy] at z; rw [← z]; exact hx)⟩
  dsimp only
  have lp:=layNew_perm t es (hashInt k) (.int k tk)
  have lf:=layNew_fits t es (hashInt k) (.int k tk)
  have lt:=d.tab.layNew es (hashInt k) (.int k tk)
  generalize layNew t es (hashInt k) (.int k tk)=R at lp lf lt ⊢
  obtain ⟨es1,t1,wd,gv⟩:=R
  dsimp only at lp lf lt ⊢
  rw [Array.toList_push] at lp
  have n1:NumEs es1.toList:=fun e he=>by
   rcases List.mem_append.mp (lp.mem_iff.mp he) with he | he
   ·exact d.num e he
   ·exact ⟨k,tk,List.mem_singleton.mp he⟩
  have p1:(a7i es1.toList).Perm (ns++[k]):=by
   refine (lp.map _).trans ?_
   rw [List.map_append]
   exact d.perm.append (.refl _)
  have s1:(ns++[k]).length < scanBound:=by rw [List.length_append]; exact hr
  have fin:∀ t2:SetTable,t2.fits es1.size=true→TabOk t2 (!w.params.followText "set-order")→wpAny (model prog w) A (do
    storeSet a es1 t2
    if (!wd && t2.tooFull)=true then do
      (match (relayAll t2 es1 (SetTable.grown es1.size)).2.2 with | true=>rule "set.scan.the-table-gave-way" | false=>pure ())
      storeSet a (relayAll t2 es1 (SetTable.grown es1.size)).1 (relayAll t2 es1 (SetTable.grown es1.size)).2.1
      pure (some true)
     else pure (some true)) (fun r s'=>wpAny (model prog w) A (match r with | some added=>pure added | none=>setAddHashedIn a (.int k tk) (hashInt k) 99999) Q E s') E s:=by
   intro t2 f2 g2
   have sz:es1.size < scanBound:=by
    have:=p1.length_eq
    rw [a7i,List.length_map,Array.length_toList] at this
    rw [this]; exact s1
   obtain ⟨o1,ho1,d1⟩:=d.put ho n1 p1 s1 f2 g2
   refine Γa (wpAny_storeSet_of ho d.dat ?_ (fits_of_scanBound sz))
   have b1:=Heap.SameBut.update s.heap a (Obj.putSet es1 t2)
   split
   ·have rp:=relayAll_perm t2 es1 (SetTable.grown es1.size)
    have rf:=relayAll_fits t2 es1 (SetTable.grown es1.size)
    have rt:=g2.relay es1 (SetTable.grown es1.size)
    generalize relayAll t2 es1 (SetTable.grown es1.size)=R at rp rf rt ⊢
    obtain ⟨es2,t3,gv2⟩:=R
    dsimp only at rp rf rt ⊢
    obtain ⟨o2,ho2,d2⟩:=d1.put ho1 (n1.perm rp) ((rp.map _).trans p1) s1 rf rt
    refine Γa (b7z _ (Γa (wpAny_storeSet_of ho1 d1.dat ?_ (fits_of_scanBound (by rw [d2.size]; exact s1)))))
    exact Γb (Γb (q _ true (b1.trans (Heap.SameBut.update _ a _)) ⟨nd',o2,es2,_,t3,ho2,d2⟩))
   ·exact Γb (Γb (q _ true b1 ⟨nd',o1,es1,_,t2,ho1,d1⟩))
  refine Γa (b7z _ ?_)
  split
  ·refine Γa ?_
   rw [hashByValue_scannable 8 rfl]
   refine Γb ?_
   simp only [plainKind,if_true]
   exact fin t1 lf lt
  ·refine Γa (Γb ?_)
   simp only [if_true]
   exact fin t1 lf lt
end
theorem sit_next:Slot "set_iterator" "__next__" "set_iterator.__next__":=.of (owner:="set_iterator") (n:="__next__") (by rw [typeLookup_type,builtinLookup_eq_fast]; kernel_rfl) (by decide +kernel) (by decide +kernel) (by decide +kernel) (by first | exact .inl (by decide +kernel) | exact .inr (by decide +kernel)) (by rw [isSubtype_type]; kernel_rfl)
theorem b2j:Slot "set_iterator" "__iter__" "set_iterator.__iter__":=.of (owner:="set_iterator") (n:="__iter__") (by rw [typeLookup_type,builtinLookup_eq_fast]; kernel_rfl) (by decide +kernel) (by decide +kernel) (by decide +kernel) (by first | exact .inl (by decide +kernel) | exact .inr (by decide +kernel)) (by rw [isSubtype_type]; kernel_rfl)
theorem a6x:entryFor table "set_iterator.__next__" = some Builtin.«set_iterator.__next__»:=entryFor_of_tree (by kernel_rfl)
theorem b4a:entryFor table "set.__iter__" = some Builtin.«frozenset.__iter__»:=entryFor_alias (id':="frozenset.__iter__") (by kernel_rfl) rfl (by nofun) (by kernel_rfl)
theorem b3y:entryFor table "set_iterator.__iter__" = some Builtin.«dict_keyiterator.__iter__»:=entryFor_alias (id':="dict_keyiterator.__iter__") (by kernel_rfl) rfl (by nofun) (by kernel_rfl)
theorem a6y (a:Value):argsOk "set_iterator.__next__" ⟨[a],[]⟩:=by kernel_rfl
theorem b3z (a:Value):argsOk "set_iterator.__iter__" ⟨[a],[]⟩:=by kernel_rfl
theorem a4s {α:Type}:∀ {l:List α} {i:Nat} (h:i < l.length),(l[i] :: l.eraseIdx i).Perm l
 | x :: l,0,_=>by simp
 | x :: l,i + 1,h=>by
  have:=a4s (l:=l) (i:=i) (by simpa using h)
  simp only [List.getElem_cons_succ,List.eraseIdx_cons_succ]
  exact (List.Perm.swap x _ _).trans (this.cons x)
theorem b6s {α:Type} (f:Nat→Nat):∀ (n k:Nat) (l:List α) (out:Array α),n=l.length→(pickOrder.go f n k l out).toList.Perm (out.toList++l)
 | 0,k,l,out,h=>by
  cases l with
  | nil=>unfold pickOrder.go; simp
  | cons=>simp at h
 | n + 1,k,l,out,h=>by
  unfold pickOrder.go
  have hp:0 < l.length:=by lia
  have hm:f k % l.length < l.length:=Nat.mod_lt _ hp
  rw [List.getElem?_eq_getElem hm]
  dsimp only
  refine (b6s f n (k + 1) (l.eraseIdx (f k % l.length)) _ (by rw [List.length_eraseIdx_of_lt hm]; lia)).trans ?_
  rw [Array.toList_push,List.append_assoc]
  refine List.Perm.append_left _ ?_
  exact a4s hm
theorem b6r {α:Type} (f:Nat→Nat) (xs:Array α):(pickOrder f xs).toList.Perm xs.toList:=by
 unfold pickOrder
 simpa using b6s f xs.size 0 xs.toList #[] (by simp)
section
variable {prog:Program} {w:World} {A:Around} {E:Value→Shared→Prop} {s:Shared} {a:Addr}
theorem b9c {n:Nat} {src:Source} {Q:Nat→Shared→Prop} (hn:n≠0) (q:∀ i,i < n→Q i { s with drawn:=s.drawn.bump src }):wpAny (model prog w) A (choose src n) Q E s:=fun Γ p hΓ=>⟨hn,q _ (Nat.mod_lt _ (Nat.pos_of_ne_zero hn))⟩
theorem b8k {α:Type}:∀ (n:Nat) (xs:List α) {s:Shared} {Q:List α→Shared→Prop},n=xs.length→(∀ ys dr,ys.Perm xs→Q ys { s with drawn:=dr })→wpAny (model prog w) A (drawOrder n xs) Q E s
 | 0,xs,s,Q,h,q=>by
  cases xs with
  | nil=>exact Γb (q [] s.drawn (.refl _))
  | cons=>simp at h
 | n + 1,[],s,Q,h,q=>by simp at h
 | n + 1,x :: xs,s,Q,h,q=>by
  unfold drawOrder
  refine Γa (b9c (by simp) fun i hi=>?_)
  rw [List.getElem?_eq_getElem hi]
  dsimp only
  refine Γa (b8k n ((x :: xs).eraseIdx i) (by rw [List.length_eraseIdx_of_lt hi]; lia) fun ys dr hy=>Γb (q _ dr ((hy.cons _).trans (a4s hi))))
end
section
variable {prog:Program} {w:World} {A:Around} {E:Value→Shared→Prop} {s:Shared} {a:Addr}
noncomputable def SetIt (h:Heap) (it a:Addr) (f:Value) (i n ep:Nat):Prop:=∃ o,h.get? it=some o∧o.cls=.type "set_iterator"∧o.data=.fields #[f,.int i 0,.ref a,.int n 0,.int ep 0]
theorem SetIt.ty {it a:Addr} {f:Value} {i n ep:Nat} (x:SetIt s.heap it a f i n ep):s.TypeIs (.ref it) "set_iterator":=let ⟨o,ho,hc,_⟩:=x; ⟨o,ho,hc⟩
theorem SetIt.keep {h h':Heap} {it a:Addr} {f:Value} {i n ep:Nat} (x:SetIt h it a f i n ep) (k:∀ o,h.get? it=some o→h'.get? it=some o):SetIt h' it a f i n ep:=let ⟨o,ho,r⟩:=x; ⟨o,k o ho,r⟩
inductive Goes (w:World) (h:Heap) (a:Addr) (es:Array (Int×Value)) (ep:Nat) (t:SetTable):List Value→Nat→Value→Prop
 | text {i:Nat} {sl:Nat}:w.params.followText "set-order" = true→Goes w h a es ep t ((pickOrder (w.params.setOrder a ep) es).toList.map (·.2)) i (.int sl 0)
 | table {i:Nat}:w.params.followText "set-order" = false→(!t.plain && decide (es.size > 1))=false→Goes w h a es ep t (es.toList.map (·.2)) i (.int ((if i=0 then 0 else t.place.getD (i - 1) 0 + 1:Nat):Int) 0)
 | drawn {i:Nat} {p:Addr} {od:List Nat}:w.params.followText "set-order" = false→h.IsTuple p (od.map fun (n:Nat)=>rawInt n).toArray→od.Perm (List.range es.size)→Goes w h a es ep t (od.map fun n=>(es.getD n (0,.none)).2) i (.ref p)
theorem c1k {ns:List Int} {o:Obj} {es:Array (Int×Value)} {ep:Nat} {t:SetTable} {Q:Value→Shared→Prop} (ho:s.heap.get? a=some o) (d:SetData w o ns es ep t)
  (q:∀ (I:Addr) (h':Heap) (dr:Drawn) (vs:List Value) (f:Value),s.heap.objs.size≤I→(∀ p,f=.ref p→s.heap.objs.size≤p∧p≠I)→(∀ b o,s.heap.get? b=some o→h'.get? b=some o)→SetIt h' I a f 0 es.size ep→Goes w h' a es ep t vs 0 f→Q (.ref I) { s with heap:=h',drawn:=dr }):wpAny (model prog w) A (pyIter (.ref a)) Q E s:=by
 have hT:s.TypeIs (.ref a) "set":=⟨o,ho,d.ex.1⟩
 refine wpAny_pyIter_slot hT F.slot_set_iter (wpAny_call_entry F.slot_set_iter hT b4a ?_ (F.args_set_iter_1 _))
 unfold Builtin.«frozenset.__iter__»
 refine Γa (Γb ?_)
 refine Γa (Γa (wpAny_setEntries_of ho d.dat d.fits (Γb ?_)))
 unfold setDrawn setsByText
 refine Γa (Γa (wpAny_setState_of ho d.dat d.fits (Γa (Γa (wpAny_askSetting (Γb (Γb ?_)))))))
 show wpAny _ _ (if (!w.params.followText "set-order" && (!t.plain && decide (es.size > 1)))=true then _ else _) _ _ _
 have fin:∀ (h1:Heap) (dr:Drawn) (vs:List Value) (f:Value),s.heap.objs.size≤h1.objs.size→(∀ p,f=.ref p→s.heap.objs.size≤p∧p < h1.objs.size)→(∀ b o,s.heap.get? b=some o→h1.get? b=some o)→(∀ h':Heap,(∀ b o,h1.get? b=some o→h'.get? b=some o)→Goes w h' a es ep t vs 0 f)→wpAny (model prog w) A.in1 (do
   let l ← setEpoch a
   let r ← newFields "set_iterator" [f,rawInt 0,.ref a,rawInt es.size,rawInt l]
   ret r) (fun fin s'=>∃ v,fin=Fin.done (Flow.ret v)∧∃ T' r,s'.TypeIs v T'∧typeLookup (Value.type T') (Γe "__next__")=pure (some r)∧Q v s') E { s with heap:=h1,drawn:=dr }:=by
  intro h1 dr vs f sz pz kp g
  refine Γa (wpAny_setEpoch_of (s:={ s with heap:=h1,drawn:=dr }) (kp _ _ ho) d.dat d.fits (Γa (wpAny_newObj_type (Γb ⟨_,rfl,"set_iterator",_,⟨_,Heap.get?_push_size _ rfl,rfl⟩,sit_next.lookup,?_⟩))))
  have k2:∀ b o,h1.get? b=some o→(h1.push { cls:=.type "set_iterator",data:=.fields #[f,rawInt 0,.ref a,rawInt es.size,rawInt ep] }).get? b=some o:=fun b o e=>Γc _ e
  exact q _ _ dr vs f sz (fun p z=>⟨(pz p z).1,Nat.ne_of_lt (pz p z).2⟩) (fun b o e=>k2 b o (kp b o e)) ⟨_,Heap.get?_push_size _ rfl,rfl,rfl⟩ (g _ k2)
 by_cases hb:w.params.followText "set-order" = true
 ·rw [if_neg (by rw [hb]; simp)]
  refine Γa (Γb ?_)
  exact fin s.heap s.drawn _ _ (Nat.le_refl _) (fun p z=>nomatch z) (fun b o e=>e) fun h' _=>Goes.text (sl:=0) hb
 ·have hb:w.params.followText "set-order" = false:=by simpa using hb
  by_cases hd:(!t.plain && decide (es.size > 1))=true
  ·rw [if_pos (by rw [hb,hd]; rfl)]
   refine Γa (b8k _ _ (by simp) fun od dr p=>?_)
   have hl:od.length=es.size:=by rw [p.length_eq,List.length_range]
   have hz:es.size≤sizeLine:=fits_of_scanBound (by rw [d.size]; exact d.small)
   refine Γa (wpAny_newObj_type ?_ (by show (od.map _).toArray.size≤_; simp; lia))
   refine fin _ dr _ _ (by rw [Heap.size_push]; exact Nat.le_succ _) (fun p z=>by cases z; exact ⟨Nat.le_refl _,by rw [Heap.size_push]; exact Nat.lt_succ_self _⟩) (fun b o e=>Γc _ e) fun h' k=>Goes.drawn hb ?_ p
   exact ⟨_,k _ _ (Heap.get?_push_size _ rfl),rfl,_,rfl⟩
  ·have hd:(!t.plain && decide (es.size > 1))=false:=by simpa using hd
   rw [if_neg (by rw [hb,hd]; simp)]
   refine Γa (Γb ?_)
   exact fin s.heap s.drawn _ _ (Nat.le_refl _) (fun p z=>nomatch z) (fun b o e=>e) fun h' _=>Goes.table (i:=0) hb hd
theorem b2c {ns:List Int} {o:Obj} {es:Array (Int×Value)} {ep:Nat} {t:SetTable} (d:SetData w o ns es ep t) (hd:(!t.plain && decide (es.size > 1))=false) (i:Nat) (hi:i≤es.size):SetTable.below t.place (if i=0 then 0 else t.place.getD (i - 1) 0 + 1)=i∧t.place.size=es.size:=by
 have hs:t.place.size=es.size:=by
  have:=d.fits
  unfold SetTable.fits at this
  simp at this
  exact this.1
 have rs:b1v t.place:=by
  by_cases hp:t.plain=true
  ·exact d.tab.2.2 hp
  ·have:es.size≤1:=by simp [hp] at hd; exact hd
   intro x y hx hy l
   lia
 refine ⟨?_,hs⟩
 obtain ⟨h1,h2,h3⟩:=a6b rs (if i=0 then 0 else t.place.getD (i - 1) 0 + 1)
 by_cases h0:i=0
 ·subst h0
  rw [if_pos rfl] at h1 h2 h3 ⊢
  by_cases z:SetTable.below t.place 0=0
  ·exact z
  ·have:=h2 0 (by lia) (by lia)
   lia
 ·rw [if_neg h0] at h1 h2 h3 ⊢
  have hg:t.place.getD (i - 1) 0=t.place[i - 1]'(by lia):=by rw [Array.getD_eq_getD_getElem?,Array.getElem?_eq_getElem (by lia)]; rfl
  rw [hg] at h1 h2 h3 ⊢
  generalize SetTable.below t.place (t.place[i - 1]'(by lia) + 1)=r at h1 h2 h3 ⊢
  rcases Nat.lt_trichotomy r i with l | l | l
  ·have:=h3 (i - 1) (by lia) (by lia)
   lia
  ·exact l
  ·have a1:=h2 i (by lia) l
   have a2:=rs (i - 1) i (by lia) (by lia) (by lia)
   lia
theorem c1b {ns:List Int} {o:Obj} {es:Array (Int×Value)} {ep:Nat} {t:SetTable} {it:Addr} {vs:List Value} {i:Nat} {f:Value} {Q:Option Value→Shared→Prop} (ne:a≠it) (hit:SetIt s.heap it a f i es.size ep) (ho:s.heap.get? a=some o) (d:SetData w o ns es ep t) (g:Goes w s.heap a es ep t vs i f) (hi:i < vs.length)
  (q:∀ (h':Heap) (f':Value),(∀ p,f'=.ref p→f=.ref p)→Heap.SameBut it s.heap h'→SetIt h' it a f' (i + 1) es.size ep→(∀ h2:Heap,(∀ b o,b≠it→s.heap.get? b=some o→h2.get? b=some o)→Goes w h2 a es ep t vs (i + 1) f')→Q (some vs[i]) { s with heap:=h' }):wpAny (model prog w) A (pyNext (.ref it)) Q E s:=by
 have hT:=hit.ty
 obtain ⟨oi,e0,c0,d0⟩:=id hit
 unfold pyNext
 refine Γa (wpAny_attempt (wpAny_callSpecial?_slot (name:=Γe "__next__") hT sit_next (wpAny_call_entry sit_next hT a6x ?_ (a6y _))))
 unfold Builtin.«set_iterator.__next__»
 refine Γa (Γb (Γa (wpAny_fieldsOf e0 d0 ?_)))
 show wpAny _ _ (setEntries a >>= _) _ _ s
 refine Γa (wpAny_setEntries_of ho d.dat d.fits ?_)
 rw [if_neg (by simp)]
 have step:∀ (sl nx:Nat) (x:Value),f=.int sl 0→x=vs[i]→(∀ h2:Heap,(∀ b o,b≠it→s.heap.get? b=some o→h2.get? b=some o)→Goes w h2 a es ep t vs (i + 1) (.int nx 0))→(∀ (Q':Option (Value×Nat)→Shared→Prop) (E':Value→Shared→Prop),Q' (some (x,nx)) s→wpAny (model prog w) A.in1 (setNext a sl i ep) Q' E' s)→wpAny (model prog w) A.in1 (do
   let r ← setNext a (sl:Int).toNat (i:Int).toNat (ep:Int).toNat
   match r with
    | some (x,next)=>do
     setField (Value.ref it) 0 (rawInt next)
     setField (Value.ref it) 1 (rawInt (i + 1))
     ret x
    | none=>do
     setField (Value.ref it) 2 Value.none
     let e ← newExc (Value.type "StopIteration") []
     raiseNew e) (fun fin s'=>∃ v,fin=Fin.done (Flow.ret v)∧wpAny (model prog w) A (pure (some v)) Q E s') (fun e s'=>wpAny (model prog w) A (do
      let b ← isInstance e (Value.type "StopIteration")
      if b=true then pure none else throw e) Q E s') s:=by
  intro sl nx x ef ex g' hn
  subst ef
  simp only [Int.toNat_natCast]
  refine Γa (hn _ _ ?_)
  dsimp only
  refine Γa (wpAny_setField e0 d0 (by simp) ?_)
  have e1:=Heap.get?_update_self (Obj.mapFields (·.setIfInBounds 0 (rawInt nx))) e0 (Obj.isFreed_of_fields (Obj.data_mapFields d0 _))
  have d1:=Obj.data_mapFields d0 (·.setIfInBounds 0 (rawInt nx))
  refine Γa (wpAny_setField (s:={ s with heap:=_ }) e1 d1 (by simp) ?_)
  have e2:=Heap.get?_update_self (Obj.mapFields (·.setIfInBounds 1 (rawInt ((i:Int) + 1)))) e1 (Obj.isFreed_of_fields (Obj.data_mapFields d1 _))
  have d2:=Obj.data_mapFields d1 (·.setIfInBounds 1 (rawInt ((i:Int) + 1)))
  refine Γb ⟨_,rfl,Γb ?_⟩
  rw [ex]
  refine q _ (.int nx 0) (fun p z=>nomatch z) ((Heap.SameBut.update ..).trans (Heap.SameBut.update ..)) ⟨_,e2,?_,?_⟩ g'
  ·rw [Obj.cls_mapFields,Obj.cls_mapFields]; exact c0
  ·rw [d2]; simp [rawInt]
 cases g with
 | @text _ sl hb =>
  refine step sl sl _ rfl rfl (fun h2 _=>.text hb) fun Q' E' q'=>?_
  unfold setNext setsByText
  refine Γa (wpAny_setState_of ho d.dat d.fits (Γa (Γa (wpAny_askSetting (Γb ?_)))))
  dsimp only
  refine wpAny_ite_split (fun _=>?_) fun z=>absurd hb z
  rw [if_neg (by simp)]
  unfold setWalk setsByText
  refine Γa (Γa (wpAny_setState_of ho d.dat d.fits (Γa (Γa (wpAny_askSetting (Γb ?_))))))
  dsimp only
  refine wpAny_ite_split (fun _=>?_) fun z=>absurd hb z
  refine Γa (wpAny_askSetting (Γb (Γb ?_)))
  have hl:i < (pickOrder (w.params.setOrder a ep) es).size:=by simpa using hi
  show Q' (Option.map (fun e=>(e.snd,sl)) (pickOrder (w.params.setOrder a ep) es)[i]?) s
  rw [Array.getElem?_eq_getElem hl]
  simpa using q'
 | table hb hd =>
  have hl:i < es.size:=by simpa using hi
  obtain ⟨t1,t2⟩:=b2c d hd i (by lia)
  refine step _ (t.place.getD i 0 + 1) _ rfl rfl (fun h2 _=>?_) fun Q' E' q'=>?_
  ·have:=Goes.table (w:=w) (h:=h2) (a:=a) (es:=es) (ep:=ep) (t:=t) (i:=i + 1) hb hd
   simpa using this
  ·unfold setNext setsByText
   refine Γa (wpAny_setState_of ho d.dat d.fits (Γa (Γa (wpAny_askSetting (Γb ?_)))))
   dsimp only
   rw [if_neg (by show ¬ w.params.followText "set-order" = true; rw [hb]; simp)]
   refine wpAny_ite_split (fun z=>absurd (hd.symm.trans z) (by simp)) fun _=>?_
   refine Γa (wpAny_ite_split (fun z=>?_) fun _=>Γb ?_)
   ·have:t.led=true:=by rw [d.tab.1,hb]; rfl
    rw [this] at z; simp at z
   ·rw [t1]
    rw [Array.getElem?_eq_getElem hl,Array.getElem?_eq_getElem (show i < t.place.size by lia)]
    refine Γb ?_
    have hp:t.place.getD i 0=t.place[i]'(by lia):=by rw [Array.getD_eq_getD_getElem?,Array.getElem?_eq_getElem (by lia)]; rfl
    rw [hp] at q'
    simpa using q'
 | @drawn _ p od hb ht pm =>
  have hl:i < od.length:=by simpa using hi
  obtain ⟨ot,o1,o2,nt,o3⟩:=id ht
  refine Γa (wpAny_seqItems o1 o3 ?_)
  dsimp only
  rw [Int.toNat_natCast,Int.toNat_natCast]
  rw [List.getElem?_toArray,List.getElem?_map,List.getElem?_eq_getElem hl]
  dsimp only [Option.map_some,rawInt]
  have hm:od[i] < es.size:=List.mem_range.mp (pm.mem_iff.mp (List.getElem_mem hl))
  unfold setNextDrawn
  refine Γa (Γa (wpAny_setState_of ho d.dat d.fits ?_))
  dsimp only
  rw [if_neg (by simp),Int.toNat_natCast,Array.getElem?_eq_getElem hm]
  refine Γb ?_
  refine Γa (wpAny_setField e0 d0 (by simp) ?_)
  have e1:=Heap.get?_update_self (Obj.mapFields (·.setIfInBounds 1 (rawInt ((i:Int) + 1)))) e0 (Obj.isFreed_of_fields (Obj.data_mapFields d0 _))
  have d1:=Obj.data_mapFields d0 (·.setIfInBounds 1 (rawInt ((i:Int) + 1)))
  refine Γb ⟨_,rfl,Γb ?_⟩
  have hx:(es[od[i]]'hm).2=(od.map fun n=>(es.getD n (0,.none)).2)[i]'hi:=by
   rw [List.getElem_map,Array.getD_eq_getD_getElem?,Array.getElem?_eq_getElem hm]; rfl
  show Q (some (es[od[i]]'hm).2) _
  rw [hx]
  refine q _ (.ref p) (fun p' z=>z) (Heap.SameBut.update ..) ⟨_,e1,?_,?_⟩ fun h2 k=>.drawn hb ?_ pm
  ·rw [Obj.cls_mapFields]; exact c0
  ·rw [d1]; simp [rawInt]
  ·refine ⟨ot,k p ot (fun z=>?_) o1,o2,nt,o3⟩
   subst z
   rw [e0] at o1; cases o1
   rw [d0] at o3; cases o3
theorem c6x {ns : List Int} {o : Obj} {es : Array (Int × Value)} {ep : Nat} {t : SetTable} {it : Addr} {vs : List Value} {i : Nat} {f : Value} {Q : Option Value → Shared → Prop} (hh : A.handled = none) (hit : SetIt s.heap it a f i es.size ep) (ho : s.heap.get? a = some o) (d : SetData w o ns es ep t) (g : Goes w s.heap a es ep t vs i f) (hi : vs.length = i)
    (q : ∀ h' : Heap, Heap.ExtBut it s.heap h' → Q none { s with heap := h' }) : wpAny (model prog w) A (pyNext (.ref it)) Q E s := by
  have hT := hit.ty
  obtain ⟨oi, e0, c0, d0⟩ := id hit
  unfold pyNext
  refine Γa (wpAny_attempt (wpAny_callSpecial?_slot (name := Γe "__next__") hT sit_next (wpAny_call_entry sit_next hT a6x ?_ (a6y _))))
  unfold Builtin.«set_iterator.__next__»
  refine Γa (Γb (Γa (wpAny_fieldsOf e0 d0 ?_)))
  show wpAny _ _ (setEntries a >>= _) _ _ s
  refine Γa (wpAny_setEntries_of ho d.dat d.fits ?_)
  rw [if_neg (by simp)]
  have stop : ∀ h1 : Heap, Heap.ExtBut it s.heap h1 → wpAny (model prog w) A.in1 (do
          let e ← newExc (Value.type "StopIteration") []
          raiseNew e) (fun fin s' => ∃ v, fin = Fin.done (Flow.ret v) ∧ wpAny (model prog w) A (pure (some v)) Q E s') (fun e s' => wpAny (model prog w) A (do
            let b ← isInstance e (Value.type "StopIteration")
            if b = true then pure none else throw e) Q E s') { s with heap := h1 } := by
    intro h1 x1
    refine Γa ?_
    simp only [newExc, newTuple]
    refine Γa (wpAny_newObj_type ?_ (by size_fits)); refine Γa (m := firstArgMember _ _) (wpAny_of_eq (a := Value.none) (by first | rfl | (simp only [firstArgMember]; rfl)) ?_); refine wpAny_newObj_type ?_ (by size_fits); simp only [raiseNew]
    refine Γa (wpAny_handled ?_); rw [show A.in1.handled = none from hh]; refine Γa (Γb (wpAny_throw ?_))
    refine Γa (wpAny_isInstance (T := "StopIteration") (b := true) ⟨_, Heap.get?_push_size _ rfl, rfl⟩ isSubtype_stop ?_); exact Γb (q _ ((x1.push _).push _))
  have step : ∀ sl : Nat, f = .int sl 0 → (∀ (Q' : Option (Value × Nat) → Shared → Prop) (E' : Value → Shared → Prop), Q' none s → wpAny (model prog w) A.in1 (setNext a sl i ep) Q' E' s) → wpAny (model prog w) A.in1 (do
      let r ← setNext a (sl : Int).toNat (i : Int).toNat (ep : Int).toNat
      match r with
        | some (x, next) => do
          setField (Value.ref it) 0 (rawInt next)
          setField (Value.ref it) 1 (rawInt (i + 1))
          ret x
        | none => do
          setField (Value.ref it) 2 Value.none
          let e ← newExc (Value.type "StopIteration") []
          raiseNew e) (fun fin s' => ∃ v, fin = Fin.done (Flow.ret v) ∧ wpAny (model prog w) A (pure (some v)) Q E s') (fun e s' => wpAny (model prog w) A (do
            let b ← isInstance e (Value.type "StopIteration")
            if b = true then pure none else throw e) Q E s') s := by
    intro sl ef hn
    subst ef
    simp only [Int.toNat_natCast]
    refine Γa (hn _ _ ?_)
    dsimp only
    refine Γa (wpAny_setField e0 d0 (by simp) ?_)
    exact stop _ (Heap.SameBut.update ..).extBut
  cases g with
  | @text _ sl hb =>
    refine step sl rfl fun Q' E' q' => ?_
    unfold setNext setsByText
    refine Γa (wpAny_setState_of ho d.dat d.fits (Γa (Γa (wpAny_askSetting (Γb ?_)))))
    dsimp only
    refine wpAny_ite_split (fun _ => ?_) fun z => absurd hb z
    rw [if_neg (by simp)]
    unfold setWalk setsByText
    refine Γa (Γa (wpAny_setState_of ho d.dat d.fits (Γa (Γa (wpAny_askSetting (Γb ?_))))))
    dsimp only
    refine wpAny_ite_split (fun _ => ?_) fun z => absurd hb z
    refine Γa (wpAny_askSetting (Γb (Γb ?_)))
    have hl : (pickOrder (w.params.setOrder a ep) es).size ≤ i := by simp at hi; lia
    show Q' (Option.map (fun e => (e.snd, sl)) (pickOrder (w.params.setOrder a ep) es)[i]?) s
    rw [Array.getElem?_eq_none hl]
    exact q'
  | table hb hd =>
    have hl : es.size = i := by simpa using hi
    obtain ⟨t1, t2⟩ := b2c d hd i (by lia)
    refine step _ rfl fun Q' E' q' => ?_
    unfold setNext setsByText
    refine Γa (wpAny_setState_of ho d.dat d.fits (Γa (Γa (wpAny_askSetting (Γb ?_)))))
    dsimp only
    rw [if_neg (by show ¬ w.params.followText "set-order" = true; rw [hb]; simp)]
    refine wpAny_ite_split (fun z => absurd (hd.symm.trans z) (by simp)) fun _ => ?_
    refine Γa (wpAny_ite_split (fun z => ?_) fun _ => Γb ?_)
    · have : t.led = true := by rw [d.tab.1, hb]; rfl
      rw [this] at z; simp at z
    · rw [t1]
      rw [Array.getElem?_eq_none (by lia)]
      exact Γb q'
  | @drawn _ p od hb ht pm =>
    have hl : od.length = i := by simpa using hi
    obtain ⟨ot, o1, o2, nt, o3⟩ := id ht
    refine Γa (wpAny_seqItems o1 o3 ?_)
    dsimp only
    rw [Int.toNat_natCast, Int.toNat_natCast]
    rw [List.getElem?_toArray, List.getElem?_eq_none (by simp; lia)]
    refine Γa (wpAny_setField e0 d0 (by simp) ?_)
    have e1 := Heap.get?_update_self (Obj.mapFields (·.setIfInBounds 0 (rawInt 0))) e0 (Obj.isFreed_of_fields (Obj.data_mapFields d0 _))
    have d1 := Obj.data_mapFields d0 (·.setIfInBounds 0 (rawInt 0))
    refine Γa (wpAny_setField (s := { s with heap := _ }) e1 d1 (by simp) ?_)
    exact stop _ ((Heap.SameBut.update ..).trans (Heap.SameBut.update ..)).extBut
theorem Goes.keep {h h':Heap} {es:Array (Int×Value)} {ep:Nat} {t:SetTable} {vs:List Value} {i:Nat} {f:Value} (g:Goes w h a es ep t vs i f) (k:∀ p,f=.ref p→∀ o,h.get? p=some o→h'.get? p=some o):Goes w h' a es ep t vs i f:=by
 cases g with
 | text hb=>exact .text hb
 | table hb hd=>exact .table hb hd
 | @drawn _ p od hb ht pm =>
  obtain ⟨ot,o1,r⟩:=ht
  exact .drawn hb ⟨ot,k p rfl ot o1,r⟩ pm
theorem Goes.perm {ns:List Int} {o:Obj} {h:Heap} {es:Array (Int×Value)} {ep:Nat} {t:SetTable} {vs:List Value} {i:Nat} {f:Value} (d:SetData w o ns es ep t) (g:Goes w h a es ep t vs i f):vs.Perm (es.toList.map (·.2)):=by
 cases g with
 | text hb=>exact (b6r _ _).map _
 | table hb hd=>exact .refl _
 | @drawn _ p od hb ht pm =>
  refine (pm.map _).trans (.of_eq ?_)
  apply List.ext_getElem
  ·simp
  ·intro i i1 i2
   simp at i1
   simp [Array.getD_eq_getD_getElem?,i1]
end
section
variable {prog:Program} {w:World} {A:Around} {E:Value→Shared→Prop} {s:Shared} {a:Addr} {ns:List Int} {o:Obj} {es:Array (Int×Value)} {ep:Nat} {t:SetTable}
noncomputable def c2n (w:World) (I a:Addr) (o:Obj) (es:Array (Int×Value)) (ep:Nat) (t:SetTable) (vs:List Value) (pl:List Addr) (i:Nat) (h:Heap):Prop:=(∃ f,(∀ p,f=.ref p→p∈pl)∧SetIt h I a f i es.size ep∧Goes w h a es ep t vs i f)∧h.get? a=some o
theorem b9u {I:Addr} {vs:List Value} {pl:List Addr} (hh:A.handled=none) (d:SetData w o ns es ep t) (ne:a≠I) (np:I ∉ pl):Walks prog w A I (I :: a :: pl) [I] vs.length (fun i v=>vs[i]?=some v) (c2n w I a o es ep t vs pl) where
 sub:=fun b hb=>by simp at hb; simp [hb]
 frame:=fun i h h' st hk=>by
  obtain ⟨⟨f,f1,f2,f3⟩,ho⟩:=st
  exact ⟨⟨f,f1,f2.keep fun o e=>hk I (by simp) o e,f3.keep fun p z o e=>hk p (by simp [f1 p z]) o e⟩,hk a (by simp) o ho⟩
 item:=fun i s Q E hi st hQ=>by
  obtain ⟨⟨f,f1,f2,f3⟩,ho⟩:=st
  refine c1b ne f2 ho d f3 hi fun h' f' p1 sb it' g'=>?_
  have kp:∀ b o,b≠I→s.heap.get? b=some o→h'.get? b=some o:=fun b o n e=>(sb.2 b n).trans e
  exact hQ _ h' s.toks (by simp [hi]) ⟨⟨f',fun p z=>f1 p (p1 p z),it',g' h' kp⟩,kp a o ne ho⟩ fun b o hb e=>kp b o (fun z=>hb (by simp [z])) e
 done:=fun s Q E st hQ=>by
  obtain ⟨⟨f,f1,f2,f3⟩,ho⟩:=st
  exact c6x hh f2 ho d f3 rfl fun h' eb=>hQ h' s.toks fun b o hb e=>eb b o (fun z=>hb (by simp [z])) e
 self:=fun i s Q E st hQ=>by
  obtain ⟨⟨f,f1,f2,f3⟩,ho⟩:=st
  refine wpAny_pyIter_slot f2.ty b2j (wpAny_call_entry b2j f2.ty b3y ?_ (b3z _))
  show wpAny _ _ (ret (.ref I)) _ _ s
  exact Γb ⟨_,rfl,"set_iterator",_,f2.ty,sit_next.lookup,hQ⟩
theorem c1n {Q:Bool→Shared→Prop} (hT:s.TypeIs (.ref a) "set") (q:Q false s):wpAny (model prog w) A (Builtin.List.listLengthHint (.ref a)) Q E s:=by
 unfold Builtin.List.listLengthHint
 refine Γa (wpAny_specialOf hT F.slot_set_len.lookup ?_)
 generalize hid:("set.__len__":String)=id0
 wp_delta
 rw [show splitId id0=some ("set","__len__") from by subst hid; nofun]
 subst hid
 refine Γa (wpAny_isInstance (T:="set") (b:=true) hT (by rw [isSubtype_type]; kernel_rfl) ?_)
 exact wpAny_ite_split (fun z=>absurd z (by decide)) fun _=>wpAny_ite_split (fun _=>Γa (wpAny_typeOf hT (Γb q))) fun z=>absurd (by nofun) z
theorem b1q {R:List Value→Shared→Prop} (hh:A.handled=none) (ho:s.heap.get? a=some o) (d:SetData w o ns es ep t)
  (q:∀ (h':Heap) (tk:Nat) (dr:Drawn) (vs:List Value),(∀ b o,s.heap.get? b=some o→h'.get? b=some o)→vs.Perm (es.toList.map (·.2))→R vs { s with heap:=h',toks:=tk,drawn:=dr }):wpAny (model prog w) A (collect (.ref a)) R E s:=by
 have hlt:a < s.heap.objs.size:=Heap.lt_size ho
 have hz:es.size≤sizeLine:=fits_of_scanBound (by rw [d.size]; exact d.small)
 unfold collect
 refine Γa (wpAny_runValue (codeAny_builtin entry_proto_collect' ?_))
 rw [Around.under_plainId F.plain_proto_collect _]
 refine Γa (m:=newList []) (wpAny_newObj_type (Γb ⟨plainId_quiet F.plain_list_iadd _,codeAny_builtin entry_list_iadd' ?_⟩))
 rw [Around.under_plainId F.plain_list_iadd _]
 have L0:(s.heap.push { cls:=.type "list",data:=.seq ([]:List Value).toArray }).get? s.heap.objs.size=some { cls:=.type "list",data:=.seq #[] }:=Heap.get?_push_size _ rfl
 have k0:∀ b o,s.heap.get? b=some o→(s.heap.push { cls:=.type "list",data:=.seq ([]:List Value).toArray }).get? b=some o:=fun b o e=>Γc _ e
 show wpAny _ A.in1 (Builtin.List.listExtendWith (.ref s.heap.objs.size) (.ref a) (.ref s.heap.objs.size)) _ _ _
 generalize hl0:s.heap.push { cls:=.type "list",data:=.seq ([]:List Value).toArray } = g0 at L0 k0 ⊢
 have s0:g0.objs.size=s.heap.objs.size + 1:=by rw [← hl0,Heap.size_push]
 unfold Builtin.List.listExtendWith
 have hT:Shared.TypeIs { s with heap:=g0 } (.ref a) "set":=⟨o,k0 _ _ ho,d.ex.1⟩
 refine Γa (wpAny_typeOf (T:="set") hT ?_)
 have h1:Builtin.List.listSameRef (.ref s.heap.objs.size) (.ref a)=false:=by simp [Builtin.List.listSameRef]; exact Nat.ne_of_gt hlt
 have h2:(Value.type "set" == Value.type "list")=false:=by decide
 have h3:(Value.type "set" == Value.type "tuple")=false:=by decide
 simp only [h1,h2,h3,Bool.or_false,Bool.false_eq_true,if_false]
 refine Γa (c1k (k0 _ _ ho) d fun I h' dr vs f hI pz kp it g=>?_)
 have hI':s.heap.objs.size < I:=by
  have:g0.objs.size≤I:=hI
  rw [s0] at this; exact this
 have pm:=g.perm d
 have hvs:vs.length=es.size:=by rw [pm.length_eq]; simp
 obtain ⟨pl,p1,p2,p3⟩:∃ pl:List Addr,(∀ p,f=.ref p→p∈pl)∧I ∉ pl∧s.heap.objs.size ∉ pl:=by
  by_cases z:∃ p,f=.ref p
  ·obtain ⟨p,z⟩:=z
   obtain ⟨y1,y2⟩:=pz p z
   have y1:g0.objs.size≤p:=y1
   rw [s0] at y1
   refine ⟨[p],fun p' z'=>?_,?_,?_⟩
   ·rw [z] at z'; cases z'; simp
   ·simp; exact fun e=>y2 e.symm
   ·simp; exact Nat.ne_of_lt y1
  ·exact ⟨[],fun p e=>absurd ⟨p,e⟩ z,by simp,by simp⟩
 have loop:∀ (h4:Heap) (c tk:Nat),c2n w I a o es ep t vs pl 0 h4→(∀ b o,s.heap.get? b=some o→h4.get? b=some o)→h4.get? s.heap.objs.size=some { cls:=.type "list",data:=.seq #[] c }→codeAny (model prog w) A (.builtin "list.extend.loop" ⟨[.ref s.heap.objs.size,.ref I,.ref s.heap.objs.size],[]⟩) (wants (fun r s'=>∃ (h':Heap) (tk:Nat) (acc:Array Value) (c':Nat),r=.ref s.heap.objs.size∧s' = { s with heap:=h',toks:=tk,drawn:=dr }∧(∀ b o,s.heap.get? b=some o→h'.get? b=some o)∧h'.get? s.heap.objs.size=some { cls:=.type "list",dict:=none,data:=.seq acc c',slots:=#[] }∧acc.toList=vs) E) { s with heap:=h4,toks:=tk,drawn:=dr }:=by
  intro h4 c tk st k4 l4
  refine codeAny_extend_loopS (b9u (A:=A.in1) (prog:=prog) hh d (Nat.ne_of_lt (Nat.lt_trans hlt hI')) p2).toS (by rw [hvs]; exact hz) s.heap.objs.size (by simp; exact ⟨Nat.ne_of_lt hI',Nat.ne_of_gt hlt,p3⟩) (.ref s.heap.objs.size) vs.length 0 _ #[] c rfl (Nat.zero_le _) st l4 (ItemsOf.nil _) fun s' acc c' hm l5 it=>?_
  rw [Moved.eq_with hm]
  refine ⟨s'.heap,s'.toks,acc,c',rfl,rfl,fun b o e=>hm.heap b o (fun z=>?_) (k4 b o e),l5,?_⟩
  ·have hb:=Heap.lt_size e
   rcases List.mem_cons.mp z with z | z
   ·rw [z] at hb; exact Nat.lt_irrefl _ hb
   ·rw [List.mem_singleton.mp z] at hb; exact Nat.lt_irrefl _ (Nat.lt_trans hb hI')
  ·obtain ⟨i1,i2⟩:=it
   apply List.ext_getElem
   ·simpa using i1
   ·intro i j1 j2
    have:=i2 i acc[i] (by simp at j1; simp [j1])
    have:vs[i]?=some acc[i]:=this
    rw [List.getElem?_eq_getElem j2] at this
    rw [Option.some.inj this]; simp
 have st0:c2n w I a o es ep t vs pl 0 h':=⟨⟨f,p1,it,g⟩,kp _ _ (k0 _ _ ho)⟩
 have fin:∀ (r:Value) (s':Shared),(∃ (h':Heap) (tk:Nat) (acc:Array Value) (c':Nat),r=.ref s.heap.objs.size∧s' = { s with heap:=h',toks:=tk,drawn:=dr }∧(∀ b o,s.heap.get? b=some o→h'.get? b=some o)∧h'.get? s.heap.objs.size=some { cls:=.type "list",dict:=none,data:=.seq acc c',slots:=#[] }∧acc.toList=vs)→wpAny (model prog w) A (do
   let .ref l:=r | unsupported "internal:collect"
   match (← load l).data with
   | .seq xs _=>pure xs.toList
   | _=>unsupported "internal:collect") R E s':=by
  rintro r s' ⟨h5,tk,acc,c',rfl,rfl,k5,l5,e5⟩
  refine Γa (wpAny_load l5 (Γb ?_))
  rw [e5]
  exact q h5 tk dr vs k5 pm
 have L1:h'.get? s.heap.objs.size=some { cls:=.type "list",data:=.seq #[] }:=kp _ _ L0
 have last:∀ (h4:Heap) (c tk:Nat),c2n w I a o es ep t vs pl 0 h4→(∀ b o,s.heap.get? b=some o→h4.get? b=some o)→h4.get? s.heap.objs.size=some { cls:=.type "list",data:=.seq #[] c }→wpAny (model prog w) A.in1 (again (.builtin "list.extend.loop" ⟨[.ref s.heap.objs.size,.ref I,.ref s.heap.objs.size],[]⟩)) (fun fin s'=>match fin with
   | .done f=>match (Except.ok f:Result) with
    | .ok (.ret v)=>wpAny (model prog w) A (do
     let .ref l:=v | unsupported "internal:collect"
     match (← load l).data with
     | .seq xs _=>pure xs.toList
     | _=>unsupported "internal:collect") R E s'
    | .ok _=>False
    | .error e=>E e s'
   | .again c'=>c'.quiet=true∧codeAny (model prog w) A c' (fun r s'=>match r with
    | .ok (.ret v)=>wpAny (model prog w) A (do
     let .ref l:=v | unsupported "internal:collect"
     match (← load l).data with
     | .seq xs _=>pure xs.toList
     | _=>unsupported "internal:collect") R E s'
    | .ok _=>False
    | .error e=>E e s') s') (fun e s'=>E e s') { s with heap:=h4,toks:=tk,drawn:=dr }:=by
  intro h4 c tk x1 x2 x3
  refine Γb ⟨plainId_quiet F.plain_extend_loop _,codeAny_mono (loop h4 c tk x1 x2 x3) fun r s' y=>?_⟩
  cases r with
  | error e=>exact y
  | ok fl=>cases fl with
   | ret v=>exact fin v s' y
   | _=>exact y.elim
 have k1:∀ b o,s.heap.get? b=some o→h'.get? b=some o:=fun b o e=>kp b o (k0 b o e)
 refine Γa (Γg (c1n (s:={ s with heap:=h',drawn:=dr }) ⟨o,k1 _ _ ho,d.ex.1⟩ ?_))
 refine wpAny_ite_split (fun _=>?_) fun _=>last h' 0 s.toks st0 k1 L1
 refine Γa (wpAny_rule (Γa ?_))
 show wpAny _ _ (updateSeq s.heap.objs.size (·.push .none) >>= fun _=>updateSeq s.heap.objs.size (·.pop)) _ _ _
 refine Γa (wpAny_updateSeq (s:={ s with heap:=h',drawn:=dr }) L1 rfl ?_)
 have L2:=Heap.get?_update_self (Obj.mapSeq (·.push Value.none)) L1 rfl
 refine wpAny_updateSeq (s:={ s with heap:=_,drawn:=dr }) (hz:=by seq_fits) L2 rfl ?_
 have L3:=Heap.get?_update_self (Obj.mapSeq (·.pop)) L2 rfl
 have k3:∀ b o,b≠s.heap.objs.size→h'.get? b=some o→((h'.update s.heap.objs.size (Obj.mapSeq (·.push Value.none))).update s.heap.objs.size (Obj.mapSeq (·.pop))).get? b=some o:=fun b o n e=>(Γf _ _ (Ne.symm n)).trans ((Γf _ _ (Ne.symm n)).trans e)
 refine last _ _ s.toks ?_ (fun b o e=>k3 b o (Nat.ne_of_lt (Heap.lt_size e)) (k1 b o e)) L3
 exact ⟨⟨f,p1,it.keep fun o e=>k3 _ o (Nat.ne_of_gt hI') e,g.keep fun p z o e=>k3 p o (fun y=>p3 (y ▸ p1 p z)) e⟩,k3 _ _ (Nat.ne_of_lt hlt) (k1 _ _ ho)⟩
end
theorem SetN.none {w:World} {h:Heap} {a:Addr} (e:h.get? a=some { cls:=.type "set",dict:=none,data:=.set #[] 0 (.fresh 0 0 (!w.params.followText "set-order")) }):SetN w h a [] :=
 ⟨List.nodup_nil,_,#[],0,_,e,⟨⟨rfl,rfl,rfl⟩,rfl,fun e he=>by simp at he,.refl _,by decide,rfl,TabOk.fresh _ _ _⟩⟩
theorem SetN.keep {w:World} {h h':Heap} {a:Addr} {ns:List Int} (x:SetN w h a ns) (k:∀ o,h.get? a=some o→h'.get? a=some o):SetN w h' a ns:=by
 obtain ⟨nd,o,es,ep,t,ho,d⟩:=x
 exact ⟨nd,o,es,ep,t,k o ho,d⟩
noncomputable def a1o (ns:List Int) (k:Int):List Int:=if k∈ns then ns else ns++[k]
theorem b5a (ns:List Int) (k x:Int):x∈a1o ns k↔x∈ns ∨ x=k:=by
 unfold a1o
 by_cases h:k∈ns
 ·rw [if_pos h]
  exact ⟨.inl,fun z=>z.elim id fun z=>z ▸ h⟩
 ·rw [if_neg h]; simp
theorem b5b (ns:List Int) (k:Int):(a1o ns k).length≤ns.length + 1:=by
 unfold a1o
 split
 ·lia
 ·simp
theorem b3g (x:Int):∀ (ks ns:List Int),x∈ks.foldl a1o ns↔x∈ns ∨ x∈ks
 | [],ns=>by simp
 | k :: ks,ns=>by rw [List.foldl_cons,b3g x ks,b5a,List.mem_cons,or_assoc]
theorem a8n:∀ (ks ns:List Int),(ks.foldl a1o ns).length≤ns.length + ks.length
 | [],ns=>by simp
 | k :: ks,ns=>by
  have h1:=a8n ks (a1o ns k)
  have h2:=b5b ns k
  rw [List.foldl_cons,List.length_cons]; lia
section
variable {prog:Program} {w:World} {A:Around} {R:Result→Shared→Prop} {E:Value→Shared→Prop} {s:Shared} {I:Addr} {fp wr:List Addr} {G:Array GenState→Array GenState→Prop} {n:Nat} {P:Nat→Value→Prop} {St:Nat→Shared→Prop}
theorem b1y (W:WalksS prog w A.in1 I fp wr G n P St) (S:Addr) (hS:S ∉ fp) {ks:List Int} (hn:ks.length=n) (hv:∀ i v,P i v→∃ t,v=.int (ks.getD i 0) t) (hb:n + 1 < scanBound):∀ (m i:Nat) (s:Shared),n - i=m→i≤n→St i s→SetN w s.heap S ((ks.take i).foldl a1o []) →
  (∀ s',Moved (S :: wr) G s s'→SetN w s'.heap S (ks.foldl a1o [])→R (.ok (.ret .none)) s')→codeAny (model prog w) A (.builtin "set.update.loop" ⟨[.ref S,.ref I],[]⟩) R s
 | 0,i,s,hm,hi,st,x,k=>by
  have e:i=n:=by lia
  subst e
  refine codeAny_builtin F.entry_set_update_loop ?_
  rw [Around.under_plainId F.plain_set_update_loop _]
  refine Γa (m:=pyNext (.ref I)) (W.done s _ _ st fun s' mv=>Γb (k s' (mv.mono fun b hb=>List.mem_cons_of_mem _ hb) ?_))
  rw [List.take_of_length_le (by lia)] at x
  exact x.keep fun o e=>mv.heap S o (fun z=>hS (W.sub _ z)) e
 | m + 1,i,s,hm,hi,st,x,k=>by
  have lt:i < n:=by lia
  refine codeAny_builtin F.entry_set_update_loop ?_
  rw [Around.under_plainId F.plain_set_update_loop _]
  refine Γa (m:=pyNext (.ref I)) (W.item i s _ _ lt st fun v s1 hP st1 mv=>?_)
  obtain ⟨t,rfl⟩:=hv i v hP
  have x1:=x.keep (h':=s1.heap) fun o e=>mv.heap S o (fun z=>hS (W.sub _ z)) e
  refine Γa (m:=holding [Value.int (ks.getD i 0) t] (setAdd S (.int (ks.getD i 0) t))) (Γg ?_)
  unfold setAdd
  refine Γg (Γa ((intKind prog w).pyHash (k:=ks.getD i 0) (intKind_is _ _ _ _) ?_))
  have lr:=a8n (ks.take i) []
  simp only [List.length_nil,List.length_take] at lr
  refine c7s (s:={ s1 with toks:=s1.toks + 1 }) x1 (by lia) fun h' b sb x2=>?_
  have e:(ks.take (i + 1)).foldl a1o []=a1o ((ks.take i).foldl a1o []) (ks.getD i 0):=by
   rw [List.take_succ_eq_append_getElem (by lia),List.foldl_append,List.getD_eq_getElem?_getD,List.getElem?_eq_getElem (by lia)]; rfl
  refine Γb ⟨plainId_quiet F.plain_set_update_loop _,b1y W S hS hn hv hb m (i + 1) _ (by lia) lt (W.frame _ s1 _ _ st1 (Nat.le_succ _) fun b hb o e=>?_) (by rw [e]; exact x2) fun s2 mv2 x3=>k s2 (Moved.trans W.gtrans ((mv.mono fun b hb=>List.mem_cons_of_mem _ hb).then_heap (Nat.le_succ _) fun b o hb e=>?_) mv2) x3⟩
  ·rw [sb.2 b fun z=>hS (z ▸ hb)]; exact e
  ·rw [sb.2 b fun z=>hb (by rw [z]; exact List.mem_cons_self)]; exact e
end
abbrev a2c (w:World):Obj:={ cls:=.type "set",dict:=none,data:=.set #[] 0 (.fresh 0 0 (!w.params.followText "set-order")) }
section
variable {prog:Program} {w:World} {A:Around} {E:Value→Shared→Prop} {s:Shared}
theorem a9j (a:Value) {Q:Value→Shared→Prop} (q:Q (.ref s.heap.objs.size) { s with heap:=s.heap.push (a2c w) }):codeAny (model prog w) A (.call (.builtin "set.__new__") ⟨[.type "set",a],[]⟩) (wants Q E) s:=by
 refine codeAny_of_tree (Γa (m:=checkBuiltinCall "set.__new__" ⟨[.type "set",a],[]⟩) (wpAny_of_eq (F.newCall_set_1 a) (Γb ⟨plainId_quiet F.plain_set_new _,codeAny_builtin F.entry_set_new ?_⟩)))
 rw [Around.under_plainId F.plain_set_new _]
 unfold Builtin.«set.__new__» Builtin.Frozenset.newClass
 have hsub:=sub_set_self
 obtain ⟨hp,g,d,tk,os⟩:=s
 dsimp only
 wp_walk
 exact wpAny_askSetting (Γb (Γa (wpAny_alloc (Γb (Γb q)))))
structure NumSrc (prog:Program) (w:World) (s:Shared) (l:Addr) (T:String) (ks:List Int):Prop where
 ty:s.TypeIs (.ref l) T
 su:isSubtype (.type T) (.type "set")=pure false
 sf:isSubtype (.type T) (.type "frozenset")=pure false
 nd:(Value.type T == Value.type "dict")=false
 it:∀ h:Heap,(∀ b o,s.heap.get? b=some o→h.get? b=some o)→∃ (oI:Obj) (P:Nat→Value→Prop) (St:Nat→Heap→Prop),(∀ (A':Around) (E':Value→Shared→Prop) (Q:Value→Shared→Prop),Q (.ref h.objs.size) { s with heap:=h.push oI }→wpAny (model prog w) A' (pyIter (.ref l)) Q E' { s with heap:=h })∧(∀ A':Around,A'.handled=none→Walks prog w A' h.objs.size [h.objs.size,l] [h.objs.size] ks.length P St)∧St 0 (h.push oI)∧∀ i v,P i v→∃ t,v=.int (ks.getD i 0) t
theorem c2j {l:Addr} {T:String} {ks:List Int} {Q:Value→Shared→Prop} (hh:A.handled=none) (N:NumSrc prog w s l T ks) (hb:ks.length + 1 < scanBound)
  (q:∀ (h':Heap) (tk:Nat),SetN w h' s.heap.objs.size (ks.foldl a1o [])→(∀ b o,s.heap.get? b=some o→h'.get? b=some o)→Q (.ref s.heap.objs.size) { s with heap:=h',toks:=tk }):wpAny (model prog w) A (call (.type "set") [.ref l]) Q E s:=by
 obtain ⟨c,tl,hmro⟩:=F.called_set.mro
 have hmade:=F.called_set.made
 have hsub:=F.called_set.sub
 refine wpAny_call (codeAny_of_tree (Γb ⟨Code.quiet_builtin _ (by nofun),codeAny_builtin F.entry_type_call ?_⟩))
 rw [Around.under_plain (weight_type_call_type "set" [.ref l] []) rfl]
 have h1:=F.called_set.notType; have h2:=F.called_set.canCreate; have hct:=F.typeCall_set_1 (.ref l)
 repeat (any_goals (first | assumption | wp_step))
 refine codeAny_mono (a9j (.ref l) (E:=E) (Q:=fun obj s1=>obj=.ref s.heap.objs.size∧s1 = { s with heap:=s.heap.push (a2c w) }) ⟨rfl,rfl⟩) fun r s1 hr=>?_
 cases r with
 | error e=>exact hr
 | ok fl =>
  cases fl with
  | ret obj =>
   obtain ⟨rfl,rfl⟩:=hr
   have g1:(s.heap.push (a2c w)).get? s.heap.objs.size=some (a2c w):=Heap.get?_push_size _ rfl
   have hT:Shared.TypeIs { s with heap:=s.heap.push (a2c w) } (.ref s.heap.objs.size) "set":=⟨_,g1,rfl⟩
   have hli:=F.called_set.init.lookup; have hbi:=F.called_set.init.bind (.ref s.heap.objs.size)
   repeat (any_goals (first | assumption | wp_step))
   refine codeAny_mono (codeAny_call_builtin (R:=wants (fun r s2=>r=.none∧∃ h' tk,s2 = { s with heap:=h',toks:=tk }∧SetN w h' s.heap.objs.size (ks.foldl a1o [])∧∀ b o,s.heap.get? b=some o→h'.get? b=some o) E) F.called_set.init.plain F.entry_set_init (check_set_init_1 hT ?_)) fun r2 s2 hr2=>?_
   ·have k1:∀ b o,s.heap.get? b=some o→(s.heap.push (a2c w)).get? b=some o:=fun b o e=>Γc _ e
    have hTl:Shared.TypeIs { s with heap:=s.heap.push (a2c w) } (.ref l) T:=by
     obtain ⟨o,e1,e2⟩:=N.ty
     exact ⟨o,k1 _ _ e1,e2⟩
    have su:=N.su; have sf:=N.sf; have nd:=N.nd
    have hlt:l < s.heap.objs.size:=by obtain ⟨o,e1,_⟩:=N.ty; exact Heap.lt_size e1
    unfold Builtin.«set.__init__» noKeywords Builtin.Frozenset.updateFrom
    generalize hPI:pyIter=PI
    wp_walk
    subst hPI
    obtain ⟨oI,P,St,i1,W,st,hv⟩:=N.it (s.heap.push (a2c w)) k1
    refine i1 _ _ _ (Γa (wpAny_runValue ?_))
    have z1:(s.heap.push (a2c w)).objs.size=s.heap.objs.size + 1:=Heap.size_push ..
    refine b1y (W A.in1.in1.in1 hh).toS s.heap.objs.size ?_ rfl hv hb ks.length 0 _ (by lia) (Nat.zero_le _) st (SetN.none (Γc _ g1)) fun s3 mv x=>?_
    ·rw [z1]
     simp only [List.mem_cons,List.not_mem_nil,or_false,not_or]
     exact ⟨Nat.ne_of_lt (Nat.lt_succ_self _),Nat.ne_of_gt hlt⟩
    ·rw [Moved.eq_with mv]
     refine Γb (Γb ⟨rfl,s3.heap,s3.toks,rfl,x,fun b o e=>mv.heap b o (fun z=>?_) (Γc _ (k1 b o e))⟩)
     have hb':=Heap.lt_size e
     rcases List.mem_cons.mp z with z | z
     ·rw [z] at hb'; exact Nat.lt_irrefl _ hb'
     ·rw [List.mem_singleton.mp z,z1] at hb'; exact Nat.lt_irrefl _ (Nat.lt_trans hb' (Nat.lt_succ_self _))
   ·cases r2 with
    | error e=>exact hr2
    | ok fl2 =>
     cases fl2 with
     | ret r =>
      obtain ⟨rfl,h',tk,rfl,x,k⟩:=hr2
      repeat (any_goals (first | assumption | wp_step))
      exact q _ _ x k
     | _=>exact hr2.elim
  | _=>exact hr.elim
theorem c0b {l:Addr} {items:Array Value} {ks:List Int} (hl:s.heap.IsList l items) (hi:IntsAre items.toList ks):NumSrc prog w s l "list" ks where
 ty:=by obtain ⟨o,e,c,_⟩:=hl; exact ⟨o,e,c⟩
 su:=F.sub_list_set
 sf:=F.sub_list_frozenset
 nd:=by decide
 it:=fun h k=>by
  have hl2:h.IsList l items:=by obtain ⟨o,e,r⟩:=hl; exact ⟨o,k _ _ e,r⟩
  have hlt:l < h.objs.size:=by obtain ⟨o,e,_⟩:=hl2; exact Heap.lt_size e
  have hz:ks.length=items.size:=by rw [← IntsAre.length hi,Array.length_toList]
  rw [hz]
  exact ⟨_,_,_,fun A' E' Q q=>wpAny_pyIter_list (s:={ s with heap:=h }) hl2 q,fun A' hh=>Walks.list hh h.objs.size l (Nat.ne_of_lt hlt) items,⟨⟨_,Heap.get?_push_size _ rfl,rfl,rfl⟩,hl2.push _⟩,fun i v hv=>IntsAre.int_at hi i v (by rw [Array.getElem?_toList]; exact hv)⟩
theorem b0t:isSubtype (.type "tuple") (.type "set")=pure false:=by rw [isSubtype_type]; kernel_rfl
theorem b0u:isSubtype (.type "tuple") (.type "frozenset")=pure false:=by rw [isSubtype_type]; kernel_rfl
theorem c4k {l:Addr} {items:Array Value} {ks:List Int} (hl:s.heap.IsTuple l items) (hi:IntsAre items.toList ks):NumSrc prog w s l "tuple" ks where
 ty:=by obtain ⟨o,e,c,_⟩:=hl; exact ⟨o,e,c⟩
 su:=b0t
 sf:=b0u
 nd:=by decide
 it:=fun h k=>by
  have hl2:h.IsTuple l items:=by obtain ⟨o,e,r⟩:=hl; exact ⟨o,k _ _ e,r⟩
  have hlt:l < h.objs.size:=by obtain ⟨o,e,_⟩:=hl2; exact Heap.lt_size e
  have hz:ks.length=items.size:=by rw [← IntsAre.length hi,Array.length_toList]
  rw [hz]
  exact ⟨_,_,_,fun A' E' Q q=>wpAny_pyIter_tuple (s:={ s with heap:=h }) hl2 q,fun A' hh=>Walks.tuple hh h.objs.size l (Nat.ne_of_lt hlt) items,⟨⟨_,Heap.get?_push_size _ rfl,rfl,rfl⟩,hl2.push _⟩,fun i v hv=>IntsAre.int_at hi i v (by rw [Array.getElem?_toList]; exact hv)⟩
end
noncomputable def c7t (prog:Program) (w:World) (m:Nat):Prop:=∀ (A:Around) (E:Value→Shared→Prop) (s:Shared) (a:Addr) (n:Nat) (vs:List Value) (ns:List Int) (P:PySem.Fin→Shared→Prop),s.heap.get? a=some (seqObj "list" vs.toArray n)→IntsAre vs ns→vs.length≤m →
 (∀ (us:List Value) (ms:List Int) (h':Heap) (c tk:Nat),IntsAre us ms→ms.Perm ns→ms.Pairwise (·≤·)→h'.get? a=some (seqObj "list" us.toArray c)→(∀ b o,b≠a→s.heap.get? b=some o→h'.get? b=some o)→P (.done (.ret .none)) { s with heap:=h',toks:=tk }) →
 wpAny (model prog w) A (Builtin.«list.sort» ⟨[.ref a],[]⟩) P E s
theorem c4l (prog:Program) (w:World):c7t prog w 63:=by
 intro A E s a n vs ns P ho hi hl k
 refine list_sort_tree ho hi (by lia) fun out ms i1 i2 i3=>?_
 obtain ⟨c,hc⟩:=sortedHeap_at (out:=out) ho
 exact k out.toList ms _ c s.toks i1 i2 i3 (by rw [Array.toArray_toList]; exact hc) fun b o hb e=>(sortedHeap_old hb (Heap.lt_size e)).trans e
section
variable {X:Cx}
noncomputable def d2d (w:World) (a:Addr) (ns:List Int):HO:=.ext fun h=>SetN w h a ns
noncomputable def rSet (X:Cx):List V→Hp→VK→Prop:=fun xs H Q=>∃ (a:Addr) (ns:List Int),xs=[.ref a]∧(SqL X.K H a (ns.map V.int) ∨ SqT X.K H a (ns.map V.int))∧ns.length + 1 < scanBound∧∀ p,H p=none→Q (.ref p) (upd H p (d2d X.w p (ns.foldl a1o [])))
theorem d9k (hc:X.calm=true):a1l X (.type "set") (rSet X):=by
 rintro pins s σ H xs us Q I r ⟨a,ns,rfl,hl,hb,k⟩
 obtain ⟨u,rfl,ru⟩:=a2w r
 cases (show u=Value.ref a from ru)
 have fin:∀ {T:String},NumSrc X.prog X.w s a T ns→wpAny (model X.prog X.w) X.A (call (.type "set") [.ref a]) (EP X pins σ Q) X.xe s:=fun {T} N=>by
  refine c2j (I.ok.hd hc) N hb fun h' tk x kp=>?_
  refine ⟨.ref s.heap.objs.size,_,I.laid (a:=s.heap.objs.size) (o:=d2d X.w s.heap.objs.size (ns.foldl a1o [])) (t':=tk) kp (Nat.le_refl _) ⟨x,?_,fun h1 h2 y kk=>y.keep kk⟩,rfl,k _ (I.hok.fresh (Nat.le_refl _))⟩
  obtain ⟨_,o,_,_,_,ho,_⟩:=x
  exact ⟨o,ho⟩
 rcases hl with hl | hl
 ·obtain ⟨its,rv,pl,_⟩:=I.list hl
  exact fin (c0b pl.isList (by simpa using c6o rv))
 ·obtain ⟨its,rv,pl,_⟩:=I.tuple hl
  exact fin (c4k pl (by simpa using c6o rv))
noncomputable def c8x (X:Cx) (m:Nat):List V→Hp→VK→Prop:=fun xs H Q=>∃ (a:Addr) (ns:List Int),xs=[.ref a]∧H a=some (d2d X.w a ns)∧ns.length≤m∧∀ p (ms:List Int),H p=none→ms.Perm ns→ms.Pairwise (·≤·)→Q (.ref p) (upd H p (.lst (ms.map V.int)))
theorem c7h (hc:X.calm=true) {m:Nat} (hm:m≤100000) (S:c7t X.prog X.w m):a1l X (.builtin "sorted") (c8x X m):=by
 rintro pins s σ H xs us Q I r ⟨a,ns,rfl,ha,hb,k⟩
 obtain ⟨u,rfl,ru⟩:=a2w r
 cases (show u=Value.ref a from ru)
 obtain ⟨⟨nd,o,es,ep,t,ho,d⟩,_,_⟩:=(show ObjOk X.prog X.w H s.heap a (d2d X.w a ns) from I.hok a _ ha)
 refine Calls.call_function_entry kind_sorted plain_sorted entry_sorted (args_sorted1 _) ?_
 unfold Builtin.«sorted»
 refine Γa (m:=checkCount "sorted" 1 1 _) (Γb (Γa (b1q (I.ok.hd hc) ho d fun h1 tk dr vs k1 pv=>?_)))
 have hi:IntsAre vs (vs.map numOf):=by
  have:∀ x∈vs,∃ i t,x=.int i t:=fun x hx=>by
   obtain ⟨e,he,rfl⟩:=List.mem_map.mp (pv.mem_iff.mp hx)
   obtain ⟨i,t,rfl⟩:=d.num e he
   exact ⟨i,t,rfl⟩
  clear pv
  induction vs with
  | nil=>exact .nil
  | cons x r ih =>
   obtain ⟨i,t,rfl⟩:=this x (by simp)
   exact .cons i t (ih fun y hy=>this y (by simp [hy]))
 have pn:(vs.map numOf).Perm ns:=by
  refine (pv.map numOf).trans ?_
  rw [List.map_map]
  exact d.perm
 have hl:vs.length≤m:=by have:=pn.length_eq; rw [List.length_map] at this; lia
 refine Γa (wpAny_newList ?_ (by rw [sizeLine_eq]; lia))
 have hoL:(h1.push (seqObj "list" vs.toArray 0)).get? h1.objs.size=some (seqObj "list" vs.toArray 0):=Heap.get?_push_size _ rfl
 have old:∀ b o,s.heap.get? b=some o→b≠h1.objs.size:=fun b o e=>Nat.ne_of_lt (Heap.lt_size (k1 b o e))
 show wpAny _ _ _ _ _ { s with heap:=h1.push (seqObj "list" vs.toArray 0),toks:=tk,drawn:=dr }
 refine Γa (Γg (wpAny_call_entry slot_list_sort ⟨_,hoL,rfl⟩ entry_list_sort (S _ _ { s with heap:=h1.push (seqObj "list" vs.toArray 0),toks:=tk,drawn:=dr } _ _ vs _ _ hoL hi hl fun us ms h' c tk' i1 i2 i3 i4 i5=>⟨_,rfl,?_⟩) (args_list_sort _)))
 have kp:∀ b o,s.heap.get? b=some o→h'.get? b=some o:=fun b o e=>i5 b o (old b o e) (Γc _ (k1 b o e))
 have I0:Inv X pins σ H { s with drawn:=dr }:=⟨I.ok,I.os,I.bare,I.base,I.loc,I.cell,I.free,I.freeC,I.pin,I.hok,I.len⟩
 obtain ⟨I2,hD⟩:=c1l (a:=h1.objs.size) (o:=.lst (ms.map V.int)) (t':=tk') I0 kp old ⟨by rw [List.length_map,i2.length_eq,List.length_map,sizeLine_eq]; lia,us,c,d0e i1,i4⟩
 exact Γb ⟨_,rfl,.ref h1.objs.size,_,I2,rfl,k _ ms hD (i2.trans pn) i3⟩
end
noncomputable def b3k (m:Nat) (a:EW):EW:=fun L Q=>a L fun v L1=>wp (a3b v) fun xs=>wp (a0z xs) fun ns=>ns.length≤m∧ns.length≤4000∧∀ ms:List Int,(∀ x,x∈ms↔x∈ns)→ms.Pairwise (· < ·)→Q (.lst (ms.map .int)) L1
@[scoped simp ↓] theorem d1c (m:Nat) (a:EW) (L:a0c) (Q:FV→a0c→Prop):b3k m a L Q=(a L fun v L1=>wp (a3b v) fun xs=>wp (a0z xs) fun ns=>ns.length≤m∧ns.length≤4000∧∀ ms:List Int,(∀ x,x∈ms↔x∈ns)→ms.Pairwise (· < ·)→Q (.lst (ms.map .int)) L1):=propext Iff.rfl
theorem a7g:∀ (ks ns:List Int),ns.Nodup→(ks.foldl a1o ns).Nodup
 | [],ns,h=>h
 | k :: ks,ns,h=>by
  refine a7g ks _ ?_
  unfold a1o
  split
  ·exact h
  ·rename_i hk
   rw [List.nodup_append]
   exact ⟨h,by simp,fun x hx y hy z=>hk (by rw [List.mem_singleton.mp hy] at z; rw [← z]; exact hx)⟩
theorem b5x {ms:List Int} (h1:ms.Pairwise (·≤·)) (h2:ms.Nodup):ms.Pairwise (· < ·):=by
 have:=List.Pairwise.and h1 h2
 exact this.imp fun {a b} h=>by have:=h.1; have:=h.2; lia
section
variable {X:Cx} {C:CC} {n:Nat} {sp:Γd→Nat→Sp} {a:Expr} {ea:EW} {pos pos' p p':Pos}
theorem c0c {m:Nat} (hm:m≤100000) (S:c7t X.prog X.w m) (G:Good X C n sp) (hg:C.gl (Γe "sorted")=true) (hg':C.gl (Γe "set")=true) (hs:a0k a=false) (ha:FR X C a ea):FE X C (.Call (.Name (Γe "sorted") p) [.Call (.Name (Γe "set") p') [a] [] pos'] [] pos) (b3k m ea):=by
 have inner:=a9f (X:=X.nox) (pos:=pos') (p:=p') (d9k (X:=X.nox) G.calm) (G.gl hg') (G.blt "set" (by decide)) (by nofun) (a0o ha a1y (a0d hs)) (by nofun) (by nofun) (a0d hs) rfl
 refine PE.imp (a5e (c7h (X:=X.nox) G.calm hm S) (G.gl hg) (G.blt "sorted" (by decide)) (by nofun) (a0o inner a1y (a0d rfl)) (by nofun) (by nofun) (a0d rfl) rfl) fun σ H Q ⟨c,L,S0,Q0,I,h,k⟩=>?_
 refine ⟨c,L,S0,_,I,h,fun v L1 hv x S1 H1 r1 I1 s1=>?_⟩
 obtain ⟨xs,e1,hv⟩:=wpx hv
 obtain ⟨ns,e2,t1,t2,q⟩:=wpx hv
 obtain ⟨a,ys,rfl,hq,ry⟩:=r1.seq I1.sub e1
 cases a1b ry e2
 have hfl:=a8n ns []
 simp at hfl
 refine ⟨a,ns,rfl,?_,by unfold scanBound; lia,fun p hp=>?_⟩
 ·cases v with
  | tup _=>exact .inr hq
  | lst _=>exact .inl hq
  | scr _=>exact .inl hq
  | _=>cases e1
 refine ⟨p,ns.foldl a1o [],rfl,a0f,by lia,fun p2 ms hp2 pm po=>?_⟩
 have I2:=I1.new hp (d2d X.w p (ns.foldl a1o []))
 refine k _ L1 (q ms (fun x=>?_) (b5x po (pm.nodup_iff.mpr (a7g ns [] List.nodup_nil)))) _ _ _ ⟨p2,_,rfl,a0f,RVs.ns ms⟩ (I2.new hp2 _) ((s1.trans (a0p (I1.sn hp))).trans (a0p (I2.sn hp2)))
 rw [pm.mem_iff,b3g]; simp
theorem d0w (G:Good X C n sp) (hg:C.gl (Γe "sorted")=true) (hg':C.gl (Γe "set")=true) (hs:a0k a=false) (ha:FR X C a ea):FE X C (.Call (.Name (Γe "sorted") p) [.Call (.Name (Γe "set") p') [a] [] pos'] [] pos) (b3k 63 ea):=c0c (by decide) (c4l _ _) G hg hg' hs ha
end
end Kq
end
set_option maxRecDepth 10000
set_option maxHeartbeats 1000000
section
namespace Kq
noncomputable def bd0 (call:CW):SW:=a1j (c3s (eUn (b5c .int) (a0b 0)) (eUn d2o (eUn (b5c .bool) (a0b 0))))
noncomputable def bd1 (call:CW):SW:=a1j (c3s (eUn (b5c .tuple) (a0b 0)) (eOp eqB (eUn a6z (a0b 0)) (a0b 1)))
noncomputable def bd2 (call:CW):SW:=a1j (c3s (a0v call 0 (a0a (a0b 0) a0h)) (a9y leB ltB (eC (.int 0)) (a0b 0) (a0b 1)))
noncomputable def bd3 (call:CW):SW:=a1j (b8i 1 3 (b9p (eOp ixF (a0b 0) (eC (.int 1)))) (.tp [1,2,3]) a1q (a3f (a0a (a0b 1) (a0a (a0b 2) a0h))) (a0b 3))
noncomputable def bd4 (call:CW):SW:=a0t (a1e (a0v call 3 (a0a (a0b 0) a0h)) (.nm 2)) (a1j (a1v 3 2 (c1m (a0b 1)) (.tp [3,4]) a1q (eIf (a1i (eUn a2r (a0b 4))) (eOp ixF (eOp ixF (a0b 0) (eC (.int 0))) (a0b 3)) (eOp b4t (a0b 2) (a3f (a0a (a0b 4) (a0a (a0b 3) a0h)))))))
noncomputable def bd5 (call:CW):SW:=a1j (eUn b5w (a0v call 4 (a0a (a0b 0) (a0a (a0b 1) a0h))))
noncomputable def bd6 (call:CW):SW:=a0t (a1e (a5a (a0a (a0b 1) a0h)) (.nm 2)) (a0t (a1e (eOp ixF (a0b 0) (a0b 1)) (.nm 3)) (a0t (d2g (a1i (eUn a2a (a0b 3))) (a0t (c8s (b8h d2b 2 (a0b 3))) (a1e (eOp ixF (a0b 0) (a0b 3)) (.nm 3)))) (a1j (eUn c4s (a0b 2)))))
noncomputable def bd7 (call:CW):SW:=a0t (a1e (a0v call 4 (a0a (a0b 0) (a0a (a0b 1) a0h))) (.nm 2)) (a1j (eUn a2m (a1v 3 1 (b3d (eUn a6z (a0b 1))) (.nm 3) a1q (eUn b3x (a1v 4 1 (b9p (a0v call 6 (a0a (a0b 1) (a0a (a0b 3) a0h)))) (.nm 4) a1q (eOp ixF (a0b 2) (a0b 4)))))))
noncomputable def bd8 (call:CW):SW:=a0t (sIf (bOr (b0n (a1i (eUn (b5c .tuple) (a0b 0)))) (b0n (a1i (a0b 0)))) (a1j (eC (.bl false))) a3t) (a0t (sIf (b0n (a1i (eUn c7r (a1v 2 1 (b9p (a0b 0)) (.nm 2) a1q (a0v call 2 (a0a (a0b 2) (a0a (a0b 1) a0h))))))) (a1j (eC (.bl false))) a3t) (a1j (eUn c7r (a1v 2 2 (c3p (a0b 0) (eSl (a0b 0) (a3e (eC (.int 1))) a4p)) (.tp [2,3]) a1q (eOp ltB (a0b 2) (a0b 3))))))
noncomputable def bd9 (call:CW):SW:=a0t (a1e (a0b 0) (.tp [1,2])) (a1j (a3f (a0a (a0b 1) (a0a (eUn a2m (a1v 3 2 (c1m (a0b 2)) (.tp [3,4]) a1q (a3f (a0a (a0b 3) (a0a (eOp a1r (a0b 3) (eC (.int 1))) (a0a (a0b 4) a0h)))))) a0h))))
noncomputable def d3t (call:CW):SW:=a1j (eUn a2m (a1v 2 1 (b3d (eUn a6z (eOp ixF (a0b 0) (eC (.int 0))))) (.nm 2) a1q (eIf (a1i (eOp c3o (a0b 2) (a0b 1))) (eC .non) (eOp b2d (a0b 2) (eC (.int 1))))))
noncomputable def d3s (call:CW):SW:=a1j (a0v call 5 (a0a (a0v call 9 (a0a (a0b 0) a0h)) (a0a (a0v call 10 (a0a (a0b 0) (a0a (a0b 1) a0h))) a0h)))
noncomputable def d3r (call:CW):SW:=a1j (a0v call 7 (a0a (a0v call 9 (a0a (a0b 0) a0h)) (a0a (a0v call 10 (a0a (a0b 0) (a0a (a0b 1) a0h))) a0h)))
noncomputable def e0g (call:CW):SW:=a0t (a1e (a0b 0) (.tp [3,4])) (a1j (eOp a1r (eOp ixF (a0b 3) (a0b 1)) (eUn b5w (eSl (a0b 4) (a3e (a0b 1)) (a3e (eOp b2d (a0b 2) (eC (.int 1))))))))
noncomputable def d3q (call:CW):SW:=a1j (eOp ixF (a0v call 16 (a0a (a0b 0) (a0a (a0b 1) (a0a (a0b 2) a0h)))) (eC (.int 0)))
noncomputable def d3p (call:CW):SW:=a1j (eUn a2m (a1v 3 2 (b9p (a0v call 16 (a0a (a0b 0) (a0a (a0b 1) (a0a (a0b 2) a0h))))) (.tp [3,4]) a1q (a0b 3)))
noncomputable def e0f (call:CW):SW:=a0t (a1e (a5a (a0a (a3f (a0a (eC (.int 0)) (a0a (a3f a0h) a0h))) a0h)) (.nm 3)) (a0t (b6e (c6p (eUn a6z (eOp ixF (a0b 0) (eC (.int 0))))) (.nm 4) (a0t (a1e (a0v call 17 (a0a (a0b 0) (a0a (a0b 1) (a0a (a0b 2) (a0a (a0b 4) a0h))))) (.nm 5)) (a0t (a1e (a1v 7 3 (c3p (a0b 5) (a0b 3)) (.tn 7 [8,9]) a1q (a3f (a0a (eOp a1r (a0b 7) (a0b 8)) (a0a (eOp a1r (a3f (a0a (a0b 4) a0h)) (a0b 9)) a0h)))) (.nm 6)) (a1e (eOp a1r (a5a (a0a (eUn b4e (a0b 6)) a0h)) (a0b 3)) (.nm 3))))) (a1j (a0b 3)))
noncomputable def e0e (call:CW):SW:=a0t (a1e (a5a a0h) (.nm 4)) (a0t (a1e (eC (.int 0)) (.nm 5)) (a0t (b6e (iRng2 (a0b 3) (eUn a6z (eOp ixF (a0b 0) (eC (.int 0))))) (.nm 6) (a0t (a1e (a0v call 13 (a0a (a0b 0) (a0a (a0b 3) (a0a (eOp a1r (a0b 6) (eC (.int 1))) a0h)))) (.nm 7)) (a0t (d2j (d2a fun i j=>i + j) 5 (eOp a9k (eOp ixF (a0b 1) (a0b 6)) (a0b 7))) (c8s (b8h d2b 4 (eOp a1r (eOp a9k (a0b 2) (a0b 7)) (a0b 5))))))) (a1j (a0b 4))))
noncomputable def e0d (call:CW):SW:=a0t (sIf (bOr (b0n (a1i (a0v call 0 (a0a (a0b 3) a0h)))) (bOr (b0n (a1i (a0v call 19 (a0a (a0b 0) (a0a (a0b 4) a0h))))) (b0n (a1i (a0v call 21 (a0a (a0b 0) (a0a (a0b 1) (a0a (a0b 2) (a0a (a0b 5) a0h))))))))) (a1j (eC (.bl false))) a3t) (a1j (c3s (eOp eqB (a0v call 20 (a0a (a0b 0) (a0a (a0b 1) (a0a (a0b 2) (a0a (a0b 4) a0h))))) (a0b 3)) (eOp eqB (eOp ixF (a0b 5) (eC (.int 0))) (a0b 3))))
noncomputable def d3o (call:CW):SW:=a1j (c3s (a0v call 8 (a0a (a0b 1) (a0a (eUn a6z (eOp ixF (a0b 0) (eC (.int 0)))) a0h))) (eOp eqB (eOp ixF (a0b 1) (eC (.int 0))) (eC (.int 0))))
noncomputable def e0c (call:CW):SW:=a0t (a1e (a1v 5 2 (c3p (a0b 1) (a0v call 12 (a0a (a0b 0) (a0a (a0b 3) a0h)))) (.tp [5,6]) a1q (eOp a9k (a0b 5) (a0b 6))) (.nm 4)) (a1j (eOp a1r (eOp a9k (a0b 2) (a0v call 11 (a0a (a0b 0) (a0a (a0b 3) a0h)))) (eUn b3x (a0b 4))))
noncomputable def d3n (call:CW):SW:=a0t (a1e (eUn a6z (eOp ixF (a0b 0) (eC (.int 0)))) (.nm 4)) (a0t (sIf (bOr (b0n (a1i (a0v call 1 (a0a (a0b 3) (a0a (eOp a1r (a0b 4) (eC (.int 1))) a0h))))) (b0n (a1i (eUn c7r (a1v 7 1 (b9p (a0b 3)) (.nm 7) a1q (a0v call 0 (a0a (a0b 7) a0h))))))) (a1j (eC (.bl false))) a3t) (a0t (sIf (a1i (eOp neB (eOp ixF (a0b 3) (a0b 4)) (eC (.int 0)))) (a1j (eC (.bl false))) a3t) (a0t (b6e (b3d (a0b 4)) (.nm 5) (a0t (a1e (a0v call 17 (a0a (a0b 0) (a0a (a0b 1) (a0a (a0b 2) (a0a (a0b 5) a0h))))) (.nm 6)) (sIf (a1i (eOp neB (eOp ixF (a0b 3) (a0b 5)) (eUn b7g (a1v 7 2 (c3p (a0b 6) (eSl (a0b 3) (a3e (eOp a1r (a0b 5) (eC (.int 1)))) a4p)) (.tp [7,8]) a1q (eOp a1r (a0b 7) (a0b 8)))))) (a1j (eC (.bl false))) a3t))) (a1j (eC (.bl true))))))
noncomputable def e0b (call:CW):SW:=a0t (a1e (eOp c3f (eOp a9k (eOp a1r (eOp a1r (eOp c3f (a0b 0) (eC (.int 2147483629))) (eOp a9k (eOp a9k (a0b 1) (a0b 1)) (eC (.int 7919)))) (eC (.int 11))) (eC (.int 48271))) (eC (.int 2147483647))) (.nm 2)) (a1j (eOp c3f (eOp a9k (a0b 2) (a0b 2)) (eC (.int 1999999973))))
noncomputable def e0a (call:CW):SW:=a0t (a1e (eIf (a1i (eOp ltB (a0b 1) (eUn a6z (a0b 0)))) (eOp ixF (a0b 0) (a0b 1)) (eC (.int 0))) (.nm 2)) (a1j (a5a (a0a (eOp a9k (eUn d2c (a0b 2)) (eUn b2a (eOp geB (eUn d2c (a0b 2)) (eOp c5d (eC (.int 10)) (eC (.int 18)))))) (a0a (eOp a1r (a0b 2) (eOp a9k (eC (.int 1000003)) (a0b 1))) (a0a (eC (.int 0)) a0h)))))
noncomputable def d3m (call:CW):SW:=a0t (d2i 0 (eC (.int 2)) (eOp a1r (c1z ixF 0 (eC (.int 2))) (eC (.int 1)))) (a0t (sIf (a1i (eOp gtB (c1z ixF 0 (eC (.int 0))) (eC (.int 0)))) (a0t (a1e (eOp c3f (c1z ixF 0 (eC (.int 0))) (a0b 1)) (.nm 2)) (a0t (d2i 0 (eC (.int 0)) (eOp b4n (c1z ixF 0 (eC (.int 0))) (a0b 1))) (a1j (a0b 2)))) a3t) (a1j (eOp c3f (eOp b4n (a0v call 22 (a0a (a0v call 22 (a0a (c1z ixF 0 (eC (.int 1))) (a0a (c1z ixF 0 (eC (.int 2))) a0h))) (a0a (eOp a1r (c1z ixF 0 (eC (.int 2))) (eC (.int 64))) a0h))) (eC (.int 64))) (a0b 1))))
noncomputable def d9z (call:CW):SW:=a0t (a1e (a0i call 24 0 (a0a (eC (.int 4)) a0h)) (.nm 2)) (a0t (sIf (d1y (a1i (eOp eqB (a0b 2) (eC (.int 3)))) (a1i (eOp eqB (a0b 1) (eC (.int 0))))) (a1j (eOp a1r (eC (.int 1)) (a0i call 24 0 (a0a (eOp b2d (eOp c5d (eC (.int 10)) (eC (.int 9))) (eC (.int 20))) a0h)))) a3t) (a1j (eOp a1r (eC (.int 1)) (a0i call 24 0 (a0a (eOp ixF (a5a (a0a (eC (.int 9)) (a0a (eC (.int 9)) (a0a (eC (.int 40)) (a0a (eC (.int 3)) a0h))))) (a0b 2)) a0h)))))
noncomputable def d9y (call:CW):SW:=a0t (a1e (eIf (a1i (eOp gtB (a0i call 24 0 (a0a (eC (.int 8)) a0h)) (eC (.int 0)))) (eOp a1r (eC (.int 1)) (a0i call 24 0 (a0a (eC (.int 7)) a0h))) (eOp a1r (eC (.int 8)) (a0i call 24 0 (a0a (eOp b2d (a0b 1) (eC (.int 7))) a0h)))) (.nm 2)) (a0t (a1e (a0i call 24 0 (a0a (eC (.int 4)) a0h)) (.nm 3)) (a0t (a1e (eUn a2m (a1v 5 1 (b3d (a0b 2)) (.nm 5) a1q (eOp a1r (a0i call 25 0 (a0a (a0b 3) a0h)) (eOp ixF (a5a (a0a (eC (.int 0)) (a0a (eC (.int 9)) a0h))) (a0i call 24 0 (a0a (eC (.int 2)) a0h)))))) (.nm 4)) (a1j (a3f (a0a (a0b 4) (a0a (eUn a2m (a1v 5 1 (b3d (eOp b2d (a0b 2) (eC (.int 1)))) (.nm 5) a1q (a0i call 25 0 (a0a (a0b 3) a0h)))) a0h))))))
noncomputable def d9x (call:CW):SW:=a0t (a1e (eOp a1r (eC (.int 1)) (a0i call 24 0 (a0a (eC (.int 4)) a0h))) (.nm 2)) (a1j (eUn a2m (a1v 3 1 (b3d (a0b 1)) (.nm 3) (bOr (a1i (eOp eqB (a0b 3) (eC (.int 0)))) (a1i (eOp eqB (a0i call 24 0 (a0a (a0b 2) a0h)) (eC (.int 0))))) (a0b 3))))
noncomputable def d3l (call:CW):SW:=a0t (a1e (a5a (a0a (eC .non) (a0a (eC (.bl true)) (a0a (eC (.bl false)) (a0a (eC (.int 0)) (a0a (eC (.int 1)) (a0a (eUn d2p (eC (.int 1))) (a0a (eC (.int 2)) (a0a (eC (.int 7)) (a0a (eC (.str "")) (a0a (eC (.str "keep")) (a0a (eC (.str "put")) (a0a (a3f a0h) (a0a (a5a a0h) (a0a (a3f (a0a (eC (.int 0)) a0h)) (a0a (a5a (a0a (eC (.int 0)) a0h)) (a0a (a3f (a0a (eC (.int 0)) (a0a (eC (.int 1)) a0h))) (a0a (a3f (a0a (eC .non) a0h)) (a0a (a3f (a0a (eC (.str "keep")) (a0a (eC (.int 0)) (a0a (eC (.int 1)) a0h)))) a0h))))))))))))))))))) (.nm 2)) (a0t (sIf (bOr (a1i (eOp eqB (a0b 1) (eC (.int 0)))) (a1i (eOp eqB (a0i call 24 0 (a0a (eC (.int 3)) a0h)) (eC (.int 0))))) (a1j (eOp ixF (a0b 2) (a0i call 24 0 (a0a (eC (.int 18)) a0h)))) a3t) (a0t (a1e (a1v 4 1 (b3d (a0i call 24 0 (a0a (eC (.int 4)) a0h))) (.nm 4) a1q (a0i call 28 0 (a0a (eOp b2d (a0b 1) (eC (.int 1))) a0h))) (.nm 3)) (a1j (eOp ixF (a5a (a0a (a0b 3) (a0a (eUn a2m (a0b 3)) a0h))) (a0i call 24 0 (a0a (eC (.int 2)) a0h))))))
noncomputable def d1x (call:CW):SW:=a1j (eUn c7r (a1v 1 1 (b9p (a0b 0)) (.nm 1) a1q (c3s (eUn (b5c .int) (a0b 1)) (eUn d2o (eUn (b5c .bool) (a0b 1))))))
noncomputable def d9w (call:CW):SW:=a0t (a1e (a3f (a0a (eOp ixF (a5a (a0a (eC (.int 1)) (a0a (eC (.int 2)) (a0a (eC (.int 4)) (a0a (eC (.int 30)) (a0a (eOp a1r (eOp c5d (eC (.int 10)) (eC (.int 9))) (eC (.int 1))) a0h)))))) (a0i call 24 0 (a0a (eC (.int 5)) a0h))) (a0a (a0i call 24 0 (a0a (eC (.int 5)) a0h)) a0h))) (.tp [2,3])) (a0t (a1e (a1v 6 1 (b3d (a0b 1)) (.nm 6) a1q (eOp b4n (eOp a9k (a0i call 24 0 (a0a (a0b 2) a0h)) (a0i call 24 0 (a0a (eC (.int 3)) a0h))) (eC (.int 2)))) (.nm 4)) (a0t (a1e (a5a (a0a (eC (.int 0)) (a0a (eC (.int 1)) (a0a (eOp a1r (eC (.int 1)) (a0i call 24 0 (a0a (eC (.int 9)) a0h))) (a0a (a0i call 24 0 (a0a (eOp a1r (eOp c5d (eC (.int 10)) (eC (.int 9))) (eC (.int 1))) a0h)) (a0a (eC (.int 1)) a0h)))))) (.nm 5)) (a1j (a3f (a0a (eUn a2m (a0b 4)) (a0a (eOp ixF (a0b 5) (a0b 3)) a0h))))))
noncomputable def d9v (call:CW):SW:=a0t (a1e (eUn a6z (eOp ixF (a0b 0) (eC (.int 0)))) (.nm 3)) (a0t (a1e (eC (.dct [] [])) (.nm 4)) (a0t (b6e (b3d (a0b 3)) (.nm 5) (a0t (a1e (eOp ixF (eOp ixF (a0b 0) (eC (.int 0))) (a0b 5)) (.nm 6)) (a0t (a1e (eOp a9k (eOp a1r (a0b 2) (eOp ixF (a0b 1) (a0b 5))) (a0b 6)) (.nm 7)) (a0t (c0h 4 (a3f (a0a (a0b 5) (a0a (eOp a1r (a0b 5) (eC (.int 1))) a0h))) (a0b 7)) (b6e (iRng2 (eOp a1r (a0b 5) (eC (.int 1))) (a0b 3)) (.nm 8) (a0t (a1e (eOp ixF (eOp ixF (a0b 0) (eC (.int 1))) (eOp b2d (a0b 8) (eC (.int 1)))) (.nm 9)) (a0t (a1e (eOp a1r (a0b 6) (a0b 9)) (.nm 6)) (a0t (a1e (eOp a1r (a0b 7) (eOp a9k (a0b 2) (a0b 9))) (.nm 7)) (a0t (a1e (eOp a1r (a0b 7) (eOp a9k (eOp ixF (a0b 1) (a0b 8)) (a0b 6))) (.nm 7)) (c0h 4 (a3f (a0a (a0b 5) (a0a (eOp a1r (a0b 8) (eC (.int 1))) a0h))) (a0b 7))))))))))) (a1j (a0b 4))))
noncomputable def d3k (call:CW):SW:=a0t (a1e (eUn a6z (eOp ixF (a0b 0) (eC (.int 0)))) (.nm 3)) (a0t (sIf (bOr (b0n (a1i (eUn (b5c .tuple) (a0b 2)))) (bOr (a1i (eOp eqB (a0b 2) (a3f a0h))) (b0n (a1i (a0v call 29 (a0a (a0b 2) a0h)))))) (a1j (eC .non)) a3t) (a0t (sIf (bOr (a1i (eOp neB (eOp ixF (a0b 2) (eC (.int 0))) (eC (.int 0)))) (bOr (a1i (eOp neB (eUn a4q (a0b 2)) (b3k 63 (a0b 2)))) (a1i (eOp geB (eOp ixF (a0b 2) (eUn d2p (eC (.int 1)))) (a0b 3))))) (a1j (eC .non)) a3t) (a1j (eUn b3x (a1v 4 1 (c3p (a0b 2) (eOp a1r (eUn a4q (eSl (a0b 2) (a3e (eC (.int 1))) a4p)) (a5a (a0a (a0b 3) a0h)))) (.nm 4) a1q (eOp b4t (a0b 1) (a0b 4)))))))
noncomputable def d9u (call:CW):SW:=a0t (a1e (eUn a6z (eOp ixF (a0b 0) (eC (.int 0)))) (.nm 5)) (a0t (sIf (bOr (b0n (a1i (a0v call 29 (a0a (a5a (a0a (a0b 2) a0h)) a0h)))) (bOr (b0n (a1i (eUn (b5c .tuple) (a0b 4)))) (a1i (eOp neB (eUn a6z (a0b 4)) (eOp a1r (a0b 5) (eC (.int 1))))))) (a1j (eC (.bl false))) a3t) (a0t (sIf (bOr (b0n (a1i (a0v call 29 (a0a (a0b 4) a0h)))) (bOr (a1i (eOp neB (eOp ixF (a0b 4) (a0b 5)) (eC (.int 0)))) (a1i (eOp neB (eOp ixF (a0b 4) (eC (.int 0))) (a0b 2))))) (a1j (eC (.bl false))) a3t) (a0t (b6e (b3d (a0b 5)) (.nm 6) (sIf (a1i (eOp neB (eOp ixF (a0b 4) (a0b 6)) (eUn b7g (a1v 7 1 (iRng2 (eOp a1r (a0b 6) (eC (.int 1))) (eOp a1r (a0b 5) (eC (.int 1)))) (.nm 7) a1q (eOp a1r (eOp b4t (a0b 1) (a3f (a0a (a0b 6) (a0a (a0b 7) a0h)))) (eOp ixF (a0b 4) (a0b 7))))))) (a1j (eC (.bl false))) a3t)) (a1j (eOp eqB (a0v call 32 (a0a (a0b 0) (a0a (a0b 1) (a0a (a0b 3) a0h)))) (a0b 2))))))
noncomputable def d9t (call:CW):SW:=a0t (a1e (a0i call 24 0 (a0a (eOp a1r (eUn a6z (a0b 1)) (eC (.int 1))) a0h)) (.nm 2)) (a0t (a1e (a0i call 24 0 (a0a (eC (.int 9)) a0h)) (.nm 3)) (a0t (sIf (a1i (eOp eqB (a0b 3) (eC (.int 0)))) (a1j (eOp a1r (eSl (a0b 1) a4p (a3e (a0b 2))) (eSl (a0b 1) (a3e (eOp a1r (a0b 2) (eC (.int 1)))) a4p))) a3t) (a0t (sIf (a1i (eOp eqB (a0b 3) (eC (.int 1)))) (a1j (eOp a1r (eOp a1r (eSl (a0b 1) a4p (a3e (a0b 2))) (eSl (a0b 1) (a3e (a0b 2)) (a3e (eOp a1r (a0b 2) (eC (.int 1)))))) (eSl (a0b 1) (a3e (a0b 2)) a4p))) a3t) (a0t (sIf (a1i (eOp eqB (a0b 3) (eC (.int 2)))) (a1j (eUn a4q (a0b 1))) a3t) (a0t (sIf (a1i (eOp eqB (a0b 3) (eC (.int 3)))) (a1j (eUn c4a (a0b 1))) a3t) (a0t (sIf (a1i (eOp eqB (a0b 3) (eC (.int 4)))) (a1j (eUn a2m (a1v 5 1 (b9p (a0b 1)) (.nm 5) a1q (eIf (a1i (eOp c3o (a0b 5) (a3f (a0a (eC (.int 0)) (a0a (eC (.int 1)) a0h))))) (eOp eqB (a0b 5) (eC (.int 1))) (a0b 5))))) a3t) (a0t (sIf (a1i (eOp eqB (a0b 3) (eC (.int 5)))) (a1j (a0i call 28 0 (a0a (eC (.int 3)) a0h))) a3t) (a0t (sIf (a1i (eOp eqB (a0b 3) (eC (.int 6)))) (a1j (eOp a1r (eOp a1r (eSl (a0b 1) a4p (a3e (a0b 2))) (a3f (a0a (a0i call 24 0 (a0a (eC (.int 12)) a0h)) a0h))) (eSl (a0b 1) (a3e (a0b 2)) a4p))) a3t) (a0t (a1e (eIf (a1i (eOp ltB (a0b 2) (eUn a6z (a0b 1)))) (eOp ixF (a5a (a0a (eOp a1r (eOp ixF (a0b 1) (a0b 2)) (eC (.int 1))) (a0a (eOp b2d (eOp ixF (a0b 1) (a0b 2)) (eC (.int 1))) a0h))) (eOp b2d (a0b 3) (eC (.int 7)))) (eC (.int 0))) (.nm 4)) (a1j (eOp a1r (eOp a1r (eSl (a0b 1) a4p (a3e (a0b 2))) (a3f (a0a (a0b 4) a0h))) (eSl (a0b 1) (a3e (eOp a1r (a0b 2) (eC (.int 1)))) a4p))))))))))))
noncomputable def d9s (call:CW):SW:=a0t (a1e (a0b 1) (.tp [4,5])) (a0t (a1e (a5a (a0a (a3f (a0a (a0b 4) (a0a (a0b 5) (a0a (a0b 2) a0h)))) (a0a (a3f (a0a (a0b 4) (a0a (a0b 3) (a0a (a0b 2) a0h)))) (a0a (a3f (a0a (eOp a1r (a0b 4) (eC (.int 1))) (a0a (a0b 5) (a0a (a0b 2) a0h)))) (a0a (a3f (a0a (eOp eqB (a0b 4) (eC (.int 1))) (a0a (a0b 5) (a0a (a0b 2) a0h)))) a0h))))) (.nm 6)) (a0t (b6e (b3d (eC (.int 12))) (.nm 7) (a0t (a1e (a0i call 24 0 (a0a (eC (.int 5)) a0h)) (.nm 8)) (a0t (a1e (a3f (a0a (a0b 4) (a0a (a0b 5) (a0a (a0b 2) a0h)))) (.tp [9,10,11])) (a0t (sIf (a1i (eOp eqB (a0b 8) (eC (.int 0)))) (a1e (eOp ixF (a5a (a0a (eOp b2d (a0b 4) (eC (.int 1))) (a0a (eUn c4i (a0b 4)) (a0a (eC .non) (a0a (a5a (a0a (a0b 4) a0h)) (a0a (a0i call 28 0 (a0a (eC (.int 2)) a0h)) a0h)))))) (a0i call 24 0 (a0a (eC (.int 5)) a0h))) (.nm 9)) a3t) (a0t (sIf (a1i (eOp c3o (a0b 8) (a3f (a0a (eC (.int 1)) (a0a (eC (.int 3)) a0h))))) (a1e (a0i call 34 0 (a0a (a0b 5) a0h)) (.nm 10)) a3t) (a0t (sIf (a1i (eOp c3o (a0b 8) (a3f (a0a (eC (.int 2)) (a0a (eC (.int 3)) (a0a (eC (.int 4)) a0h)))))) (a1e (a0i call 34 0 (a0a (a0b 2) a0h)) (.nm 11)) a3t) (a0t (sIf (d1y (a1i (eOp eqB (a0b 8) (eC (.int 4)))) (d1y (a1i (eUn (b5c .tuple) (a0b 11))) (a1i (eOp neB (a0b 11) (a3f a0h))))) (a1e (eOp ixF (a0b 11) (eC (.int 0))) (.nm 9)) a3t) (c8s (b8h d2b 6 (a3f (a0a (a0b 9) (a0a (a0b 10) (a0a (a0b 11) a0h))))))))))))) (a1j (a0b 6))))
noncomputable def d9r (call:CW):SW:=a0t (b6e (b3d (eOp a1r (eC (.int 1)) (eOp c1d (eC (.int 4)) (eUn a6z (a0b 0))))) (.nm 1) (a0t (a1e (a0v call 23 (a0a (a0b 0) (a0a (a0b 1) a0h))) (.nm 2)) (a0t (a1e (a0i call 26 2 (a0a (eC (.int 30)) a0h)) (.nm 3)) (a0t (a1e (a0i call 30 2 (a0a (eUn a6z (eOp ixF (a0b 3) (eC (.int 0)))) a0h)) (.tp [4,5])) (a0t (a1e (a0v call 31 (a0a (a0b 3) (a0a (a0b 4) (a0a (a0b 5) a0h)))) (.nm 6)) (a0t (a1e (a0v call 14 (a0a (a0b 3) (a0a (a0b 4) (a0a (a0b 5) a0h)))) (.nm 7)) (a0t (a1e (a0v call 15 (a0a (a0b 3) (a0a (a0b 4) (a0a (a0b 5) a0h)))) (.nm 8)) (a0t (sIf (a1i (eUn (a4v true) (a0v call 18 (a0a (a0b 3) (a0a (a0b 4) (a0a (a0b 5) (a0a (eOp ixF (a0b 7) (eC (.int 0))) (a0a (eOp ixF (a0b 7) (eC (.int 1))) (a0a (a0b 8) a0h))))))))) (a1j (eC (.bl false))) a3t) (b6e (b9p (a0i call 35 2 (a0a (a0b 7) (a0a (a0b 8) (a0a (a0i call 27 2 (a0a (eUn a6z (eOp ixF (a0b 3) (eC (.int 0)))) a0h)) a0h))))) (.tp [9,10,11]) (a0t (a1e (eUn c4i (a5a (a0a (a0b 9) (a0a (a0b 10) (a0a (a0b 11) a0h))))) (.nm 12)) (a0t (a1e (a0v call 18 (a0a (a0b 3) (a0a (a0b 4) (a0a (a0b 5) (a0a (a0b 9) (a0a (a0b 10) (a0a (a0b 11) a0h))))))) (.nm 13)) (a0t (sIf (bOr (b0n (a1i (eUn (b5c .bool) (a0b 13)))) (a1i (eOp neB (a0b 13) (a0v call 33 (a0a (a0b 3) (a0a (a0b 6) (a0a (a0b 9) (a0a (a0b 10) (a0a (a0b 11) a0h))))))))) (a1j (eC (.bl false))) a3t) (sIf (a1i (eOp neB (eUn c4i (a5a (a0a (a0b 9) (a0a (a0b 10) (a0a (a0b 11) a0h))))) (a0b 12))) (a1j (eC (.bl false))) a3t))))))))))))) (a1j (eC (.bl true)))
noncomputable def fd0:FD:=⟨1,1,bd0,false,false⟩
noncomputable def fd1:FD:=⟨2,2,bd1,false,false⟩
noncomputable def fd2:FD:=⟨2,2,bd2,false,false⟩
noncomputable def fd3:FD:=⟨1,1,bd3,false,false⟩
noncomputable def fd4:FD:=⟨2,3,bd4,false,false⟩
noncomputable def fd5:FD:=⟨2,2,bd5,false,false⟩
noncomputable def fd6:FD:=⟨2,4,bd6,false,false⟩
noncomputable def fd7:FD:=⟨2,3,bd7,false,false⟩
noncomputable def fd8:FD:=⟨2,2,bd8,false,false⟩
noncomputable def fd9:FD:=⟨1,3,bd9,false,false⟩
noncomputable def d8u:FD:=⟨2,2,d3t,false,false⟩
noncomputable def d8t:FD:=⟨2,2,d3s,false,false⟩
noncomputable def d8s:FD:=⟨2,2,d3r,false,false⟩
noncomputable def d8r:FD:=⟨3,5,e0g,false,false⟩
noncomputable def d8q:FD:=⟨3,3,d3q,false,false⟩
noncomputable def d8p:FD:=⟨3,3,d3p,false,false⟩
noncomputable def d8o:FD:=⟨3,7,e0f,false,false⟩
noncomputable def d8n:FD:=⟨4,8,e0e,false,true⟩
noncomputable def d8m:FD:=⟨6,6,e0d,false,false⟩
noncomputable def d8l:FD:=⟨2,2,d3o,false,false⟩
noncomputable def d8k:FD:=⟨4,5,e0c,false,false⟩
noncomputable def d3g:FD:=⟨4,7,d3n,false,false⟩
noncomputable def d8j:FD:=⟨2,3,e0b,false,false⟩
noncomputable def d8i:FD:=⟨2,3,e0a,false,true⟩
noncomputable def d3f:FD:=⟨2,3,d3m,true,false⟩
noncomputable def d8h:FD:=⟨2,3,d9z,true,false⟩
noncomputable def d8g:FD:=⟨2,5,d9y,true,false⟩
noncomputable def d8f:FD:=⟨2,3,d9x,true,false⟩
noncomputable def d1a:FD:=⟨2,4,d3l,true,false⟩
noncomputable def d0z:FD:=⟨1,1,d1x,false,false⟩
noncomputable def d8e:FD:=⟨2,6,d9w,true,false⟩
noncomputable def d8d:FD:=⟨3,10,d9v,false,true⟩
noncomputable def d3e:FD:=⟨3,4,d3k,false,false⟩
noncomputable def d8c:FD:=⟨5,7,d9u,false,false⟩
noncomputable def d8b:FD:=⟨2,5,d9t,true,false⟩
noncomputable def d8a:FD:=⟨4,12,d9s,true,true⟩
noncomputable def d7z:FD:=⟨1,14,d9r,false,false⟩
noncomputable def tb:List FD:=[fd0,fd1,fd2,fd3,fd4,fd5,fd6,fd7,fd8,fd9,d8u,d8t,d8s,d8r,d8q,d8p,d8o,d8n,d8m,d8l,d8k,d3g,d8j,d8i,d3f,d8h,d8g,d8f,d1a,d0z,d8e,d8d,d3e,d8c,d8b,d8a,d7z]
noncomputable def mixV (a k:Int):Int:=((a % 2147483629 + k * k * 7919 + 11) * 48271 % 2147483647) * ((a % 2147483629 + k * k * 7919 + 11) * 48271 % 2147483647) % 1999999973
theorem b6c (x:Int):small (x % 2147483647)=true:=by
 have:=Int.emod_nonneg x (show (2147483647:Int)≠0 by decide)
 have:=Int.emod_lt_of_pos x (show (0:Int) < 2147483647 by decide)
 simp only [small,decide_eq_true_eq]; lia
theorem a1u {i:Int} (h:0≤i) (h':i < 2 ^ 60):small i=true:=by
 simp only [small,decide_eq_true_eq]; lia
theorem a0j {i:Int} (h:0≤i) (h':i < 2 ^ 60):a1a i=true:=by
 simp only [a1a,decide_eq_true_eq]; lia
theorem d0i (d:Nat) (a k:Int) (hk:small k=true) (Q:FV×FV→Prop):callW tb (d + 1) 22 [.int a,.int k] Q↔Q (.int (mixV a k),.non):=by
 have h2:small 48271=true:=by decide
 have h3:small 7919=true:=by decide
 rw [a8q (fd:=d8j) rfl rfl]
 simp [d8j,e0b,h2,h3,hk,b6c,mixV]
noncomputable def Lf (n:Int) (v:FV):Prop:=∃ a b c,v=.lst [.int a,.int b,.int c]∧0≤c∧c≤n
theorem Lf.mono {n m:Int} {v:FV} (h:Lf n v) (k:n≤m):Lf m v:=by
 obtain ⟨a,b,c,h,h1,h2⟩:=h
 exact ⟨a,b,c,h,h1,by lia⟩
theorem a0m (d:Nat) {many n:Int} {v:FV} {Q:FV×FV→Prop} (hs:Lf n v) (hn:n < 1000000) (h1:0 < many) (h2:many < 1073741824)
  (q:∀ u v',0≤u→u < many→Lf (n + 1) v'→Q (.int u,v')):callW tb (d + 2) 24 [v,.int many] Q:=by
 obtain ⟨a,b,c,rfl,h3,h4⟩:=hs
 refine a0g (fd:=d3f) rfl rfl ?_
 have s1:small (c + 1)=true:=a1u (by lia) (by lia)
 have s2:small (c + 1 + 64)=true:=a1u (by lia) (by lia)
 by_cases ha:0 < a
 ·simp [d3f,d3m,ixN,ha,h1,h2]
  exact q _ _ (Int.emod_nonneg _ (by lia)) (Int.emod_lt_of_pos _ h1) ⟨_,_,_,rfl,by lia,by lia⟩
 ·simp [d3f,d3m,ixN,ha,h1,h2,d0i,s1,s2]
  exact q _ _ (Int.emod_nonneg _ (by lia)) (Int.emod_lt_of_pos _ h1) ⟨_,_,_,rfl,by lia,by lia⟩
theorem c6b (d:Nat) (ns:List Int) (k:Nat) {Q:FV×FV→Prop} (q:∀ v y,Lf 0 v→Q (v,y)):callW tb (d + 1) 23 [.scr ns,.int k] Q:=by
 refine a0g (fd:=d8i) rfl rfl ?_
 have h1:small 1000003=true:=by decide
 have h2:small 0=true:=by decide
 have h4:small 10=true:=by decide
 have h5:∀ r:Bool,small (if r=true then 1 else 0)=true:=by intro r; cases r <;> decide
 simp [d8i,e0a]
 split
 ·rename_i hk
  rw [a2i rfl (show (ns.map FV.int)[k]?=some (.int ns[k]) by simp [hk])]
  simp [h1,h4,h5,big]
  exact ⟨.inr (by by_cases hh:1000000000000000000≤(if ns[k] < 0 then -ns[k] else ns[k]) <;> simp only [hh,if_true,if_false] <;> decide),q _ _ ⟨_,_,_,rfl,by lia,by lia⟩⟩
 ·simp [h1,h2,h4,big]
  exact q _ _ ⟨_,_,_,rfl,by lia,by lia⟩
mutual
noncomputable def dF:D→FV
 | .non=>.non
 | .bl b=>.bl b
 | .int i=>.int i
 | .str x=>.str x
 | .tup xs=>.tup (dFs xs)
 | .lst xs=>.lst (dFs xs)
noncomputable def dFs:List D→List FV
 | []=>[]
 | x :: r=>dF x :: dFs r
end
theorem a1d:∀ xs:List D,dFs xs=xs.map dF
 | []=>rfl
 | x :: r=>by rw [dFs,a1d r]; rfl
mutual
noncomputable def dep:D→Nat
 | .tup xs=>b1n xs + 1
 | .lst xs=>b1n xs + 1
 | .non=>0 | .bl _=>0 | .int _=>0 | .str _=>0
noncomputable def b1n:List D→Nat
 | []=>0
 | x :: r=>max (dep x) (b1n r)
end
mutual
theorem b4o:∀ (x:D) (n:Nat),dep x < n→fD n (dF x)=some x
 | .non,0,h=>by lia
 | .non,n + 1,h=>rfl
 | .bl _,0,h=>by lia
 | .bl _,n + 1,h=>rfl
 | .int _,0,h=>by lia
 | .int _,n + 1,h=>rfl
 | .str _,0,h=>by lia
 | .str _,n + 1,h=>rfl
 | .tup xs,0,h=>by lia
 | .tup xs,n + 1,h=>by simp only [dF,fD]; rw [b8e xs n (by simp only [dep] at h; lia)]; rfl
 | .lst xs,0,h=>by lia
 | .lst xs,n + 1,h=>by simp only [dF,fD]; rw [b8e xs n (by simp only [dep] at h; lia)]; rfl
theorem b8e:∀ (xs:List D) (n:Nat),b1n xs < n→a5p (fD n) (dFs xs)=some xs
 | [],n,h=>rfl
 | x :: r,n,h=>by
  simp only [b1n] at h
  simp only [dFs,a5p,b4o x n (by lia),b8e r n (by lia),Option.bind_some,Option.map_some]
end
noncomputable def Vl (k p:Nat) (x:FV):Prop:=∃ d,x=dF d∧dep d≤p∧d.fit=true∧d.wt≤k
theorem Vl.mono {k k' p p':Nat} {x:FV} (h:Vl k p x) (hk:k≤k') (hp:p≤p'):Vl k' p' x:=by
 obtain ⟨d,e,h1,h2,h3⟩:=h
 exact ⟨d,e,by lia,h2,by lia⟩
theorem Vl.all {k p:Nat}:∀ {xs:List FV},(∀ x∈xs,Vl k p x)→∃ ds:List D,xs=dFs ds∧b1n ds≤p∧D.fits ds=true∧D.wts ds≤ds.length * (k + 1)∧ds.length=xs.length
 | [],_=>⟨[],rfl,Nat.zero_le _,rfl,by simp [D.wts],rfl⟩
 | x :: r,h=>by
  obtain ⟨d,e,h1,h2,h3⟩:=h x (List.mem_cons_self ..)
  obtain ⟨ds,e',h1',h2',h3',h4'⟩:=Vl.all (xs:=r) fun y hy=>h y (List.mem_cons_of_mem _ hy)
  refine ⟨d :: ds,by rw [e,e']; rfl,by simp only [b1n]; lia,by simp only [D.fits,h2,h2',Bool.and_self],?_,by simp [h4']⟩
  simp only [D.wts,List.length_cons,Nat.add_mul,Nat.one_mul]; lia
theorem Vl.tup {k p m:Nat} {xs:List FV} (h:∀ x∈xs,Vl k p x) (hl:xs.length≤m):Vl (m * (k + 1)) (p + 1) (.tup xs):=by
 obtain ⟨ds,e,h1,h2,h3,h4⟩:=Vl.all h
 refine ⟨.tup ds,by rw [e]; rfl,by simp only [dep]; lia,by simp only [D.fit,h2],?_⟩
 simp only [D.wt]
 exact Nat.le_trans h3 (Nat.mul_le_mul_right _ (by lia))
theorem Vl.lst {k p m:Nat} {xs:List FV} (h:∀ x∈xs,Vl k p x) (hl:xs.length≤m):Vl (m * (k + 1)) (p + 1) (.lst xs):=by
 obtain ⟨ds,e,h1,h2,h3,h4⟩:=Vl.all h
 refine ⟨.lst ds,by rw [e]; rfl,by simp only [dep]; lia,by simp only [D.fit,h2],?_⟩
 simp only [D.wt]
 exact Nat.le_trans h3 (Nat.mul_le_mul_right _ (by lia))
theorem Vl.int {i:Int} (h:-(2 ^ 40) < i) (h':i < 2 ^ 40):Vl 41 0 (.int i):=⟨.int i,rfl,Nat.le_refl _,by simp only [D.fit,decide_eq_true_eq]; lia,by simp only [D.wt]; rw [if_pos ⟨h,h'⟩]; exact Nat.le_refl _⟩
theorem Vl.bl {b:Bool}:Vl 0 0 (.bl b):=⟨.bl b,rfl,Nat.le_refl _,rfl,Nat.le_refl _⟩
theorem Vl.non:Vl 0 0 .non:=⟨.non,rfl,Nat.le_refl _,rfl,Nat.le_refl _⟩
theorem Vl.of {k p:Nat} (ds:List D) (h:(ds.all fun d=>decide (dep d≤p∧d.fit=true∧d.wt≤k))=true):∀ x∈ds.map dF,Vl k p x:=by
 intro x hx
 obtain ⟨d,hd,rfl⟩:=List.mem_map.mp hx
 rw [List.all_eq_true] at h
 have:=h d hd
 simp only [decide_eq_true_eq] at this
 exact ⟨d,rfl,this⟩
theorem c7e {xs:List FV} {lo hi:Option Int} {x:FV} (h:x∈a5g xs lo hi):x∈xs:=List.mem_of_mem_drop (List.mem_of_mem_take h)
theorem c8l {k p:Nat} {x:FV} (h:Vl k p x) (hk:k≤big) (hp:p < 40):∃ y,c4i x=some y∧∀ R:Bool→Prop,wp (eqF y y) R=R true:=by
 obtain ⟨d,rfl,h1,h2,h3⟩:=h
 have big':∀ e:D,dep e < 40→e.fit=true→e.wt≤big→(fD a0l (dF e)).bind (fun d=>if d.fit=true∧d.wt≤big then some (FV.shn d) else none)=some (.shn e):=fun e h1 h2 h3=>by
  rw [b4o e a0l h1]
  show (if e.fit=true∧e.wt≤big then some (FV.shn e) else none)=_
  rw [if_pos ⟨h2,h3⟩]
 cases d with
 | non=>exact ⟨_,rfl,fun R=>by simp⟩
 | bl b=>exact ⟨_,rfl,fun R=>by simp⟩
 | str x=>exact ⟨_,rfl,fun R=>by simp⟩
 | int i =>
  simp only [D.fit,decide_eq_true_eq] at h2
  exact ⟨_,(show (if -(2 ^ 150) < i∧i < 2 ^ 150 then some (FV.str (toString i)) else none)=some (.str (toString i)) by rw [if_pos h2]),fun R=>by simp⟩
 | tup xs=>exact ⟨_,big' (.tup xs) (by lia) h2 (by lia),fun R=>by simp⟩
 | lst xs=>exact ⟨_,big' (.lst xs) (by lia) h2 (by lia),fun R=>by simp⟩
theorem c6w {a b:D} (ha:dep a < 40) (hb:dep b < 40):eqF (dF a) (dF b)=some (D.eqv a b):=by
 have go:(fD a0l (dF a)).bind (fun x=>(fD a0l (dF b)).bind fun y=>some (D.eqv x y))=some (D.eqv a b):=by
  rw [b4o a a0l ha,b4o b a0l hb]; rfl
 unfold eqF
 split
 ·rename_i x y e1 e2; cases a <;> cases e1
 ·exact go
theorem a4i {α:Type} (xs:List α) (n:Nat):a5g xs (some (n:Int)) none=xs.drop n:=by
 have h:sIx xs.length 0 (some (n:Int))=min n xs.length:=by simp only [sIx]; rw [if_neg (by lia)]; simp
 unfold a5g
 rw [h]
 show (xs.drop (min n xs.length)).take (xs.length - min n xs.length)=_
 by_cases hn:n≤xs.length
 ·rw [Nat.min_eq_left hn,List.take_of_length_le (by simp)]
 ·rw [Nat.min_eq_right (by lia),List.drop_of_length_le (Nat.le_refl _),List.drop_of_length_le (by lia)]; simp
theorem d1m {α:Type} (xs:List α) (n:Nat):a5g xs none (some (n:Int))=xs.take n:=by
 have h:sIx xs.length xs.length (some (n:Int))=min n xs.length:=by simp only [sIx]; rw [if_neg (by lia)]; simp
 unfold a5g
 rw [h]
 show (xs.drop 0).take (min n xs.length - 0)=_
 rw [List.drop_zero,Nat.sub_zero,List.take_eq_take_iff]; lia
theorem a2g {α β:Type} (f:α→FV) (g:β→FV):∀ (xs:List α) (ys:List β),a3p (xs.map f) (ys.map g)=(xs.zip ys).map fun p=>.tup [f p.1,g p.2]
 | [],ys=>rfl
 | x :: xs,[]=>rfl
 | x :: xs,y :: ys=>by
  show FV.tup [f x,g y] :: a3p (xs.map f) (ys.map g)=_
  rw [a2g f g xs ys]; rfl
abbrev Chg:=Nat×Nat×Int
noncomputable def c3r (c:Chg):FV:=.tup [.int c.1,.int c.2.1,.int c.2.2]
structure Gst (ws:List Int) (cs:List Chg):Prop where
 w:∀ x∈ws,1≤x
 c:∀ x∈cs,x.1 < ws.length∧x.2.1 < ws.length∧x.1≠x.2.1∧1≤x.2.2
 s:∀ x∈cs.zip (cs.drop 1),lexLt [(x.1.1:Int),x.1.2.1] [(x.2.1:Int),x.2.2.1]=true
noncomputable def c3q (ws:List Int) (cs:List Chg):FV:=.tup [.tup (ws.map .int),.tup (cs.map c3r)]
theorem a7c {cs:List Chg} (h:∀ x∈cs.zip (cs.drop 1),lexLt [(x.1.1:Int),x.1.2.1] [(x.2.1:Int),x.2.2.1]=true):(cs.map fun c=>[(c.1:Int),c.2.1]).Nodup:=by
 have lt:∀ a b c d:Int,lexLt [a,b] [c,d]=true↔(a < c ∨ a=c∧b < d):=fun a b c d=>by
  by_cases e:a=c
  ·subst e
   by_cases e2:b=d
   ·subst e2; simp [lexLt]
   ·simp [lexLt,e2]
  ·simp [lexLt,e]
 have go:∀ (cs:List Chg) (a b:Nat),(∀ x∈cs.zip (cs.drop 1),lexLt [(x.1.1:Int),x.1.2.1] [(x.2.1:Int),x.2.2.1]=true)→(∀ c∈cs.head?,a < c.1 ∨ a=c.1∧b < c.2.1)→(∀ c∈cs,a < c.1 ∨ a=c.1∧b < c.2.1)∧(cs.map fun c=>[(c.1:Int),c.2.1]).Nodup:=by
  intro cs
  induction cs with
  | nil=>intro a b _ _; simp
  | cons x r ih =>
   intro a b hs hh
   have hx:=hh x (by simp)
   have h2:=ih x.1 x.2.1 (fun p hp=>hs p (by
    cases r with
    | nil=>simp at hp
    | cons y q=>simp at hp ⊢; exact .inr hp)) (fun c hc=>by
    cases r with
    | nil=>simp at hc
    | cons y q =>
     simp at hc; subst hc
     have:=(lt _ _ _ _).mp (hs (x,y) (by simp))
     dsimp only at this
     lia)
   refine ⟨fun c hc=>?_,?_⟩
   ·rcases List.mem_cons.mp hc with rfl | hc
    ·exact hx
    ·have:=h2.1 c hc; lia
   ·simp only [List.map_cons,List.nodup_cons]
    refine ⟨fun hm=>?_,h2.2⟩
    obtain ⟨c,hc,e⟩:=List.mem_map.mp hm
    have:=h2.1 c hc
    simp at e; lia
 cases cs with
 | nil=>simp
 | cons x r =>
  have h2:=go r x.1 x.2.1 (fun p hp=>h p (by
   cases r with
   | nil=>simp at hp
   | cons y q=>simp at hp ⊢; exact .inr hp)) (fun c hc=>by
   cases r with
   | nil=>simp at hc
   | cons y q =>
    simp at hc; subst hc
    have:=(lt _ _ _ _).mp (h (x,y) (by simp))
    dsimp only at this
    lia)
  simp only [List.map_cons,List.nodup_cons]
  refine ⟨fun hm=>?_,h2.2⟩
  obtain ⟨c,hc,e⟩:=List.mem_map.mp hm
  have:=h2.1 c hc
  simp at e; lia
noncomputable def keyH (c:Chg):List Int:=[c.1,c.2.1]
theorem c0e (d:Nat) {ws:List Int} {cs:List Chg} (h:Gst ws cs) (hc:cs.length≤1000) {Q:FV×FV→Prop} (q:Q (.dct (cs.map keyH) (cs.map fun c=>.int c.2.2),.non)):callW tb (d + 1) 3 [c3q ws cs] Q:=by
 refine a0g (fd:=fd3) rfl rfl ?_
 simp [fd3,bd3,c3q,big]
 refine ⟨by lia,?_⟩
 refine b0a (f:=c3r) (g:=keyH) (h:=fun c=>.int c.2.2) cs [] [] (by simp) (a7c h.s) (fun x hx K k=>?_) (by simpa using q)
 simp [c3r,big]
 exact k
noncomputable def b1l:Option Nat→FV | none=>.non | some a=>.int a
theorem a8i (m:Int) (ks:List Int) (R:Bool→Prop):wp (inF (.int m) (.tup (ks.map .int))) R↔R (decide (m∈ks)):=by
 have h:FV.tup (ks.map .int)=dF (.tup (ks.map .int)):=by simp [dF,a1d,Function.comp_def]
 have hd:∀ xs:List Int,b1n (xs.map D.int)=0:=fun xs=>by induction xs with | nil=>rfl | cons x r ih=>simp [b1n,dep,ih]
 have e:inF (.int m) (.tup (ks.map .int))=some (decide (m∈ks)):=by
  unfold inF
  rw [h,show FV.int m=dF (.int m) from rfl,b4o _ a0l (by simp [dep,a0l]),b4o _ a0l (by simp only [dep,hd,a0l]; lia)]
  simp only [Option.bind_some,inD]
  congr 1
  induction ks with
  | nil=>simp
  | cons x r ih =>
   have ih:(r.map D.int).any (fun y=>D.eqv y (D.int m))=decide (m∈r):=ih (by simp [dF,a1d,Function.comp_def])
   simp only [List.map_cons,List.any_cons,D.eqv,ih,List.mem_cons]
   rw [Bool.eq_iff_iff]; simp; constructor <;> (rintro (h | h) <;> first | exact .inl h.symm | exact .inr h)
 rw [e]; exact Iff.rfl
theorem b2w (d:Nat) {n g:Int} {v:FV} {Q:FV×FV→Prop} (hs:Lf n v) (h0:0≤n) (hn:n < 100000) (q:∀ s v',1≤s→s < 1000000000→Lf (n + 2) v'→Q (.int s,v')):callW tb (d + 3) 25 [v,.int g] Q:=by
 refine a0g (fd:=d8h) rfl rfl ?_
 simp [d8h,d9z,big]
 refine a0m d hs (by lia) (by decide) (by decide) fun u v1 u0 u1 l1=>?_
 simp
 have fin:wp (atF [FV.int 9,FV.int 9,FV.int 40,FV.int 3] u) fun z=>callW tb (d + 2) 24 [v1,z] fun z=>wp (a1r (FV.int 1) z.fst) fun z_1=>Q (z_1,z.snd):=by
  refine a4y u0 u1 ?_
  intro f hf
  obtain ⟨k,rfl,k0,k1⟩:∃ k:Int,f=.int k∧0 < k∧k≤40:=by
   simp at hf
   rcases hf with rfl | rfl | rfl | rfl <;> exact ⟨_,rfl,by decide,by decide⟩
  refine a0m d l1 (by lia) k0 (by lia) fun w v2 w0 w1 l2=>?_
  simp
  exact q _ _ (by lia) (by lia) (l2.mono (by lia))
 refine ite2 (fun h=>?_) (fun h=>fin)
 refine ite2 (fun h=>?_) (fun h=>fin)
 refine ⟨by decide,a0m d l1 (by lia) (by decide) (by decide) fun w v2 w0 w1 l2=>?_⟩
 simp
 exact q _ _ (by lia) (by lia) (l2.mono (by lia))
noncomputable def Szs (xs:List Int):Prop:=∀ x∈xs,1≤x∧x < 2000000000
theorem c8u (d : Nat) {n M : Int} {v : FV} {Q : FV × FV → Prop} (hs : Lf n v) (h0 : 0 ≤ n) (hn : n < 10000) (hM : 8 ≤ M) (hM2 : M ≤ 30) (q : ∀ (ws ss : List Int) v', 1 ≤ ws.length → ws.length ≤ 30 → ss.length + 1 = ws.length → Szs ws → Szs ss → Lf (n + 200) v' → Q (.tup [.tup (ws.map .int), .tup (ss.map .int)], v')) : callW tb (d + 4) 26 [v, .int M] Q := by
  refine a0g (fd := d8g) rfl rfl ?_
  simp [d8g, d9y, big]
  refine a0m (d + 1) hs (by lia) (by decide) (by decide) fun u v1 u0 u1 l1 => ?_
  simp
  have tail : ∀ (m : Nat) (v2 : FV), 1 ≤ m → m ≤ 30 → Lf (n + 2) v2 → callW tb (d + 3) 24 [v2, FV.int 4] fun z =>
      a1a (m : Int) = true ∧ (upF 0 (m : Int).toNat).length ≤ 100000 ∧
        a5c 5 1 (Tg.nm 5) a1q
          (eOp a1r (a0i (callW tb (d + 3)) 25 0 (a0a (a0b 3) a0h))
            (eOp ixF (a5a (a0a (eC (FV.int 0)) (a0a (eC (FV.int 9)) a0h)))
              (a0i (callW tb (d + 3)) 24 0 (a0a (eC (FV.int 2)) a0h))))
          (upF 0 (m : Int).toNat) [] [some z.snd, some (FV.int M), some (FV.int m), some z.fst, none] fun ys L2 =>
          wp (lk (List.set L2 4 (some (FV.tup ys))) 4) fun x =>
            wp (lk (List.set L2 4 (some (FV.tup ys))) 2) fun x_1 =>
              wp (b2d x_1 (FV.int 1)) fun z =>
                wp (a3o z) fun j =>
                  a1a j = true ∧ List.length L2 = 5 ∧ (upF 0 j.toNat).length ≤ 100000 ∧
                        a5c 5 1 (Tg.nm 5) a1q (a0i (callW tb (d + 3)) 25 0 (a0a (a0b 3) a0h)) (upF 0 j.toNat)
                          [] (List.set L2 4 (some (FV.tup ys))) fun ys L2 =>
                          wp (lk L2 0) fun x_2 => Q (FV.tup [x, FV.tup ys], x_2) := by
    intro m v2 m1 m2 l2
    refine a0m (d + 1) l2 (by lia) (by decide) (by decide) fun g v3 g0 g1 l3 => ?_
    refine ⟨a0j (by lia) (by lia), ?_⟩
    rw [Int.toNat_natCast, a1z]
    refine ⟨by simp; lia, ?_⟩
    refine a2n (f := fun i : Nat => FV.int i) (I := fun ds acc L => ∃ v' xs, L = [some v', some (.int M), some (.int m), some (.int g), none] ∧ acc = xs.map .int ∧ xs.length = ds.length ∧ Szs xs ∧ Lf (n + 3 + 3 * ds.length) v') (List.range m) (List.range m) [] [] _ rfl ⟨v3, [], rfl, rfl, rfl, by simp [Szs], by simpa [Int.add_assoc] using l3⟩ ?_ ?_
    · rintro ds x r acc L K e ⟨v', xs, rfl, rfl, hl, hx, lf⟩ k
      have hd : ds.length < 30 := by have := congrArg List.length e; simp at this; lia
      simp
      refine b2w d lf (by lia) (by lia) fun s v4 s0 s1 l4 => ?_
      simp [big]
      refine a0m (d + 1) l4 (by lia) (by decide) (by decide) fun w v5 w0 w1 l5 => ?_
      simp
      refine a4y w0 w1 ?_
      intro f hf
      obtain ⟨p, rfl, p0, p1⟩ : ∃ p : Int, f = .int p ∧ 0 ≤ p ∧ p ≤ 9 := by
        simp at hf
        rcases hf with rfl | rfl <;> exact ⟨_, rfl, by decide, by decide⟩
      simp
      refine k _ _ ⟨v5, xs ++ [s + p], rfl, by simp, by simp [hl], ?_, l5.mono (by simp; lia)⟩
      intro y hy
      rcases List.mem_append.mp hy with hy | hy
      · exact hx y hy
      · simp at hy; subst hy; lia
    · rintro ys L ⟨v', ws, rfl, rfl, hl, hx, lf⟩
      simp only [List.length_range] at hl lf
      simp
      refine ⟨a0j (by lia) (by lia), ?_⟩
      rw [a1z]
      refine ⟨by simp; lia, ?_⟩
      refine a2n (f := fun i : Nat => FV.int i) (I := fun ds acc L => ∃ v' xs, L = [some v', some (.int M), some (.int m), some (.int g), some (.tup (ws.map .int))] ∧ acc = xs.map .int ∧ xs.length = ds.length ∧ Szs xs ∧ Lf (n + 93 + 3 * ds.length) v') (List.range (m - 1)) (List.range (m - 1)) [] [] _ rfl ⟨v', [], rfl, rfl, rfl, by simp [Szs], lf.mono (by simp; lia)⟩ ?_ ?_
      · rintro ds x r acc L K e ⟨v', xs, rfl, rfl, hl, hx, lf⟩ k
        have hd : ds.length < 30 := by have := congrArg List.length e; simp at this; lia
        simp
        refine b2w d lf (by lia) (by lia) fun s v4 s0 s1 l4 => ?_
        simp
        refine k _ _ ⟨v4, xs ++ [s], rfl, by simp, by simp [hl], ?_, l4.mono (by simp; lia)⟩
        intro y hy
        rcases List.mem_append.mp hy with hy | hy
        · exact hx y hy
        · simp at hy; subst hy; lia
      · rintro ys L ⟨v', ss, rfl, rfl, hl2, hx2, lf⟩
        simp only [List.length_range] at hl2 lf
        simp
        exact q ws ss v' (by lia) (by lia) (by lia) hx hx2 (lf.mono (by lia))
  refine ite2 (fun h => ?_) (fun h => ?_)
  · refine a0m (d + 1) l1 (by lia) (by decide) (by decide) fun w v2 w0 w1 l2 => ?_
    obtain ⟨m, hm⟩ : ∃ m : Nat, 1 + w = m := ⟨(1 + w).toNat, by lia⟩
    simp
    rw [hm]
    exact tail m v2 (by lia) (by lia) (l2.mono (by lia))
  · refine a0m (d + 1) l1 (by lia) (by lia) (by lia) fun w v2 w0 w1 l2 => ?_
    obtain ⟨m, hm⟩ : ∃ m : Nat, 8 + w = m := ⟨(8 + w).toNat, by lia⟩
    simp
    rw [hm]
    exact tail m v2 (by lia) (by lia) (l2.mono (by lia))
theorem c1h (d:Nat) {n:Int} {v:FV} {m:Nat} {Q:FV×FV→Prop} (hs:Lf n v) (h0:0≤n) (hn:n < 10000) (h1:1≤m) (hm:m≤30) (q:∀ (ks:List Nat) v',0∈ks→ks.Sublist (List.range m)→Lf (n + 40) v'→Q (.tup (ks.map fun i:Nat=>.int i),v')):callW tb (d + 3) 27 [v,.int m] Q:=by
 refine a0g (fd:=d8f) rfl rfl ?_
 simp [d8f,d9x,big]
 refine a0m d hs (by lia) (by decide) (by decide) fun u v1 u0 u1 l1=>?_
 simp
 refine ⟨a0j (by lia) (by lia),?_⟩
 rw [a1z]
 refine ⟨by simp; lia,?_⟩
 refine a2n (f:=fun i:Nat=>FV.int i) (I:=fun ds acc L=>∃ v',∃ ks:List Nat,L=[some v',some (.int m),some (.int (1 + u))]∧acc=ks.map (fun i:Nat=>.int i)∧(0∈ds→0∈ks)∧ks.Sublist ds∧Lf (n + 1 + ds.length) v') (List.range m) (List.range m) [] [] _ rfl ⟨v1,[],rfl,rfl,by simp,by simp,by simpa using l1⟩ ?_ ?_
 ·rintro ds x r acc L K e ⟨v',ks,rfl,rfl,hz,hl,lf⟩ k
  have hd:ds.length < 30:=by have:=congrArg List.length e; simp at this; lia
  have yes:∀ v2,Lf (n + 1 + ds.length + 1) v2→K (ks.map (fun i:Nat=>.int i)++[.int x]) [some v2,some (.int m),some (.int (1 + u))]:=fun v2 l2=>by
   refine k _ _ ⟨v2,ks++[x],rfl,by simp,?_,hl.append (List.Sublist.refl _),l2.mono (by simp; lia)⟩
   intro h
   rcases List.mem_append.mp h with h | h
   ·exact List.mem_append_left _ (hz h)
   ·exact List.mem_append_right _ h
  simp
  refine ite2 (fun h=>?_) (fun h=>?_)
  ·exact yes v' (lf.mono (by lia))
  ·refine a0m d lf (by lia) (by lia) (by lia) fun w v2 w0 w1 l2=>?_
   simp
   refine ite2 (fun h2=>yes v2 l2) (fun h2=>?_)
   refine k _ _ ⟨v2,ks,rfl,rfl,?_,hl.trans (List.sublist_append_left _ _),l2.mono (by simp; lia)⟩
   intro h3
   rcases List.mem_append.mp h3 with h3 | h3
   ·exact hz h3
   ·simp at h3; exact absurd h3.symm h
 ·rintro ys L ⟨v',ks,rfl,rfl,hz,hl,lf⟩
  simp only [List.length_range] at lf
  simp
  exact q ks v' (hz (List.mem_range.mpr (by lia))) hl (lf.mono (by lia))
noncomputable def b4b (ss:List Int):List Chg:=(List.range ss.length).map fun i=>(i,i + 1,ss.getD i 0)
theorem c4p {ws ss:List Int} (hw:Szs ws) (hs:Szs ss) (hl:ss.length + 1=ws.length):Gst ws (b4b ss):=by
 refine ⟨fun x hx=>(hw x hx).1,fun x hx=>?_,fun x hx=>?_⟩
 ·obtain ⟨i,hi,rfl⟩:=List.mem_map.mp hx
  have hi:=List.mem_range.mp hi
  refine ⟨by show i < _; lia,by show i + 1 < _; lia,by show i≠i + 1; lia,?_⟩
  show 1≤ss.getD i 0
  simp only [List.getD,List.getElem?_eq_getElem hi,Option.getD_some]
  exact (hs _ (List.getElem_mem hi)).1
 ·obtain ⟨j,hj⟩:=List.mem_iff_getElem?.mp hx
  obtain ⟨h1,h2⟩:=List.getElem?_zip_eq_some.mp hj
  rw [List.getElem?_drop] at h2
  simp only [b4b,List.getElem?_map] at h1 h2
  obtain ⟨a,e1,e2⟩:=Option.map_eq_some_iff.mp h1
  obtain ⟨b,e3,e4⟩:=Option.map_eq_some_iff.mp h2
  have ha:a=j:=by have:=(List.getElem?_eq_some_iff.mp e1).2; simpa using this.symm
  have hb:b=1 + j:=by have:=(List.getElem?_eq_some_iff.mp e3).2; simpa using this.symm
  rw [← e2,← e4,ha,hb]
  show lexLt [(j:Int),((j + 1:Nat):Int)] [((1 + j:Nat):Int),((1 + j + 1:Nat):Int)]=true
  have:¬ (j:Int)=((1 + j:Nat):Int):=by lia
  rw [lexLt,if_neg this,decide_eq_true_eq]
  lia
theorem c0j (ss:List Int):(b4b ss).length=ss.length:=by simp [b4b]
noncomputable def b7m (ks:List Nat) (n:Nat):List (Option Nat):=(List.range n).map fun m=>if m∈ks then none else some (m - 1)
theorem a9b (d:Nat) {ws ss:List Int} (hl:ss.length≤30) {Q:FV×FV→Prop} (q:Q (c3q ws (b4b ss),.non)):callW tb (d + 1) 9 [.tup [.tup (ws.map .int),.tup (ss.map .int)]] Q:=by
 refine a0g (fd:=fd9) rfl rfl ?_
 simp [fd9,bd9,big]
 rw [a1z,a2g]
 refine ⟨by simp; lia,?_⟩
 refine a0s (g:=fun p:Nat×Int=>c3r (p.1,p.1 + 1,p.2)) ((List.range ss.length).zip ss) [] (fun x hx K k=>?_) ?_
 ·simp [big]
  simpa [c3r] using k
 ·have e:((List.range ss.length).zip ss).map (fun p:Nat×Int=>c3r (p.1,p.1 + 1,p.2))=(b4b ss).map c3r:=by
   apply List.ext_getElem
   ·simp [b4b]
   ·intro i h1 h2
    simp at h1 h2
    have:i < ss.length:=by simpa [b4b] using h2
    simp [b4b,this,List.getD]
  rw [List.nil_append,e]
  simpa [c3q] using q
theorem c6n (m:Nat) (ks:List Nat) (R:Bool→Prop):wp (inF (.int m) (.tup (ks.map fun i:Nat=>.int i))) R↔R (decide (m∈ks)):=by
 have ek:(ks.map fun i:Nat=>FV.int i)=(ks.map fun i:Nat=>(i:Int)).map .int:=by simp
 rw [ek,a8i]
 have:((m:Int)∈ks.map fun i:Nat=>(i:Int))↔m∈ks:=by
  rw [List.mem_map]
  exact ⟨fun ⟨a,h,e⟩=>(show a=m by lia) ▸ h,fun h=>⟨m,h,rfl⟩⟩
 simp only [this]
theorem b6g (d:Nat) {ws ss:List Int} {ks:List Nat} (hl:ws.length≤30) (h0:0∈ks) {Q:FV×FV→Prop} (q:Q (.tup ((b7m ks ws.length).map b1l),.non)):callW tb (d + 1) 10 [.tup [.tup (ws.map .int),.tup (ss.map .int)],.tup (ks.map fun i:Nat=>.int i)] Q:=by
 refine a0g (fd:=d8u) rfl rfl ?_
 simp [d8u,d3t,big]
 refine ⟨a0j (by lia) (by lia),?_⟩
 rw [a1z]
 refine ⟨by simp; lia,?_⟩
 refine a0s (f:=fun i:Nat=>FV.int i) (g:=fun m=>b1l (if m∈ks then none else some (m - 1))) (List.range ws.length) [] (fun m hm K k=>?_) ?_
 ·simp [c6n]
  refine ite2 (fun h=>?_) (fun h=>?_)
  ·rw [if_pos h] at k; simpa [b1l] using k
  ·rw [if_neg h] at k
   have hm0:m≠0:=fun z=>h (by rw [z]; exact h0)
   have:((m - 1:Nat):Int)=(m:Int) - 1:=by lia
   simpa [b1l,this] using k
 ·simp
  simpa [b7m,Function.comp_def] using q
theorem c7f {α:Type} (xs:List α) (i t:Nat):a5g xs (some (i:Int)) (some ((i:Int) + (t:Int)))=(xs.drop i).take t:=by
 have h1:sIx xs.length 0 (some (i:Int))=min i xs.length:=by simp only [sIx]; rw [if_neg (by lia)]; simp
 have h2:sIx xs.length xs.length (some ((i:Int) + (t:Int)))=min (i + t) xs.length:=by simp only [sIx]; rw [if_neg (by lia)]; congr 1
 unfold a5g
 rw [h1,h2]
 by_cases hi:i≤xs.length
 ·rw [Nat.min_eq_left hi,List.take_eq_take_iff,List.length_drop]; lia
 ·rw [Nat.min_eq_right (show xs.length≤i by lia),List.drop_of_length_le (Nat.le_refl _),List.drop_of_length_le (by lia)]; simp
theorem b8x {α:Type} (xs:List α) {i j:Nat} (h:i≤j):a5g xs (some (i:Int)) (some (j:Int))=(xs.drop i).take (j - i):=by
 obtain ⟨t,rfl⟩:∃ t,j=i + t:=⟨j - i,by lia⟩
 rw [Nat.add_sub_cancel_left,← c7f]; simp
noncomputable def kp (ws ss:List Int) (ks:List Nat) (m:Nat):Int:=if m∈ks then ws.getD m 0 else ss.getD (m - 1) 0
noncomputable def a4k (ks:List Nat):Nat→List Nat
 | 0=>[0]
 | m + 1=>if m + 1∈ks then [m + 1] else a4k ks m++[m + 1]
theorem c2o {ks:List Nat} (h0:0∈ks) {b:Nat} (hb:b∈ks):∀ j,b≤j→(∀ i,b < i→i≤j→i ∉ ks)→a4k ks j=List.range' b (j + 1 - b)
 | 0,h,_=>by
  have:b=0:=by lia
  subst this; rfl
 | j + 1,h,hn=>by
  unfold a4k
  by_cases e:b=j + 1
  ·rw [if_pos (e ▸ hb),← e,show b + 1 - b=1 by lia]; rfl
  ·rw [if_neg (hn (j + 1) (by lia) (Nat.le_refl _)),c2o h0 hb j (by lia) (fun i h1 h2=>hn i h1 (by lia)),show j + 1 + 1 - b=(j + 1 - b) + 1 by lia,List.range'_concat]
   congr 2; lia
noncomputable def a4l (ws ss:List Int) (b e:Nat):Int:=ws.getD b 0 + ((ss.drop b).take (e - 1 - b)).sum
theorem b5y {ws ss:List Int} {ks:List Nat} {b e:Nat} (hb:b∈ks) (h1:b < e) (h2:e≤ss.length + 1) (hn:∀ i,b < i→i < e→i ∉ ks):((List.range' b (e - b)).map (kp ws ss ks)).sum=a4l ws ss b e:=by
 obtain ⟨t,rfl⟩:∃ t,e=b + t + 1:=⟨e - b - 1,by lia⟩
 have e1:b + t + 1 - b=t + 1:=by lia
 have e2:b + t + 1 - 1 - b=t:=by lia
 rw [a4l,e1,e2,List.range'_succ,List.map_cons,List.sum_cons,kp,if_pos hb]
 congr 2
 apply List.ext_getElem
 ·simp; lia
 ·intro i h3 h4
  have h5:i < t:=by simpa using h3
  simp only [List.getElem_map,List.getElem_range',List.getElem_take,List.getElem_drop]
  rw [kp,if_neg (hn _ (by lia) (by lia)),show b + 1 + 1 * i - 1=b + i by lia,List.getD,List.getElem?_eq_getElem (by lia)]; rfl
noncomputable def a3z (ks:List Nat) (n:Nat):List (Nat×Nat):=ks.zip (ks.drop 1++[n])
theorem a4o:∀ {ks:List Nat} {n:Nat},ks.Pairwise (· < ·)→(∀ k∈ks,k < n)→∀ p∈a3z ks n,p.1∈ks∧p.1 < p.2∧p.2≤n∧∀ i,p.1 < i→i < p.2→i ∉ ks
 | [],n,_,_,p,hp=>by simp [a3z] at hp
 | [k],n,_,hk,p,hp=>by
  have:p=(k,n):=by simpa [a3z] using hp
  subst this
  have:=hk k (by simp)
  exact ⟨by simp,this,Nat.le_refl _,fun i h1 h2 h3=>by simp at h3; lia⟩
 | k :: k2 :: r,n,hs,hk,p,hp=>by
  obtain ⟨h1,h2⟩:=List.pairwise_cons.mp hs
  have hp:p=(k,k2) ∨ p∈a3z (k2 :: r) n:=by simpa [a3z] using hp
  rcases hp with rfl | hp
  ·refine ⟨by simp,h1 k2 (by simp),Nat.le_of_lt (hk k2 (by simp)),fun i h3 h4 h5=>?_⟩
   rcases List.mem_cons.mp h5 with h5 | h5
   ·simp at h3; lia
   ·rcases List.mem_cons.mp h5 with h6 | h6
    ·simp at h4; lia
    ·have:=(List.pairwise_cons.mp h2).1 i h6
     simp at h4; lia
  ·obtain ⟨a,b,c,d⟩:=a4o h2 (fun x hx=>hk x (List.mem_cons_of_mem _ hx)) p hp
   refine ⟨List.mem_cons_of_mem _ a,b,c,fun i h3 h4 h5=>?_⟩
   rcases List.mem_cons.mp h5 with h5 | h5
   ·have:=h1 _ a; lia
   ·exact d i h3 h4 h5
theorem b2e {α:Type} (f:Nat→α):∀ {k:Nat} {r:List Nat} {n:Nat},(k :: r).Pairwise (· < ·)→(∀ x∈k :: r,x < n)→(a3z (k :: r) n).flatMap (fun p=>(List.range' p.1 (p.2 - p.1)).map f)=(List.range' k (n - k)).map f
 | k,[],n,_,_=>by simp [a3z]
 | k,k2 :: r,n,hs,hk=>by
  obtain ⟨h1,h2⟩:=List.pairwise_cons.mp hs
  have e:a3z (k :: k2 :: r) n=(k,k2) :: a3z (k2 :: r) n:=by simp [a3z]
  rw [e,List.flatMap_cons,b2e f h2 fun x hx=>hk x (List.mem_cons_of_mem _ hx),← List.map_append]
  congr 1
  have a:=h1 k2 (by simp)
  have b:=hk k2 (by simp)
  show List.range' k (k2 - k)++List.range' k2 (n - k2)=_
  have e2:List.range' k2 (n - k2)=List.range' (k + 1 * (k2 - k)) (n - k2):=by congr 1; lia
  rw [e2,List.range'_append]
  congr 1; lia
theorem a9t {ks:List Nat} (h0:0∈ks) (hs:ks.Pairwise (· < ·)):∃ r,ks=0 :: r:=by
 cases ks with
 | nil=>cases h0
 | cons k r =>
  rcases List.mem_cons.mp h0 with h | h
  ·exact ⟨r,by rw [← h]⟩
  ·have:=(List.pairwise_cons.mp hs).1 0 h; lia
theorem a6v {α:Type} (f:Nat→α) {ks:List Nat} {n:Nat} (h0:0∈ks) (hs:ks.Pairwise (· < ·)) (hk:∀ x∈ks,x < n):(a3z ks n).flatMap (fun p=>(List.range' p.1 (p.2 - p.1)).map f)=(List.range n).map f:=by
 obtain ⟨r,rfl⟩:=a9t h0 hs
 rw [b2e f hs hk,List.range_eq_range']; rfl
noncomputable def rd (ws ss:List Int) (ks:List Nat) (m:Nat):Int:=((a4k ks m).map (kp ws ss ks)).sum
theorem a8o {α:Type} (g:α→List Int):∀ xs:List α,(xs.flatMap g).sum=(xs.map fun x=>(g x).sum).sum
 | []=>rfl
 | x :: r=>by rw [List.flatMap_cons,List.sum_append,a8o g r]; rfl
theorem c4r {ws ss:List Int} {ks:List Nat} (hl:ss.length + 1=ws.length) (h0:0∈ks) (hs:ks.Pairwise (· < ·)) (hk:∀ x∈ks,x < ws.length):((List.range ws.length).map (kp ws ss ks)).sum=((a3z ks ws.length).map fun p=>a4l ws ss p.1 p.2).sum:=by
 rw [← a6v _ h0 hs hk,a8o]
 congr 1
 apply List.map_congr_left
 intro p hp
 obtain ⟨a,b,c,d⟩:=a4o hs hk p hp
 exact b5y a b (by lia) d
theorem c8v {ws ss:List Int} {ks:List Nat} (hl:ss.length + 1=ws.length) (h0:0∈ks) (hs:ks.Pairwise (· < ·)) (hk:∀ x∈ks,x < ws.length) {p:Nat×Nat} (hp:p∈a3z ks ws.length) {j:Nat} (h1:p.1≤j) (h2:j < p.2):rd ws ss ks j=a4l ws ss p.1 (j + 1):=by
 obtain ⟨a,b,c,d⟩:=a4o hs hk p hp
 rw [rd,c2o h0 a j h1 (fun i h3 h4=>d i h3 (by lia))]
 exact b5y a (by lia) (by lia) (fun i h3 h4=>d i h3 (by lia))
theorem b7y:∀ {cs:List Chg} {c:Chg},(cs.map keyH).Nodup→c∈cs→a2z (cs.map keyH) (cs.map fun c=>FV.int c.2.2) (keyH c)=some (.int c.2.2)
 | x :: r,c,hn,hc=>by
  simp only [List.map_cons,List.nodup_cons] at hn
  show (if keyH x=keyH c then some (FV.int x.2.2) else a2z (r.map keyH) (r.map fun c=>FV.int c.2.2) (keyH c))=_
  rcases List.mem_cons.mp hc with rfl | hc
  ·rw [if_pos rfl]
  ·rw [if_neg fun e:keyH x=keyH c=>hn.1 (by rw [e]; exact List.mem_map.mpr ⟨c,hc,rfl⟩)]
   exact b7y hn.2 hc
theorem b3i (ws:List Int) (cs:List Chg) (Q:List FV→Prop):wp (a3b (c3q ws cs)) Q↔Q [.tup (ws.map .int),.tup (cs.map c3r)]:=Iff.rfl
theorem a1n {xs:List Int} {i:Nat} (h:i < xs.length) (Q:FV→Prop):wp (atF (xs.map .int) (i:Int)) Q↔Q (.int (xs.getD i 0)) :=
 a2i rfl (by rw [List.getElem?_map,List.getElem?_eq_getElem h]; simp [List.getD,h])
theorem c2v {xs:List Int} (hl:xs.length≤1000) (h:∀ x∈xs,0≤x∧x < 2000000000) {Q:Int→Prop} (q:Q xs.sum):wp (c8j (xs.map .int)) Q:=by
 simp only [c8j,a3a,a2s,a1w]
 rw [a3v]
 refine ⟨⟨by simp only [big]; lia,?_⟩,q⟩
 rw [List.all_eq_true]
 intro x hx
 have:=h x hx
 simp only [a7r,decide_eq_true_eq]; lia
theorem c1g (ks:List Nat) (n:Nat):a3p ((List.range n).map fun i:Nat=>FV.int i) ((b7m ks n).map b1l)=(List.range n).map fun m:Nat=>FV.tup [.int (m:Int),b1l (if m∈ks then none else some (m - 1))]:=by
 rw [a2g]
 apply List.ext_getElem
 ·simp [b7m]
 ·intro i h1 h2
  simp [b7m]
structure Rw (ws ss:List Int) (ks:List Nat):Prop where
 hw:Szs ws
 hs:Szs ss
 hl:ss.length + 1=ws.length
 hn:ws.length≤30
 h0:0∈ks
 hc:ks.length≤30
 hp:ks.Pairwise (· < ·)
 hk:∀ k∈ks,k < ws.length
theorem b1j {xs:List Int} (h:Szs xs) {i:Nat} (hi:i < xs.length):1≤xs.getD i 0∧xs.getD i 0 < 2000000000:=by
 rw [List.getD,List.getElem?_eq_getElem hi]; exact h _ (List.getElem_mem hi)
theorem d6j {ws ss:List Int} {ks:List Nat} (h:Rw ws ss ks) {m:Nat} (hm:m < ws.length):1≤kp ws ss ks m∧kp ws ss ks m < 2000000000:=by
 unfold kp
 split
 ·exact b1j h.hw hm
 ·rename_i hk
  have:m≠0:=fun z=>hk (z ▸ h.h0)
  have:=h.hl
  exact b1j h.hs (by lia)
noncomputable def b4s (ks:List Nat) (n:Nat):FV:=.tup ((b7m ks n).map b1l)
theorem a4g (ks:List Nat) (n:Nat) (Q:List FV→Prop):wp (a3b (b4s ks n)) Q↔Q ((b7m ks n).map b1l):=Iff.rfl
theorem b3a (ks:List Nat) (n:Nat):(b7m ks n).length=n:=by simp [b7m]
theorem c3l (d:Nat) {ws ss:List Int} {ks:List Nat} (h:Rw ws ss ks) {Q:FV×FV→Prop} (q:Q (.lst (((List.range ws.length).map (kp ws ss ks)).map .int),.non)):callW tb (d + 2) 4 [c3q ws (b4b ss),b4s ks ws.length] Q:=by
 have hn:=h.hn
 have hl:=h.hl
 have hG:=c4p h.hw h.hs h.hl
 refine a0g (fd:=fd4) rfl rfl ?_
 simp [fd4,bd4]
 refine c0e d hG (by rw [c0j]; lia) ?_
 simp [a4g,b3a,b3i]
 rw [a1z,c1g]
 refine ⟨by simp [big]; lia,?_⟩
 refine a0s (g:=fun m=>.int (kp ws ss ks m)) (List.range ws.length) [] (fun m hm K k=>?_) ?_
 ·have hm:=List.mem_range.mp hm
  by_cases hk:m∈ks
  ·rw [kp,if_pos hk] at k
   simp [hk,b1l,b3i]
   rw [a1n hm]
   exact k
  ·rw [kp,if_neg hk] at k
   have m0:m≠0:=fun z=>hk (z ▸ h.h0)
   have mem:((m - 1,m,ss.getD (m - 1) 0):Chg)∈b4b ss:=List.mem_map.mpr ⟨m - 1,List.mem_range.mpr (by lia),by rw [show m - 1 + 1=m by lia]⟩
   have e:=b7y (a7c hG.s) mem
   simp only [keyH] at e
   simp [hk,b1l,big]
   rw [e]
   exact k
 ·simpa [List.map_map,Function.comp_def] using q
theorem c4q (d:Nat) {ws ss:List Int} {ks:List Nat} (h:Rw ws ss ks) {Q:FV×FV→Prop} (q:Q (.int ((List.range ws.length).map (kp ws ss ks)).sum,.non)):callW tb (d + 3) 5 [c3q ws (b4b ss),b4s ks ws.length] Q:=by
 have hn:=h.hn
 refine a0g (fd:=fd5) rfl rfl ?_
 simp [fd5,bd5]
 refine c3l d h ?_
 simp only [sq_l]
 refine c2v (by simp; lia) ?_ q
 intro x hx
 obtain ⟨m,hm,rfl⟩:=List.mem_map.mp hx
 have:=d6j h (List.mem_range.mp hm)
 lia
theorem b5k {ks:List Nat}:∀ {m i:Nat},i∈a4k ks m→i≤m
 | 0,i,h=>by simp [a4k] at h; lia
 | m + 1,i,h=>by
  unfold a4k at h
  split at h
  ·simp at h; lia
  ·rcases List.mem_append.mp h with h | h
   ·have:=b5k h; lia
   ·simp at h; lia
theorem b5l {ks:List Nat}:∀ m:Nat,(a4k ks m).length≤m + 1∧1≤(a4k ks m).length
 | 0=>by simp [a4k]
 | m + 1=>by
  unfold a4k
  split
  ·simp
  ·have:=b5l (ks:=ks) m; simp; lia
noncomputable def d8z (ks:List Nat) (m:Nat):FV:=.tup ((a4k ks m).map fun i:Nat=>.int i)
theorem c1x (ks:List Nat) (m:Nat) (Q:List FV→Prop):wp (a3b (d8z ks m)) Q↔Q ((a4k ks m).map fun i:Nat=>.int i):=Iff.rfl
theorem b9f {ks:List Nat} {n i:Nat} (h:i < n) (Q:FV→Prop):wp (atF ((b7m ks n).map b1l) (i:Int)) Q↔Q (b1l (if i∈ks then none else some (i - 1))) :=
 a2i rfl (by simp [b7m,h])
theorem c7z (d:Nat) {ks:List Nat} {n m:Nat} (hn:n≤30) (h0:0∈ks) (hm:m < n) {Q:FV×FV→Prop} (q:Q (d8z ks m,.non)):callW tb (d + 1) 6 [b4s ks n,.int m] Q:=by
 refine a0g (fd:=fd6) rfl rfl ?_
 simp [fd6,bd6,big,a4g]
 rw [b9f hm]
 -- out++the way of what is yet to come,read backwards
 refine while_by (I:=fun t L=>∃ (o:Option Nat) (out:List Nat),L=[some (b4s ks n),some (.int m),some (.lst (out.map fun i:Nat=>.int i)),some (b1l o)]∧out.length + t≤31∧(match o with | none=>a4k ks m=out.reverse | some p=>p < m∧t=p + 1∧a4k ks m=a4k ks p++out.reverse)) ?_ (m:=m) ⟨if m∈ks then none else some (m - 1),[m],rfl,by simp; lia,?_⟩
 ·rintro t L K ⟨o,out,rfl,hl,ho⟩ k
  cases o with
  | none =>
   dsimp only at ho
   simp [b1l]
   simpa [d8z,ho] using q
  | some p =>
   obtain ⟨hp,rfl,hw⟩:=ho
   simp [b1l,big,a4g]
   refine ⟨by lia,?_⟩
   rw [b9f (by lia)]
   by_cases hk:p∈ks
   ·refine k 0 _ (by lia) ⟨none,out++[p],by simp [hk],by simp; lia,?_⟩
    show a4k ks m=_
    rw [hw]
    cases p with
    | zero=>simp [a4k]
    | succ p=>simp [a4k,hk]
   ·have p0:p≠0:=fun z=>hk (z ▸ h0)
    obtain ⟨r,rfl⟩:∃ r,p=r + 1:=⟨p - 1,by lia⟩
    refine k (r + 1) _ (by lia) ⟨some r,out++[r + 1],by simp [hk],by simp; lia,by lia,rfl,?_⟩
    rw [hw]
    simp [a4k,hk]
 ·by_cases hk:m∈ks
  ·rw [if_pos hk]
   show a4k ks m=_
   cases m with
   | zero=>simp [a4k]
   | succ m=>simp [a4k,hk]
  ·have p0:m≠0:=fun z=>hk (z ▸ h0)
   obtain ⟨r,rfl⟩:∃ r,m=r + 1:=⟨m - 1,by lia⟩
   rw [if_neg hk]
   refine ⟨by lia,?_,?_⟩
   ·rfl
   ·simp [a4k,hk]
theorem c0k (d:Nat) {ws ss:List Int} {ks:List Nat} (h:Rw ws ss ks) {Q:FV×FV→Prop} (q:Q (.tup (((List.range ws.length).map (rd ws ss ks)).map .int),.non)):callW tb (d + 3) 7 [c3q ws (b4b ss),b4s ks ws.length] Q:=by
 have hn:=h.hn
 refine a0g (fd:=fd7) rfl rfl ?_
 simp [fd7,bd7]
 refine c3l d h ?_
 simp [a4g,b3a]
 refine ⟨a0j (by lia) (by lia),?_⟩
 rw [a1z]
 refine ⟨by simp [big]; lia,?_⟩
 refine a0s (f:=fun i:Nat=>FV.int i) (g:=fun m=>.int (rd ws ss ks m)) (List.range ws.length) [] (fun m hm K k=>?_) ?_
 ·have hm:=List.mem_range.mp hm
  have hwl:=(b5l (ks:=ks) m).1
  simp
  refine c7z (d + 1) h.hn h.h0 hm ?_
  simp [c1x]
  refine ⟨by simp [big]; lia,?_⟩
  refine a0s (f:=fun i:Nat=>FV.int i) (g:=fun i=>.int (kp ws ss ks i)) (a4k ks m) [] (fun i hi K k=>?_) ?_
  ·have hi:=b5k hi
   simp
   rw [a2i rfl (show ((List.range ws.length).map (FV.int ∘ kp ws ss ks))[i]?=some (.int (kp ws ss ks i)) by simp [show i < ws.length by lia])]
   exact k
  ·have e:((a4k ks m).map fun i=>FV.int (kp ws ss ks i))=((a4k ks m).map (kp ws ss ks)).map .int:=by simp
   rw [List.nil_append,e]
   rw [a2s,a1w]
   exact k
 ·simpa [List.map_map,Function.comp_def] using q
noncomputable def a4z (ws ss:List Int):FV:=.tup [.tup (ws.map .int),.tup (ss.map .int)]
theorem a1f (ws ss:List Int) (Q:List FV→Prop):wp (a3b (a4z ws ss)) Q↔Q [.tup (ws.map .int),.tup (ss.map .int)]:=Iff.rfl
noncomputable def b3j (ks:List Nat):FV:=.tup (ks.map fun i:Nat=>.int i)
theorem c0i (d:Nat) {ws ss:List Int} {ks:List Nat} (h:Rw ws ss ks) {Q:FV×FV→Prop} (q:Q (.int ((List.range ws.length).map (kp ws ss ks)).sum,.non)):callW tb (d + 4) 11 [a4z ws ss,b3j ks] Q:=by
 have hn:=h.hn
 have hl:=h.hl
 refine a0g (fd:=d8t) rfl rfl ?_
 simp [d8t,d3s]
 refine a9b (d + 2) (by lia) ?_
 dsimp only
 refine b6g (d + 2) h.hn h.h0 ?_
 dsimp only
 exact c4q d h q
theorem b6f (d:Nat) {ws ss:List Int} {ks:List Nat} (h:Rw ws ss ks) {Q:FV×FV→Prop} (q:Q (.tup (((List.range ws.length).map (rd ws ss ks)).map .int),.non)):callW tb (d + 4) 12 [a4z ws ss,b3j ks] Q:=by
 have hn:=h.hn
 have hl:=h.hl
 refine a0g (fd:=d8s) rfl rfl ?_
 simp [d8s,d3r]
 refine a9b (d + 2) (by lia) ?_
 dsimp only
 refine b6g (d + 2) h.hn h.h0 ?_
 dsimp only
 exact c0k d h q
noncomputable def deps' (ks:List Nat) (n:Nat):List Int:=(List.range n).map fun m=>((a4k ks m).length:Int) - 1
noncomputable def mx (xs:List Int):Int:=c1c (xs.headD 0) xs.tail
theorem c2w:∀ {xs:List Int},(∀ x∈xs,0≤x∧x≤2000000000)→0≤xs.sum∧xs.sum≤2000000000 * xs.length
 | [],_=>by simp
 | x :: r,h=>by
  have:=c2w fun y hy=>h y (List.mem_cons_of_mem _ hy)
  have:=h x (by simp)
  simp only [List.sum_cons,List.length_cons,Int.natCast_add]
  lia
noncomputable def nxt (n:Nat):List Nat→Nat
 | []=>n
 | k :: _=>k
noncomputable def vp (ok:Nat→Nat→Bool) (n:Nat):List Nat→Prop
 | []=>True
 | k :: r=>k < nxt n r∧ok k (nxt n r)=true∧vp ok n r
noncomputable def pc (c:Nat→Nat→Int) (n:Nat):List Nat→Int
 | []=>0
 | k :: r=>c k (nxt n r) + pc c n r
noncomputable def lxN:List Nat→List Nat→Bool
 | [],[]=>false
 | [],_ :: _=>true
 | _ :: _,[]=>false
 | a :: r,b :: q=>if a=b then lxN r q else decide (a < b)
abbrev PT:=Int×List Nat
noncomputable def ltP (x y:PT):Bool:=if x.1=y.1 then lxN x.2 y.2 else decide (x.1 < y.1)
theorem b1d:∀ a:List Nat,lxN a a=false
 | []=>rfl
 | a :: r=>by simp [lxN,b1d r]
theorem a9m:∀ {a b c:List Nat},lxN a b=true→lxN b c=true→lxN a c=true
 | [],[],_,h,_=>by cases h
 | [],b :: q,[],_,h=>by cases h
 | [],b :: q,c :: s,_,_=>rfl
 | a :: r,[],_,h,_=>by cases h
 | a :: r,b :: q,[],_,h=>by cases h
 | a :: r,b :: q,c :: s,h,g=>by
  simp only [lxN] at h g ⊢
  by_cases e1:a=b
  ·subst e1
   rw [if_pos rfl] at h
   by_cases e2:a=c
   ·subst e2; rw [if_pos rfl] at g ⊢; exact a9m h g
   ·rw [if_neg e2] at g ⊢; exact g
  ·rw [if_neg e1] at h
   have h:=of_decide_eq_true h
   by_cases e2:b=c
   ·subst e2; rw [if_neg e1]; exact decide_eq_true h
   ·rw [if_neg e2] at g
    have g:=of_decide_eq_true g
    rw [if_neg (by lia)]; exact decide_eq_true (by lia)
theorem b7h:∀ {a b:List Nat},lxN a b=false→lxN b a=false→a=b
 | [],[],_,_=>rfl
 | [],b :: q,h,_=>by cases h
 | a :: r,[],_,h=>by cases h
 | a :: r,b :: q,h,g=>by
  simp only [lxN] at h g
  by_cases e:a=b
  ·subst e
   rw [if_pos rfl] at h g
   rw [b7h h g]
  ·rw [if_neg e] at h
   rw [if_neg (Ne.symm e)] at g
   have h:=of_decide_eq_false h
   have g:=of_decide_eq_false g
   lia
theorem b1f (a:PT):ltP a a=false:=by simp [ltP,b1d]
theorem a9n {a b c:PT} (h:ltP a b=true) (g:ltP b c=true):ltP a c=true:=by
 simp only [ltP] at h g ⊢
 by_cases e1:a.1=b.1
 ·rw [if_pos e1] at h
  by_cases e2:b.1=c.1
  ·rw [if_pos e2] at g; rw [if_pos (e1.trans e2)]; exact a9m h g
  ·rw [if_neg e2] at g
   have g:=of_decide_eq_true g
   rw [if_neg (by lia)]; exact decide_eq_true (by lia)
 ·rw [if_neg e1] at h
  have h:=of_decide_eq_true h
  by_cases e2:b.1=c.1
  ·rw [if_neg (by lia)]; exact decide_eq_true (by lia)
  ·rw [if_neg e2] at g
   have g:=of_decide_eq_true g
   rw [if_neg (by lia)]; exact decide_eq_true (by lia)
theorem b1e {a b:PT} (h:ltP a b=false) (g:ltP b a=false):a=b:=by
 simp only [ltP] at h g
 by_cases e1:a.1=b.1
 ·rw [if_pos e1] at h; rw [if_pos e1.symm] at g
  exact Prod.ext e1 (b7h h g)
 ·rw [if_neg e1] at h; rw [if_neg (Ne.symm e1)] at g
  have h:=of_decide_eq_false h
  have g:=of_decide_eq_false g
  lia
theorem a5s {a b c:PT} (h:ltP b a=false) (g:ltP c b=false):ltP c a=false:=by
 cases e:ltP c a with
 | false=>rfl
 | true =>
  cases e2:ltP a b with
  | true=>rw [a9n e e2] at g; cases g
  | false=>rw [b1e e2 h,g] at e; cases e
theorem c6c {a b:PT} (h:ltP b a=false):a.1≤b.1:=by
 simp only [ltP] at h
 by_cases e:b.1=a.1
 ·lia
 ·rw [if_neg e] at h
  have:=of_decide_eq_false h
  lia
theorem b2v {c:Int} {i:Nat} {x y:PT}:ltP (c + x.1,i :: x.2) (c + y.1,i :: y.2)=ltP x y:=by
 simp only [ltP,lxN,if_true]
 by_cases e:x.1=y.1
 ·rw [if_pos e,if_pos (by lia)]
 ·rw [if_neg e,if_neg (by lia)]
  congr 1
  exact propext ⟨fun h=>by lia,fun h=>by lia⟩
theorem a8e {α:Type} (lt:α→α→Bool):∀ (xs:List α) (b:α),a0x lt b xs∈b :: xs
 | [],b=>by simp [a0x]
 | x :: r,b=>by
  have:=a8e lt r (if lt x b=true then x else b)
  show a0x lt (if lt x b=true then x else b) r∈_
  split at this <;> rename_i h
  ·rw [if_pos h]; exact List.mem_cons_of_mem _ this
  ·rw [if_neg h]
   rcases List.mem_cons.mp this with e | e
   ·rw [e]; simp
   ·exact List.mem_cons_of_mem _ (List.mem_cons_of_mem _ e)
theorem a8d:∀ (xs:List PT) (b:PT),∀ x∈b :: xs,ltP x (a0x ltP b xs)=false
 | [],b,x,h=>by
  rcases List.mem_cons.mp h with rfl | h
  ·exact b1f _
  ·cases h
 | y :: r,b,x,h=>by
  show ltP x (a0x ltP (if ltP y b=true then y else b) r)=false
  have ih:=a8d r (if ltP y b=true then y else b)
  have h0:=ih _ List.mem_cons_self
  rcases List.mem_cons.mp h with rfl | h
  ·by_cases e:ltP y x=true
   ·rw [if_pos e] at h0 ⊢
    refine a5s h0 ?_
    cases e2:ltP x y with
    | false=>rfl
    | true=>have:=a9n e e2; rw [b1f] at this; cases this
   ·rw [if_neg e] at h0 ⊢; exact h0
  ·rcases List.mem_cons.mp h with rfl | h
   ·by_cases e:ltP x b=true
    ·rw [if_pos e] at h0 ⊢; exact h0
    ·rw [if_neg e] at h0 ⊢
     exact a5s h0 (by simpa using e)
   ·exact ih x (List.mem_cons_of_mem _ h)
noncomputable def Bst (ok:Nat→Nat→Bool) (c:Nat→Nat→Int) (n i:Nat):Option PT→Prop
 | some p=>p.1=pc c n p.2∧nxt n p.2=i∧vp ok n p.2∧∀ ks,nxt n ks=i→vp ok n ks→ltP (pc c n ks,ks) p=false
 | none=>∀ ks,nxt n ks=i→¬ vp ok n ks
section
variable {ok ok':Nat→Nat→Bool} {c:Nat→Nat→Int} {n:Nat}
theorem Bst.uniq {i:Nat} {o o':Option PT} (h:Bst ok c n i o) (h':Bst ok c n i o'):o=o':=by
 cases o with
 | none =>
  cases o' with
  | none=>rfl
  | some p=>exact absurd h'.2.2.1 (h _ h'.2.1)
 | some p =>
  cases o' with
  | none=>exact absurd h.2.2.1 (h' _ h.2.1)
  | some q =>
   have a:=h.2.2.2 q.2 h'.2.1 h'.2.2.1
   have b:=h'.2.2.2 p.2 h.2.1 h.2.2.1
   rw [← h'.1] at a
   rw [← h.1] at b
   exact congrArg some (b1e b a)
theorem b5n:∀ {ks:List Nat},vp ok n ks→(∀ k∈ks,k < n)∧ks.Pairwise (· < ·)∧∀ k∈ks,nxt n ks≤k
 | [],_=>by simp
 | k :: r,h=>by
  obtain ⟨h1,h2,h3⟩:=h
  obtain ⟨a,b,d⟩:=b5n h3
  have hk:k < n:=by
   cases r with
   | nil=>exact h1
   | cons x q=>have:=a x (by simp); simp [nxt] at h1; lia
  refine ⟨fun x hx=>?_,List.pairwise_cons.mpr ⟨fun x hx=>?_,b⟩,fun x hx=>?_⟩
  ·rcases List.mem_cons.mp hx with rfl | hx
   ·exact hk
   ·exact a x hx
  ·have:=d x hx; lia
  ·show k≤x
   rcases List.mem_cons.mp hx with rfl | hx
   ·exact Nat.le_refl _
   ·have:=d x hx; lia
theorem b2p {ks:List Nat} (h:vp ok n ks):nxt n ks≤n:=by
 cases ks with
 | nil=>exact Nat.le_refl _
 | cons k r=>exact Nat.le_of_lt ((b5n h).1 k (by simp))
theorem a6u:∀ {ks:List Nat},vp ok n ks→ks.length + nxt n ks≤n
 | [],_=>by simp [nxt]
 | k :: r,⟨h1,_,h3⟩=>by
  have:=a6u h3
  show r.length + 1 + k≤n
  lia
theorem b1t:Bst ok c n n (some (0,[])):=by
 refine ⟨rfl,rfl,trivial,fun ks h1 h2=>?_⟩
 cases ks with
 | nil=>exact b1f _
 | cons k r=>have:=(b5n h2).1 k (by simp); simp [nxt] at h1; lia
theorem c2m {i:Nat} (hi:i < n) (h:∀ e,i < e→e≤n→ok i e=true→Bst ok c n e none):Bst ok c n i none:=by
 intro ks h1 h2
 cases ks with
 | nil=>simp [nxt] at h1; lia
 | cons k r =>
  cases (show k=i from h1)
  exact h _ h2.1 (b2p h2.2.2) h2.2.1 r rfl h2.2.2
theorem b3t {i:Nat} {B:Nat→Option PT} (hi:i < n) (hB:∀ e,i < e→e≤n→Bst ok c n e (B e)) {p:PT} (hp:∃ e,i < e∧e≤n∧ok i e=true∧∃ q,B e=some q∧p=(c i e + q.1,i :: q.2))
  (hl:∀ e q,i < e→e≤n→ok i e=true→B e=some q→ltP (c i e + q.1,i :: q.2) p=false):Bst ok c n i (some p):=by
 obtain ⟨e,h1,h2,h3,q,hq,rfl⟩:=hp
 have b:=hB e h1 h2
 rw [hq] at b
 obtain ⟨b1,b2,b3,b4⟩:=b
 refine ⟨?_,rfl,⟨by rw [b2]; exact h1,by rw [b2]; exact h3,b3⟩,fun ks k1 k2=>?_⟩
 ·show c i e + q.1=c i (nxt n q.2) + pc c n q.2
  rw [b2,b1]
 ·cases ks with
  | nil=>simp [nxt] at k1; lia
  | cons k r =>
   cases (show k=i from k1)
   obtain ⟨k3,k4,k5⟩:=k2
   have hn:=b2p k5
   have b':=hB (nxt n r) k3 hn
   cases e2:B (nxt n r) with
   | none=>rw [e2] at b'; exact absurd k5 (b' r rfl)
   | some q' =>
    rw [e2] at b'
    have l1:=hl _ q' k3 hn k4 e2
    have l2:=b'.2.2.2 r rfl k5
    refine a5s l1 ?_
    show ltP (c i (nxt n r) + (pc c n r,r).1,i :: (pc c n r,r).2) (c i (nxt n r) + q'.1,i :: q'.2)=false
    rw [b2v]; exact l2
end
section
variable {ok:Nat→Nat→Bool} {c:Nat→Nat→Int} {n:Nat} {B:Nat→Option PT}
theorem d1v {i:Nat} (hi:i < n) (hB:∀ e,i < e→e≤n→Bst ok c n e (B e)):∃ o,Bst ok c n i o:=by
 obtain ⟨ps,hps⟩:∃ ps,ps=((List.range' (i + 1) (n - i)).filter fun e=>ok i e).filterMap fun e=>(B e).map fun q:PT=>(c i e + q.1,i :: q.2):=⟨_,rfl⟩
 have hin:∀ p,p∈ps↔∃ e,i < e∧e≤n∧ok i e=true∧∃ q,B e=some q∧p=(c i e + q.1,i :: q.2):=by
  intro p
  rw [hps,List.mem_filterMap]
  constructor
  ·rintro ⟨e,he,h2⟩
   obtain ⟨q,hq,rfl⟩:=Option.map_eq_some_iff.mp h2
   obtain ⟨h3,h4⟩:=List.mem_filter.mp he
   have:=List.mem_range'_1.mp h3
   exact ⟨e,by lia,by lia,h4,q,hq,rfl⟩
  ·rintro ⟨e,h1,h2,h3,q,hq,rfl⟩
   exact ⟨e,List.mem_filter.mpr ⟨List.mem_range'_1.mpr (by lia),h3⟩,by rw [hq]; rfl⟩
 cases ps with
 | nil =>
  refine ⟨none,c2m hi fun e h1 h2 h3=>?_⟩
  cases hBe:B e with
  | none=>have:=hB e h1 h2; rw [hBe] at this; exact this
  | some p=>exact absurd ((hin _).mpr ⟨e,h1,h2,h3,p,hBe,rfl⟩) (by simp)
 | cons p0 pr =>
  refine ⟨some (a0x ltP p0 pr),b3t hi hB ((hin _).mp (a8e ltP pr p0)) fun e q h1 h2 h3 h4=>?_⟩
  exact a8d pr p0 _ ((hin _).mpr ⟨e,h1,h2,h3,q,h4,rfl⟩)
theorem c2l {i:Nat} {p:PT} (hi:i < n) (hB:∀ e,i≤e→e≤n→Bst ok c n e (B e)) (hp:B i=some p):∃ r,p.2=i :: r∧i < nxt n r∧nxt n r≤n∧ok i (nxt n r)=true∧B (nxt n r)=some (pc c n r,r)∧p.1=c i (nxt n r) + pc c n r:=by
 have b:=hB i (Nat.le_refl _) (by lia)
 rw [hp] at b
 obtain ⟨b1,b2,b3,b4⟩:=b
 obtain ⟨t,ks⟩:=p
 cases ks with
 | nil=>have:n=i:=b2; lia
 | cons k r =>
  cases (show k=i from b2)
  obtain ⟨v1,v2,v3⟩:=b3
  have hn:=b2p v3
  refine ⟨r,rfl,v1,hn,v2,?_,b1⟩
  have b':=hB (nxt n r) (by lia) hn
  cases e2:B (nxt n r) with
  | none=>rw [e2] at b'; exact absurd v3 (b' r rfl)
  | some q =>
   rw [e2] at b'
   obtain ⟨d1,d2,d3,d4⟩:=b'
   have l1:=d4 r rfl v3
   have l2:=b4 (i :: q.2) rfl ⟨by rw [d2]; exact v1,by rw [d2]; exact v2,d3⟩
   have e3:(pc c n (i :: q.2),i :: q.2)=(c i (nxt n r) + q.1,i :: q.2):=by show (c i (nxt n q.2) + pc c n q.2,_)=_; rw [d2,d1]
   have e4:((t,i :: r):PT)=(c i (nxt n r) + (pc c n r,r).1,i :: (pc c n r,r).2):=by rw [show t=pc c n (i :: r) from b1]; rfl
   rw [e3,e4,b2v] at l2
   exact congrArg some (b1e l2 l1)
theorem c7i {i e:Nat} {p q:PT} (hB:∀ e,i≤e→e≤n→Bst ok c n e (B e)) (hp:B i=some p) (h1:i < e) (h2:e≤n) (h3:ok i e=true) (hq:B e=some q):ltP (c i e + q.1,i :: q.2) p=false:=by
 have b:=hB i (Nat.le_refl _) (by lia)
 rw [hp] at b
 have b':=hB e (by lia) h2
 rw [hq] at b'
 obtain ⟨d1,d2,d3,_⟩:=b'
 have l:=b.2.2.2 (i :: q.2) rfl ⟨by rw [d2]; exact h1,by rw [d2]; exact h3,d3⟩
 have e3:(pc c n (i :: q.2),i :: q.2)=(c i e + q.1,i :: q.2):=by show (c i (nxt n q.2) + pc c n q.2,_)=_; rw [d2,d1]
 rw [e3] at l; exact l
end
theorem b0y (c:Nat→Nat→Int) (n:Nat):∀ ks:List Nat,pc c n ks=((a3z ks n).map fun p=>c p.1 p.2).sum
 | []=>rfl
 | [k]=>rfl
 | k :: k2 :: r=>by
  have e:a3z (k :: k2 :: r) n=(k,k2) :: a3z (k2 :: r) n:=by simp [a3z]
  show c k k2 + pc c n (k2 :: r)=_
  rw [b0y c n (k2 :: r),e]; rfl
theorem b5m (ok:Nat→Nat→Bool) (n:Nat):∀ ks:List Nat,vp ok n ks↔∀ p∈a3z ks n,p.1 < p.2∧ok p.1 p.2=true
 | []=>by simp [vp,a3z]
 | [k]=>by simp [vp,a3z,nxt]
 | k :: k2 :: r=>by
  have e:a3z (k :: k2 :: r) n=(k,k2) :: a3z (k2 :: r) n:=by simp [a3z]
  rw [e]
  have ih:=b5m ok n (k2 :: r)
  constructor
  ·rintro ⟨h1,h2,h3⟩ p hp
   rcases List.mem_cons.mp hp with rfl | hp
   ·exact ⟨h1,h2⟩
   ·exact ih.mp h3 p hp
  ·intro h
   have h0:=h (k,k2) (by simp)
   exact ⟨h0.1,h0.2,ih.mpr fun p hp=>h p (List.mem_cons_of_mem _ hp)⟩
theorem a7k (ok:Nat→Nat→Bool) (c:Nat→Nat→Int) (n:Nat):∀ t,t≤n→∃ B:Nat→Option PT,∀ e,n - t≤e→e≤n→Bst ok c n e (B e)
 | 0,_=>⟨fun _=>some (0,[]),fun e h1 h2=>by
  have:e=n:=by lia
  subst this; exact b1t⟩
 | t + 1,ht=>by
  obtain ⟨B,hB⟩:=a7k ok c n t (by lia)
  obtain ⟨o,ho⟩:=d1v (ok:=ok) (c:=c) (n:=n) (i:=n - (t + 1)) (B:=B) (by lia) fun e h1 h2=>hB e (by lia) h2
  refine ⟨fun e=>if e=n - (t + 1) then o else B e,fun e h1 h2=>?_⟩
  by_cases z:e=n - (t + 1)
  ·simp only [z,if_true]; exact ho
  ·simp only [z,if_false]; exact hB e (by lia) h2
theorem c2p {ok:Nat→Nat→Bool} {n:Nat} (h:∀ i,i < n→ok i (i + 1)=true):∀ t,t≤n→vp ok n (List.range' (n - t) t)∧nxt n (List.range' (n - t) t)=n - t
 | 0,_=>⟨trivial,by simp [nxt]⟩
 | t + 1,ht=>by
  obtain ⟨a,b⟩:=c2p h t (by lia)
  rw [show n - (t + 1)=n - t - 1 by lia,List.range'_succ,show n - t - 1 + 1=n - t by lia]
  refine ⟨⟨by rw [b]; lia,?_,a⟩,rfl⟩
  rw [b]
  have:=h (n - t - 1) (by lia)
  rwa [show n - t - 1 + 1=n - t by lia] at this
structure Rwo (ws ss:List Int):Prop where
 hw:Szs ws
 hs:Szs ss
 hl:ss.length + 1=ws.length
 hn:ws.length≤30
theorem b5z {ws ss:List Int} (h:Rwo ws ss) {b e:Nat} (hb:b < ws.length):1≤a4l ws ss b e∧a4l ws ss b e≤100000000000:=by
 have h1:=c2w (xs:=(ss.drop b).take (e - 1 - b)) fun x hx=>by
  have:=h.hs x (List.mem_of_mem_drop (List.mem_of_mem_take hx))
  lia
 have h2:=b1j h.hw hb
 have h3:((ss.drop b).take (e - 1 - b)).length≤ss.length:=by simp; lia
 have:=h.hl
 have:=h.hn
 unfold a4l
 lia
theorem c4j (d:Nat) {ws ss:List Int} (h:Rwo ws ss) {b e:Nat} (hb:b < ws.length) (he:b < e) {i:Int} (hi:i=e) {Q:FV×FV→Prop} (q:Q (.int (a4l ws ss b e),.non)):callW tb (d + 1) 13 [a4z ws ss,.int b,.int i] Q:=by
 subst hi
 have hn:=h.hn
 have hl:=h.hl
 refine a0g (fd:=d8r) rfl rfl ?_
 simp [d8r,e0g,a4z]
 rw [a1n hb]
 have e1:(e:Int) - 1=((e - 1:Nat):Int):=by lia
 simp
 rw [e1,b8x _ (show b≤e - 1 by lia),← List.map_drop,← List.map_take]
 refine c2v (by simp; lia) ?_ ?_
 ·intro x hx
  have:=h.hs x (List.mem_of_mem_drop (List.mem_of_mem_take hx))
  lia
 ·simpa [a4l] using q
noncomputable def a6d (p:PT):FV:=.tup [.int p.1,.tup (p.2.map fun i:Nat=>.int i)]
noncomputable def encO:Option PT→FV
 | none=>.non
 | some p=>a6d p
theorem c6v (n:Nat) (hn:1 < n) (ks:List Nat):fD n (.tup (ks.map fun i:Nat=>.int i))=some (.tup (ks.map fun i:Nat=>.int i)):=by
 obtain ⟨m,rfl⟩:∃ m,n=m + 2:=⟨n - 2,by lia⟩
 have:a5p (fD (m + 1)) (ks.map fun i:Nat=>FV.int i)=some (ks.map fun i:Nat=>D.int i):=by
  induction ks with
  | nil=>rfl
  | cons k r ih =>
   show ((some (D.int k)).bind fun y=>(a5p (fD (m + 1)) (r.map fun i:Nat=>FV.int i)).map (y :: ·))=_
   rw [ih]; rfl
 show (a5p (fD (m + 1)) (ks.map fun i:Nat=>FV.int i)).map D.tup=_
 rw [this]; rfl
theorem a9w:∀ a b:List Nat,D.eqvs (a.map fun i:Nat=>.int i) (b.map fun i:Nat=>.int i)=decide (a=b)
 | [],[]=>by simp [D.eqvs]
 | [],b :: q=>by simp [D.eqvs]
 | a :: r,[]=>by simp [D.eqvs]
 | a :: r,b :: q=>by
  simp only [List.map_cons,D.eqvs,D.eqv,a9w r q]
  by_cases h:a=b
  ·subst h; simp
  ·have:¬ (a:Int)=(b:Int):=by lia
   simp [h,this]
theorem a9o:∀ a b:List Nat,b9o (a.map fun i:Nat=>.int i) (b.map fun i:Nat=>.int i)=some (lxN a b)
 | [],[]=>by simp [b9o,lxN]
 | [],b :: q=>by simp [b9o,lxN]
 | a :: r,[]=>by simp [b9o,lxN]
 | a :: r,b :: q=>by
  simp only [List.map_cons,b9o,D.eqv,lxN,ltD,a9o r q]
  by_cases h:a=b
  ·subst h; simp
  ·have:¬ (a:Int)=(b:Int):=by lia
   simp [h,this]
noncomputable def b8g (p:PT):D:=.tup [.int p.1,.tup (p.2.map fun i:Nat=>.int i)]
theorem c7a (p:PT):fD a0l (a6d p)=some (b8g p):=by
 have:=c6v 39 (by decide) p.2
 show ((some (D.int p.1)).bind fun y=>((fD 39 (FV.tup (p.2.map fun i:Nat=>.int i))).bind fun z=>(some []).map (z :: ·)).map (y :: ·)).map D.tup=_
 rw [this]; rfl
theorem c6z (a b:PT):ltD (b8g a) (b8g b)=some (ltP a b):=by
 simp only [b8g,ltD,b9o,D.eqv,a9w,a9o,ltP]
 by_cases e:a.1=b.1
 ·rw [if_pos e,if_pos (by simpa using e)]
  by_cases e2:a.2=b.2
  ·rw [e2,if_pos (by simp),b1d]
  ·rw [if_neg (by simpa using e2)]
 ·rw [if_neg e,if_neg (by simpa using e)]
theorem minP (p:PT) (r:List PT) (Q:FV→Prop):wp (b4e (.lst ((p :: r).map a6d))) Q↔Q (a6d (a0x ltP p r)):=c5x a6d b8g ltP c7a c6z (fun a ps z=>nomatch z) p r Q
theorem b5d {κ α:Type} [DecidableEq κ] {k:κ} {v:α}:∀ (r:List κ) (q:List α),r.length=q.length→k ∉ r→List.zipWith (fun k' v'=>if k'=k then v else v') r q=q
 | [],[],_,_=>rfl
 | [],a :: b,h,_=>by simp at h
 | a :: b,[],h,_=>by simp at h
 | a :: b,a' :: b',h,hr=>by
  have h1:¬ a=k:=fun z=>hr (by simp [z])
  rw [List.zipWith_cons_cons,if_neg h1,b5d b b' (by simpa using h) fun z=>hr (List.mem_cons_of_mem _ z)]
theorem b3f {κ α:Type} [DecidableEq κ]:∀ {ks:List κ} {vs:List α} (k:κ) (v:α) (j:κ),ks.length=vs.length→a2z (a3d ks vs k v).1 (a3d ks vs k v).2 j=if j=k then some v else a2z ks vs j:=by
 have go1:∀ {ks:List κ} {vs:List α} (k:κ) (v:α) (j:κ),ks.length=vs.length→k∈ks→a2z ks (List.zipWith (fun k' v'=>if k'=k then v else v') ks vs) j=if j=k then some v else a2z ks vs j:=by
  intro ks
  induction ks with
  | nil=>intro vs k v j _ h; simp at h
  | cons x r ih =>
   intro vs k v j hl hk
   cases vs with
   | nil=>simp at hl
   | cons y q =>
    simp only [List.zipWith_cons_cons,a2z]
    by_cases e:x=j
    ·subst e
     by_cases e2:x=k
     ·subst e2; simp
     ·simp [e2]
    ·rw [if_neg e,if_neg e]
     by_cases hr:k∈r
     ·exact ih k v j (by simpa using hl) hr
     ·have hx:k=x:=by simpa [hr] using hk
      subst hx
      have:=b5d (k:=k) (v:=v) r q (by simpa using hl) hr
      rw [this,if_neg (Ne.symm e)]
 have go2:∀ {ks:List κ} {vs:List α} (k:κ) (v:α) (j:κ),ks.length=vs.length→k ∉ ks→a2z (ks++[k]) (vs++[v]) j=if j=k then some v else a2z ks vs j:=by
  intro ks
  induction ks with
  | nil =>
   intro vs k v j hl _
   have:vs=[]:=by cases vs with | nil=>rfl | cons=>simp at hl
   subst this
   simp only [List.nil_append,a2z]
   by_cases e:k=j
   ·subst e; simp
   ·simp [e,Ne.symm e]
  | cons x r ih =>
   intro vs k v j hl hk
   cases vs with
   | nil=>simp at hl
   | cons y q =>
    simp only [List.cons_append,a2z]
    by_cases e:x=j
    ·subst e
     have:¬ x=k:=fun z=>hk (by simp [z])
     simp [this]
    ·rw [if_neg e,if_neg e]
     exact ih k v j (by simpa using hl) fun z=>hk (List.mem_cons_of_mem _ z)
 intro ks vs k v j hl
 unfold a3d
 by_cases e:k∈ks
 ·rw [if_pos e]; exact go1 k v j hl e
 ·rw [if_neg e]; exact go2 k v j hl e
theorem a9q:∀ (xs:List Int) (b:Int),a1g b xs∈b :: xs
 | [],b=>by simp [a1g]
 | x :: r,b=>by
  have:=a9q r (if x < b then x else b)
  show a1g (if x < b then x else b) r∈_
  split at this <;> rename_i h
  ·rw [if_pos h]; exact List.mem_cons_of_mem _ this
  ·rw [if_neg h]
   rcases List.mem_cons.mp this with e | e
   ·rw [e]; simp
   ·exact List.mem_cons_of_mem _ (List.mem_cons_of_mem _ e)
theorem a5q:∀ (xs:List Int) (b:Int),a1g b xs≤b∧∀ x∈xs,a1g b xs≤x
 | [],b=>⟨Int.le_refl _,by simp⟩
 | x :: r,b=>by
  have:=a5q r (if x < b then x else b)
  show a1g (if x < b then x else b) r≤b∧∀ y∈x :: r,a1g (if x < b then x else b) r≤y
  refine ⟨by have:=this.1; split at this <;> lia,fun y hy=>?_⟩
  rcases List.mem_cons.mp hy with rfl | hy
  ·have:=this.1; split at this <;> lia
  ·exact this.2 y hy
theorem c7k (xs:List FV) (v:FV) (Q:FV→Prop):wp (atF (xs++[v]) (-1)) Q↔Q v:=by
 have:ixN (xs++[v]).length (-1)=some xs.length:=by
  simp only [ixN,List.length_append,List.length_cons,List.length_nil]
  rw [if_neg (by decide),if_pos (by lia)]
  congr 1; lia
 unfold atF
 rw [this]
 simp
structure Ask (n:Nat) (as:List Int) (r:Int):Prop where
 len:as.length=n
 a:∀ x∈as,0≤x∧x≤2000000000
 r0:0≤r
 r1:r≤2000000000
noncomputable def b9i (ws ss as:List Int) (i e:Nat):Int:=((List.range' i (e - i)).map fun m=>as.getD m 0 * a4l ws ss i (m + 1)).sum
noncomputable def sc (ws ss as:List Int) (r:Int) (i e:Nat):Int:=r * a4l ws ss i e + b9i ws ss as i e
theorem a6c (ws ss as:List Int) (i:Nat):b9i ws ss as i i=0:=by simp [b9i]
theorem a3h (ws ss as:List Int) {i e:Nat} (h:i≤e):b9i ws ss as i (e + 1)=b9i ws ss as i e + as.getD e 0 * a4l ws ss i (e + 1):=by
 unfold b9i
 rw [show e + 1 - i=(e - i) + 1 by lia,List.range'_concat,List.map_append,List.sum_append]
 simp [show i + (e - i)=e by lia]
theorem a8z {ws ss:List Int} {i e:Nat} (h:i < e) (he:e≤ss.length):a4l ws ss i (e + 1)=a4l ws ss i e + ss.getD (e - 1) 0:=by
 obtain ⟨t,rfl⟩:∃ t,e=i + t + 1:=⟨e - i - 1,by lia⟩
 unfold a4l
 rw [show i + t + 1 + 1 - 1 - i=t + 1 by lia,show i + t + 1 - 1 - i=t by lia,show i + t + 1 - 1=i + t by lia]
 rw [List.take_succ_eq_append_getElem (by simp; lia),List.sum_append]
 simp [List.getD,show i + t < ss.length by lia]
 lia
theorem b2g (ws ss:List Int) (i:Nat):a4l ws ss i (i + 1)=ws.getD i 0:=by simp [a4l]
theorem c8q (ws ss as:List Int) (r:Int) (i:Nat):sc ws ss as r i (i + 1)=(r + as.getD i 0) * ws.getD i 0:=by
 rw [sc,a3h _ _ _ (Nat.le_refl _),a6c,b2g,Int.add_mul,Int.zero_add]
theorem c4o {ws ss as:List Int} {r:Int} {i e:Nat} (h:i < e) (he:e≤ss.length):sc ws ss as r i (e + 1)=sc ws ss as r i e + r * ss.getD (e - 1) 0 + as.getD e 0 * a4l ws ss i (e + 1):=by
 rw [sc,a3h _ _ _ (Nat.le_of_lt h),sc,a8z h he,Int.mul_add]
 lia
theorem b0l {n:Nat} {as:List Int} {r:Int} (h:Ask n as r) {i:Nat} (hi:i < n):0≤as.getD i 0∧as.getD i 0≤2000000000:=by
 rw [List.getD,List.getElem?_eq_getElem (by rw [h.len]; exact hi)]
 exact h.a _ (List.getElem_mem _)
theorem b7e {a b A B:Int} (h1:0≤a) (h2:a≤A) (h3:0≤b) (h4:b≤B):0≤a * b∧a * b≤A * B:=by
 refine ⟨Int.mul_nonneg h1 h3,?_⟩
 have h5:=Int.mul_le_mul_of_nonneg_right h2 h3
 have h6:=Int.mul_le_mul_of_nonneg_left h4 (show 0≤A by lia)
 lia
theorem b9h {ws ss as:List Int} {r:Int} (h:Rwo ws ss) (ha:Ask ws.length as r) {i:Nat} (hi:i < ws.length):∀ t,i + t≤ws.length→0≤b9i ws ss as i (i + t)∧b9i ws ss as i (i + t)≤200000000000000000000 * (t:Int)
 | 0,_=>by rw [Nat.add_zero,a6c]; simp
 | t + 1,ht=>by
  have ih:=b9h h ha hi t (by lia)
  rw [show i + (t + 1)=(i + t) + 1 by lia,a3h _ _ _ (by lia)]
  have h1:=b0l ha (show i + t < ws.length by lia)
  have h2:=b5z h hi (e:=i + t + 1)
  have h3:=b7e h1.1 h1.2 (show 0≤a4l ws ss i (i + t + 1) by lia) h2.2
  lia
theorem d4q {ws ss as:List Int} {r:Int} (h:Rwo ws ss) (ha:Ask ws.length as r) {i e:Nat} (hi:i < e) (he:e≤ws.length):0≤sc ws ss as r i e∧sc ws ss as r i e≤10000000000000000000000:=by
 have hn:=h.hn
 have h1:=b9h h ha (show i < ws.length by lia) (e - i) (by lia)
 rw [show i + (e - i)=e by lia] at h1
 have h2:=b5z h (show i < ws.length by lia) (e:=e)
 have h3:=b7e ha.r0 ha.r1 (show 0≤a4l ws ss i e by lia) h2.2
 unfold sc
 lia
theorem c8o {ok:Nat→Nat→Bool} {ws ss as:List Int} {r:Int} (h:Rwo ws ss) (ha:Ask ws.length as r):∀ {ks:List Nat},vp ok ws.length ks→0≤pc (sc ws ss as r) ws.length ks∧pc (sc ws ss as r) ws.length ks≤10000000000000000000000 * (ks.length:Int)
 | [],_=>by simp [pc]
 | k :: q,hk=>by
  have h1:=c8o h ha hk.2.2
  have h2:=d4q h ha hk.1 (b2p hk.2.2)
  show 0≤sc ws ss as r k (nxt ws.length q) + pc (sc ws ss as r) ws.length q∧sc ws ss as r k (nxt ws.length q) + pc (sc ws ss as r) ws.length q≤10000000000000000000000 * ((q.length + 1:Nat):Int)
  lia
noncomputable def okT:Nat→Nat→Bool:=fun _ _=>true
theorem c0z {c:Nat→Nat→Int} {n i:Nat} (hi:i≤n) {o:Option PT} (h:Bst okT c n i o):∃ p,o=some p:=by
 cases o with
 | some p=>exact ⟨p,rfl⟩
 | none =>
  have:=c2p (ok:=okT) (n:=n) (fun i _=>rfl) (n - i) (by lia)
  rw [show n - (n - i)=i by lia] at this
  exact absurd this.1 (h _ this.2)
theorem c5t (c:Nat→Nat→Int) (n:Nat):∃ P:Nat→PT,∀ j,j≤n→Bst okT c n j (some (P j)):=by
 obtain ⟨B,hB⟩:=a7k okT c n n (Nat.le_refl _)
 have:∀ j,∃ p:PT,j≤n→B j=some p:=fun j=>by
  by_cases hj:j≤n
  ·obtain ⟨p,hp⟩:=c0z hj (hB j (by lia) hj)
   exact ⟨p,fun _=>hp⟩
  ·exact ⟨(0,[]),fun z=>absurd z hj⟩
 obtain ⟨P,hP⟩:=Classical.axiomOfChoice this
 exact ⟨P,fun j hj=>by have:=hB j (by lia) hj; rwa [hP j hj] at this⟩
noncomputable def a9x (as:List Int):FV:=.tup (as.map .int)
theorem a5f (as:List Int) (Q:List FV→Prop):wp (a3b (a9x as)) Q↔Q (as.map .int):=Iff.rfl
theorem a3u {α:Type}:∀ xs:List α,xs.zip xs=xs.map fun x=>(x,x)
 | []=>rfl
 | x :: r=>by simp [a3u r]
theorem b2i (d:Nat) {ws ss as:List Int} {r:Int} (h:Rwo ws ss) (ha:Ask ws.length as r) {i:Nat} (hi:i < ws.length) {Q:FV×FV→Prop} (q:Q (.lst ((List.range' (i + 1) (ws.length - i)).map fun e=>.int (sc ws ss as r i e)),.non)):callW tb (d + 2) 17 [a4z ws ss,a9x as,.int r,.int i] Q:=by
 have hn:=h.hn
 have r0:=ha.r0
 have r1:=ha.r1
 refine a0g (fd:=d8n) rfl rfl ?_
 simp [d8n,e0e,a1f]
 refine ⟨⟨a0j (by lia) (by lia),a0j (by lia) (by lia)⟩,?_⟩
 refine a2h (I:=fun j L=>∃ a b,L=[some (a4z ws ss),some (a9x as),some (.int r),some (.int i),some (.lst ((List.range' (i + 1) (j - i)).map fun e=>.int (sc ws ss as r i e))),some (.int (b9i ws ss as i j)),a,b]) (ws.length - i) i _ ⟨none,none,by simp [a6c]⟩ ?_ ?_
 ·rintro j L K h1 h2 ⟨a,b,rfl⟩ k
  have hj:j < ws.length:=by lia
  simp
  refine c4j d h hi (e:=j + 1) (by lia) (by lia) ?_
  simp [a5f]
  rw [a1n (by rw [ha.len]; exact hj)]
  have g1:0≤as[j]?.getD 0∧as[j]?.getD 0≤2000000000:=b0l ha hj
  simp [big]
  refine ⟨.inl (a1u (by lia) (by lia)),.inl (a1u (by lia) (by lia)),by lia,?_⟩
  refine k _ ?_
  rw [show j + 1 - i=(j - i) + 1 by lia,List.range'_concat,List.map_append,a3h _ _ _ h1]
  refine ⟨some (.int j),some (.int (a4l ws ss i (j + 1))),?_⟩
  rw [show [i + 1 + 1 * (j - i)].map (fun e=>FV.int (sc ws ss as r i e))=[FV.int (r * a4l ws ss i (j + 1) + (b9i ws ss as i j + as.getD j 0 * a4l ws ss i (j + 1)))] by
   rw [show i + 1 + 1 * (j - i)=j + 1 by lia]; simp only [List.map_cons,List.map_nil,sc,a3h _ _ _ h1]]
  rfl
 ·rintro L ⟨a,b,rfl⟩
  simp
  exact q
theorem b3s (d:Nat) {ws ss as:List Int} {r:Int} (h:Rwo ws ss) (ha:Ask ws.length as r) {P:Nat→PT} (hP:∀ j,j≤ws.length→Bst okT (sc ws ss as r) ws.length j (some (P j))) {Q:FV×FV→Prop} (q:Q (.lst ((List.range (ws.length + 1)).map fun j=>a6d (P j)),.non)):callW tb (d + 3) 16 [a4z ws ss,a9x as,.int r] Q:=by
 have hn:=h.hn
 refine a0g (fd:=d8o) rfl rfl ?_
 simp [d8o,e0f,a1f,big]
 refine ⟨a0j (by lia) (by lia),?_⟩
 rw [b3m]
 have pn:P ws.length=(0,[]):=Option.some.inj ((hP ws.length (Nat.le_refl _)).uniq b1t)
 refine a8m (f:=fun i:Nat=>FV.int i) (I:=fun ds L=>∃ (i:Nat) (a b c:Option FV),L=[some (a4z ws ss),some (a9x as),some (.int r),some (.lst ((List.range' i (ws.length + 1 - i)).map fun j=>a6d (P j))),a,b,c]∧i + ds.length=ws.length) (List.range ws.length).reverse (List.range ws.length).reverse [] _ rfl ⟨ws.length,none,none,none,by rw [show ws.length + 1 - ws.length=1 by lia]; simp [a6d,pn],rfl⟩ ?_ ?_
 ·rintro ds x q' L K e ⟨i,a,b,c,rfl,hi⟩ k
  have hx:x + 1=i:=by
   have e2:=congrArg (fun l=>l[ds.length]?) e
   have hd:ds.length < ws.length:=by have:=congrArg List.length e; simp at this; lia
   simp [List.getElem?_reverse,hd] at e2
   lia
  subst hx
  have hxn:x < ws.length:=by lia
  simp
  refine b2i d h ha hxn ?_
  simp
  rw [a2g,a3u,List.map_map]
  refine ⟨by simp [big]; lia,?_⟩
  refine a0s (f:=(fun p:Nat×Nat=>FV.tup [FV.int (sc ws ss as r x p.1),a6d (P p.2)]) ∘ fun x=>(x,x)) (g:=fun e=>a6d (sc ws ss as r x e + (P e).1,x :: (P e).2)) _ [] (fun e he K2 k2=>?_) ?_
  ·have he:=List.mem_range'_1.mp he
   have hl:(P e).2.length≤30:=by
    have:=a6u (hP e (by lia)).2.2.1
    lia
   simp [a6d,big]
   refine ⟨by lia,?_⟩
   simpa [a6d] using k2
  ·obtain ⟨t,ht⟩:∃ t,ws.length - x=t + 1:=⟨ws.length - x - 1,by lia⟩
   obtain ⟨p0,pr,hpl⟩:∃ p0 pr,(List.range' (x + 1) (ws.length - x)).map (fun e=>(sc ws ss as r x e + (P e).1,x :: (P e).2))=p0 :: pr:=by
    rw [ht,List.range'_succ,List.map_cons]; exact ⟨_,_,rfl⟩
   have hm:(List.range' (x + 1) (ws.length - x)).map (fun e=>a6d (sc ws ss as r x e + (P e).1,x :: (P e).2))=(p0 :: pr).map a6d:=by
    rw [← hpl,List.map_map]; rfl
   have hin:∀ p,p∈p0 :: pr↔∃ e,x < e∧e≤ws.length∧p=(sc ws ss as r x e + (P e).1,x :: (P e).2):=fun p=>by
    rw [← hpl,List.mem_map]
    constructor
    ·rintro ⟨e,h1,rfl⟩; have:=List.mem_range'_1.mp h1; exact ⟨e,by lia,by lia,rfl⟩
    ·rintro ⟨e,h1,h2,rfl⟩; exact ⟨e,List.mem_range'_1.mpr (by lia),rfl⟩
   have hmin:a0x ltP p0 pr=P x:=by
    obtain ⟨e,h1,h2,h3⟩:=(hin _).mp (a8e ltP pr p0)
    have:=b3t (ok:=okT) (c:=sc ws ss as r) (n:=ws.length) (i:=x) (B:=fun e=>some (P e)) (p:=a0x ltP p0 pr) hxn (fun e _ h2=>hP e h2) ⟨e,h1,h2,rfl,_,rfl,h3⟩ fun e' q2 h4 h5 _ h6=>by
     cases h6
     exact a8d pr p0 _ ((hin _).mpr ⟨e',h4,h5,rfl⟩)
    exact Option.some.inj (this.uniq (hP x (by lia)))
   rw [List.nil_append,hm]
   simp only [List.set_cons_succ,List.set_cons_zero,lk_z,lk_s,a1w]
   rw [minP,hmin]
   simp [big]
   refine ⟨by lia,?_⟩
   refine k _ ⟨x,some (.int x),some (.lst ((List.range' (x + 1) (ws.length - x)).map fun e=>.int (sc ws ss as r x e))),some (.lst ((p0 :: pr).map a6d)),?_,by simp; lia⟩
   rw [show ws.length + 1 - x=(ws.length - x) + 1 by lia,List.range'_succ]
   simp
 ·rintro L ⟨i,a,b,c,rfl,hi⟩
  have hi0:i=0:=by simp at hi; lia
  subst hi0
  simp
  rw [List.range_eq_range'] at q
  exact q
theorem c5y (d:Nat) {ws ss as:List Int} {r:Int} (h:Rwo ws ss) (ha:Ask ws.length as r) {P:Nat→PT} (hP:∀ j,j≤ws.length→Bst okT (sc ws ss as r) ws.length j (some (P j))) {Q:FV×FV→Prop} (q:Q (a6d (P 0),.non)):callW tb (d + 4) 14 [a4z ws ss,a9x as,.int r] Q:=by
 refine a0g (fd:=d8q) rfl rfl ?_
 simp [d8q,d3q]
 refine b3s d h ha hP ?_
 simp
 rw [a2i (i:=0) (n:=0) rfl (show ((List.range (ws.length + 1)).map fun j=>a6d (P j))[0]?=some (a6d (P 0)) by simp)]
 exact q
theorem c5w {xs:List Int} {x:Int} {r:List Int} (h:xs=x :: r) (Q:FV→Prop):wp (d0j (xs.map .int)) Q↔Q (.int (a1g x r)):=by
 subst h
 simp only [d0j,a2s,Option.bind_some]; rfl
theorem c3w {b n:Nat} (h:b < n) {i j:Int} (hi:i=((b + 1:Nat):Int)) (hj:j=(n:Int) + 1):upF i (j - i).toNat=(List.range' (b + 1) (n - b)).map fun i:Nat=>FV.int i:=by
 subst hi hj
 rw [show ((n:Int) + 1 - ((b + 1:Nat):Int)).toNat=n - b by lia]; exact b5o _ _
theorem c7m (d:Nat) {n:Int} {v:FV} {m:Nat} {Q:FV×FV→Prop} (hs:Lf n v) (h0:0≤n) (hn:n < 10000) (hm:m≤30) (q:∀ (as:List Int) (r:Int) v',Ask m as r→Lf (n + 70) v'→Q (.tup [a9x as,.int r],v')):callW tb (d + 3) 30 [v,.int m] Q:=by
 refine a0g (fd:=d8e) rfl rfl ?_
 simp [d8e,d9w,big]
 refine ⟨by decide,?_⟩
 refine a0m (d + 1) hs (by lia) (by decide) (by decide) fun u v1 u0 u1 l1=>?_
 simp
 refine a4y u0 u1 fun f hf=>?_
 obtain ⟨M,rfl,M0,M1⟩:∃ M:Int,f=.int M∧0 < M∧M≤1000000001:=by
  simp at hf
  rcases hf with rfl | rfl | rfl | rfl | rfl <;> exact ⟨_,rfl,by decide,by decide⟩
 refine a0m (d + 1) l1 (by lia) (by decide) (by decide) fun c v2 c0 c1 l2=>?_
 simp
 refine ⟨a0j (by lia) (by lia),?_⟩
 rw [a1z]
 refine ⟨by simp; lia,?_⟩
 refine a2n (f:=fun i:Nat=>FV.int i) (I:=fun ds acc L=>∃ (v':FV) (xs:List Int),L=[some v',some (.int m),some (.int M),some (.int c),none,none]∧acc=xs.map .int∧xs.length=ds.length∧(∀ x∈xs,0≤x∧x≤2000000000)∧Lf (n + 2 + 2 * ds.length) v') (List.range m) (List.range m) [] [] _ rfl ⟨v2,[],rfl,rfl,rfl,by simp,l2.mono (by simp; lia)⟩ ?_ ?_
 ·rintro ds x r acc L K e ⟨v',xs,rfl,rfl,hl,hx,lf⟩ k
  have hd:ds.length < 30:=by have:=congrArg List.length e; simp at this; lia
  simp
  refine a0m (d + 1) lf (by lia) M0 (by lia) fun a v3 a0 a1 l3=>?_
  simp
  refine a0m (d + 1) l3 (by lia) (by decide) (by decide) fun b v4 b0 b1 l4=>?_
  simp
  refine ⟨.inl (a1u (by lia) (by lia)),?_⟩
  have hab:=b7e a0 (show a≤1000000000 by lia) b0 (show b≤2 by lia)
  refine k _ _ ⟨v4,xs++[a * b / 2],rfl,by simp,by simp [hl],?_,l4.mono (by simp; lia)⟩
  intro y hy
  rcases List.mem_append.mp hy with hy | hy
  ·exact hx y hy
  ·simp at hy; subst hy; lia
 ·rintro ys L ⟨v',xs,rfl,rfl,hl,hx,lf⟩
  simp only [List.length_range] at hl lf
  simp
  refine a0m (d + 1) lf (by lia) (by decide) (by decide) fun a v3 a0 a1 l3=>?_
  simp
  refine ⟨by decide,?_⟩
  refine a0m (d + 1) l3 (by lia) (by decide) (by decide) fun b v4 b0 b1 l4=>?_
  simp [big]
  refine a4y c0 c1 fun f hf=>?_
  obtain ⟨r,rfl,r0,r1⟩:∃ r:Int,f=.int r∧0≤r∧r≤1000000001:=by
   simp at hf
   rcases hf with rfl | rfl | rfl | rfl | rfl
   ·exact ⟨_,rfl,by decide,by decide⟩
   ·exact ⟨_,rfl,by decide,by decide⟩
   ·exact ⟨_,rfl,by lia,by lia⟩
   ·exact ⟨_,rfl,by lia,by lia⟩
   ·exact ⟨_,rfl,by decide,by decide⟩
  exact q xs r v4 ⟨hl,hx,r0,by lia⟩ (l4.mono (by lia))
structure Cst (c:Nat→Nat→Int) (n:Nat) (ks:List (List Int)) (vs:List FV):Prop where
 at':∀ b e:Nat,b < e→e≤n→a2z ks vs [(b:Int),(e:Int)]=some (.int (c b e))
theorem c2f (d:Nat) {ws ss as:List Int} {r:Int} (h:Rwo ws ss) (ha:Ask ws.length as r) {Q:FV×FV→Prop} (q:∀ ks vs,Cst (sc ws ss as r) ws.length ks vs→Q (.dct ks vs,.non)):callW tb (d + 1) 31 [a4z ws ss,a9x as,.int r] Q:=by
 have hn:=h.hn
 have hl:=h.hl
 have r0:=ha.r0
 have r1:=ha.r1
 refine a0g (fd:=d8d) rfl rfl ?_
 simp [d8d,d9v,a1f]
 refine ⟨a0j (by lia) (by lia),?_⟩
 refine a2h (I:=fun i L=>∃ (ks:List (List Int)) (vs:List FV) (a b c e f:Option FV),L=[some (a4z ws ss),some (a9x as),some (.int r),some (.int ws.length),some (.dct ks vs),a,b,c,e,f]∧ks.length=vs.length∧ks.length≤31 * i∧∀ b' e':Nat,b' < i→b' < e'→e'≤ws.length→a2z ks vs [(b':Int),(e':Int)]=some (.int (sc ws ss as r b' e'))) ws.length 0 _ ⟨[],[],_,_,_,_,_,rfl,rfl,by simp,fun b' e' h1=>by lia⟩ ?_ ?_
 ·rintro i L K - hi ⟨ks,vs,a,b,c,e,f,rfl,hkl,hkb,hg⟩ k
  have hi:i < ws.length:=by lia
  simp [a1f]
  rw [a1n hi]
  simp [a5f]
  rw [a1n (by rw [ha.len]; exact hi)]
  have g1:0≤as[i]?.getD 0∧as[i]?.getD 0≤2000000000:=b0l ha hi
  simp [big]
  refine ⟨.inl (a1u (by lia) (by lia)),by lia,⟨a0j (by lia) (by lia),a0j (by lia) (by lia)⟩,?_⟩
  rw [show (r + as[i]?.getD 0) * ws[i]?.getD 0=sc ws ss as r i (i + 1) from (c8q ws ss as r i).symm,show ws[i]?.getD 0=a4l ws ss i (i + 1) from (b2g ws ss i).symm]
  have pl:=a4b ks vs [(i:Int),(i:Int) + 1] (.int (sc ws ss as r i (i + 1))) hkl
  rw [show (i:Int) + 1=((i + 1:Nat):Int) by lia] at *
  refine a2h (I:=fun j L=>∃ (ks:List (List Int)) (vs:List FV) (e f:Option FV),L=[some (a4z ws ss),some (a9x as),some (.int r),some (.int ws.length),some (.dct ks vs),some (.int i),some (.int (a4l ws ss i j)),some (.int (sc ws ss as r i j)),e,f]∧ks.length=vs.length∧ks.length≤31 * i + (j - i)∧i < j∧∀ b' e':Nat,(b' < i∧e'≤ws.length ∨ b'=i∧e'≤j)→b' < e'→a2z ks vs [(b':Int),(e':Int)]=some (.int (sc ws ss as r b' e'))) _ (i + 1) _ ⟨_,_,e,f,rfl,pl.1,by lia,by lia,fun b' e' h1 h2=>?_⟩ ?_ ?_
  ·rw [b3f _ _ _ hkl]
   by_cases z:b'=i
   ·have:e'=i + 1:=by lia
    subst z this
    rw [if_pos rfl]
   ·rw [if_neg (by simp; lia)]
    exact hg b' e' (by lia) h2 (by lia)
  ·rintro j L K2 h1 h2 ⟨ks,vs,e,f,rfl,hkl,hkb,hij,hg⟩ k2
   have hj:j < ws.length:=by lia
   simp [a1f]
   rw [a2i (i:=(j:Int) - 1) (n:=j - 1) (by lia) (show (ss.map FV.int)[j - 1]?=some (.int (ss.getD (j - 1) 0)) by rw [List.getElem?_map,List.getElem?_eq_getElem (by lia)]; simp [List.getD,show j - 1 < ss.length by lia])]
   simp [a5f]
   rw [a1n (by rw [ha.len]; exact hj)]
   have g1:0≤as[j]?.getD 0∧as[j]?.getD 0≤2000000000:=b0l ha hj
   have e1:a4l ws ss i j + ss[j - 1]?.getD 0=a4l ws ss i (j + 1):=(a8z hij (by lia)).symm
   have e2:sc ws ss as r i j + r * ss[j - 1]?.getD 0 + as[j]?.getD 0 * a4l ws ss i (j + 1)=sc ws ss as r i (j + 1):=(c4o hij (by lia)).symm
   simp [big]
   rw [e1,e2]
   refine ⟨.inl (a1u (by lia) (by lia)),.inl (a1u (by lia) (by lia)),by lia,?_⟩
   have pl:=a4b ks vs [(i:Int),(j:Int) + 1] (.int (sc ws ss as r i (j + 1))) hkl
   refine k2 _ ⟨_,_,_,_,rfl,pl.1,by lia,by lia,fun b' e' h3 h4=>?_⟩
   rw [b3f _ _ _ hkl]
   by_cases z:b'=i∧e'=j + 1
   ·obtain ⟨rfl,rfl⟩:=z
    rw [if_pos (by simp)]
   ·rw [if_neg (by simp; lia)]
    exact hg b' e' (by lia) h4
  ·rintro L ⟨ks,vs,e,f,rfl,hkl,hkb,hij,hg⟩
   refine k _ ⟨ks,vs,_,_,_,_,_,rfl,hkl,by lia,fun b' e' h1 h2 h3=>hg b' e' ?_ h2⟩
   lia
 ·rintro L ⟨ks,vs,a,b,c,e,f,rfl,hkl,hkb,hg⟩
  simp
  exact q ks vs ⟨fun b' e' h1 h2=>hg b' e' (by lia) h1 h2⟩
theorem b7f {c:Nat→Nat→Int} {n x:Nat} {P:Nat→PT} (hx:x < n) (hP:∀ j,j≤n→Bst okT c n j (some (P j))) {t:Int} {tr:List Int} (h:(List.range' (x + 1) (n - x)).map (fun e=>c x e + (P e).1)=t :: tr):a1g t tr=(P x).1:=by
 have hin:∀ y,y∈t :: tr↔∃ e,x < e∧e≤n∧y=c x e + (P e).1:=fun y=>by
  rw [← h,List.mem_map]
  constructor
  ·rintro ⟨e,h1,rfl⟩; have:=List.mem_range'_1.mp h1; exact ⟨e,by lia,by lia,rfl⟩
  ·rintro ⟨e,h1,h2,rfl⟩; exact ⟨e,List.mem_range'_1.mpr (by lia),rfl⟩
 have hB:∀ e,x≤e→e≤n→Bst okT c n e ((fun e=>some (P e)) e):=fun e _ h2=>hP e h2
 obtain ⟨e,h1,h2,h3⟩:=(hin _).mp (a9q tr t)
 have l1:=c6c (c7i (B:=fun e=>some (P e)) hB rfl h1 h2 rfl rfl)
 obtain ⟨r,f0,f1,f2,f3,f4,f5⟩:=c2l (B:=fun e=>some (P e)) hx hB rfl
 have l2:=(hin _).mpr ⟨_,f1,f2,rfl⟩
 have l3:a1g t tr≤c x (nxt n r) + (P (nxt n r)).1:=by
  rcases List.mem_cons.mp l2 with z | z
  ·rw [z]; exact (a5q tr t).1
  ·exact (a5q tr t).2 _ z
 have f4:P (nxt n r)=(pc c n r,r):=Option.some.inj f4
 rw [f4] at l3
 have l1:(P x).1≤c x e + (P e).1:=l1
 have l3:a1g t tr≤c x (nxt n r) + pc c n r:=l3
 lia
noncomputable def c6y (P:Nat→PT) (n:Nat):FV:=.tup ((List.range (n + 1)).map fun j=>.int (P j).1)
theorem b9r (ks:List Nat) (n:Nat):a3p (ks.map fun i:Nat=>FV.int i) ((ks.map fun i:Nat=>FV.int i).tail++[.int n])=(a3z ks n).map fun p=>FV.tup [.int p.1,.int p.2]:=by
 have:(ks.map fun i:Nat=>FV.int i).tail++[.int (n:Int)]=(ks.drop 1++[n]).map fun i:Nat=>FV.int i:=by simp
 rw [this,a2g,a3z]
theorem cut1 (xs:List FV):a5g xs (some 1) none=xs.drop 1:=by simpa using a4i xs 1
theorem Vl.big {i:Int} (h:-(2 ^ 150) < i) (h':i < 2 ^ 150):Vl 151 0 (.int i):=⟨.int i,rfl,Nat.le_refl _,by simp only [D.fit,decide_eq_true_eq]; lia,by simp only [D.wt]; split <;> lia⟩
noncomputable def Na:Nat→Int | 0=>2 | k + 1=>4 + 3 * Na k
noncomputable def Wa:Nat→Nat | 0=>100 | k + 1=>3 * (Wa k + 1) + 100
theorem c3v:∀ k,2≤Na k
 | 0=>by simp [Na]
 | k + 1=>by have:=c3v k; simp only [Na]; lia
noncomputable def someD:List D:=[.non,.bl true,.bl false,.int 0,.int 1,.int (-1),.int 2,.int 7,.str "",.str "keep",.str "put",.tup [],.lst [],.tup [.int 0],.lst [.int 0],.tup [.int 0,.int 1],.tup [.non],.tup [.str "keep",.int 0,.int 1]]
noncomputable def c4b:FV→Nat | .tup xs=>xs.length | .lst xs=>xs.length | _=>0
noncomputable def b9y:D→Nat | .tup xs=>xs.length | .lst xs=>xs.length | _=>0
theorem b5u (x:D):c4b (dF x)=b9y x:=by cases x <;> simp [dF,c4b,b9y,a1d]
theorem c4m:∀ x∈someD.map dF,Vl 100 1 x∧c4b x≤3:=fun x hx=>by
 refine ⟨Vl.of someD (by nofun) x hx,?_⟩
 obtain ⟨y,hy,rfl⟩:=List.mem_map.mp hx
 rw [b5u]
 have:∀ y∈someD,b9y y≤3:=by
  intro y hy
  simp [someD] at hy
  rcases hy with h | h | h | h | h | h | h | h | h | h | h | h | h | h | h | h | h | h <;> subst h <;> simp [b9y]
 exact this y hy
theorem b6b {v':FV} {j:Int} {Q:FV×FV→Prop} (h0:0≤j) (h1:j < 18) (q:∀ x,Vl 100 1 x∧c4b x≤3→Q (x,v')) :
  wp (atF [FV.non,FV.bl true,FV.bl false,FV.int 0,FV.int 1,FV.int (-1),FV.int 2,FV.int 7,FV.str "",FV.str "keep",FV.str "put",FV.tup [],FV.lst [],FV.tup [FV.int 0],FV.lst [FV.int 0],FV.tup [FV.int 0,FV.int 1],FV.tup [FV.non],FV.tup [FV.str "keep",FV.int 0,FV.int 1]] j) fun v=>Q (v,v') :=
 a4y (xs:=someD.map dF) h0 h1 fun x hx=>q x (c4m x hx)
theorem b9j (d:Nat):∀ (lv:Nat) {n:Int} {v:FV} {Q:FV×FV→Prop},Lf n v→0≤n→n + Na lv < 10000→(∀ x v',Vl (Wa lv) (lv + 2) x∧c4b x≤3→Lf (n + Na lv) v'→Q (x,v'))→callW tb (d + lv + 3) 28 [v,.int lv] Q
 | 0,n,v,Q,hs,h0,hn,q=>by
  refine a0g (fd:=d1a) rfl rfl ?_
  simp [d1a,d3l,big]
  simp only [Na] at hn
  refine a0m d hs (by lia) (by decide) (by decide) fun u v1 u0 u1 l1=>?_
  simp only [in_i]
  exact b6b u0 u1 fun x hx=>q x v1 ⟨hx.1.mono (by decide) (by lia),hx.2⟩ (l1.mono (by simp only [Na]; lia))
 | lv + 1,n,v,Q,hs,h0,hn,q=>by
  refine a0g (fd:=d1a) rfl rfl ?_
  have hz:¬ ((lv:Int) + 1=0):=by lia
  simp [d1a,d3l,big,hz]
  have hp:=c3v lv
  simp only [Na] at hn
  refine a0m (d + lv + 1) hs (by lia) (by decide) (by decide) fun u v1 u0 u1 l1=>?_
  simp
  refine ite2 (fun hu=>?_) (fun hu=>?_)
  ·refine a0m (d + lv + 1) l1 (by lia) (by decide) (by decide) fun u v2 u0 u1 l2=>?_
   simp only [in_i]
   exact b6b u0 u1 fun x hx=>q x v2 ⟨hx.1.mono (by simp only [Wa]; lia) (by lia),hx.2⟩ (l2.mono (by simp only [Na]; lia))
  ·refine a0m (d + lv + 1) l1 (by lia) (by decide) (by decide) fun u v2 u0 u1 l2=>?_
   simp
   refine ⟨a0j u0 (by lia),?_⟩
   rw [a1z]
   refine ⟨by simp; lia,?_⟩
   refine a2n (f:=fun i:Nat=>FV.int i) (I:=fun ds acc L=>∃ v',L=[some v',some (.int ((lv:Int) + 1)),some (.lst (someD.map dF)),none]∧Lf (n + 2 + Na lv * ds.length) v'∧acc.length=ds.length∧∀ x∈acc,Vl (Wa lv) (lv + 2) x) (List.range u.toNat) (List.range u.toNat) [] [] _ rfl ⟨v2,rfl,by simpa [Int.add_assoc] using l2,rfl,by simp⟩ ?_ ?_
   ·rintro ds x r acc L K e ⟨v',rfl,l3,hl,hv⟩ k
    have hd:ds.length≤3:=by have:=congrArg List.length e; simp at this; lia
    have hd':Na lv * ds.length + Na lv≤3 * Na lv:=by
     have:ds.length + 1≤3:=by have:=congrArg List.length e; simp at this; lia
     have:Na lv * (ds.length + 1:Nat)≤Na lv * (3:Nat):=Int.mul_le_mul_of_nonneg_left (by exact_mod_cast this) (by lia)
     push_cast at this; rw [Int.mul_add] at this; lia
    have hd0:0≤Na lv * ds.length:=Int.mul_nonneg (by lia) (by lia)
    simp
    refine b9j d lv l3 (by lia) (by lia) fun y v4 hy l4=>?_
    simp
    refine k _ _ ⟨v4,rfl,l4.mono (by simp [Int.mul_add]; lia),by simp [hl],?_⟩
    intro z hz
    simp at hz
    rcases hz with hz | hz
    ·exact hv z hz
    ·rw [hz]; exact hy.1
   ·rintro ys L ⟨v',rfl,l3,hl,hv⟩
    simp at hl hv
    rw [List.length_range] at l3
    have hu3:(u.toNat:Int)≤3:=by lia
    have hm:Na lv * (u.toNat:Int)≤Na lv * 3:=Int.mul_le_mul_of_nonneg_left hu3 (by lia)
    have hm0:0≤Na lv * (u.toNat:Int):=Int.mul_nonneg (by lia) (by lia)
    simp
    refine a0m (d + lv + 1) l3 (by lia) (by decide) (by decide) fun w v5 w0 w1 l5=>?_
    simp
    refine a4y w0 w1 ?_
    have hq:∀ x,Vl (Wa (lv + 1)) (lv + 1 + 2) x∧c4b x≤3→Q (x,v5):=fun x hx=>q x v5 hx (l5.mono (by simp only [Na]; lia))
    intro x hx
    simp at hx
    rcases hx with rfl | rfl
    ·exact hq _ ⟨(Vl.lst hv (show ys.length≤3 by lia)).mono (by simp only [Wa]; lia) (by lia),by show ys.length≤3; lia⟩
    ·exact hq _ ⟨(Vl.tup hv (show ys.length≤3 by lia)).mono (by simp only [Wa]; lia) (by lia),by show ys.length≤3; lia⟩
noncomputable def isI:D→Bool | .int _=>true | _=>false
noncomputable def a2k:D→Int | .int i=>i | _=>0
theorem a3r:∀ {ds:List D},ds.all isI=true→ds=(ds.map a2k).map .int
 | [],_=>rfl
 | x :: r,h=>by
  rw [List.all_cons,Bool.and_eq_true] at h
  cases x with
  | int i=>rw [List.map_cons,List.map_cons,← a3r h.2]; rfl
  | _=>exact absurd h.1 Bool.false_ne_true
theorem a3g (ns:List Int):(ns.map D.int).map dF=ns.map .int:=by rw [List.map_map]; rfl
theorem b3u (ds:List D):(ds.map isI).all id=ds.all isI:=by rw [List.all_map]; rfl
theorem noF {ds:List D}:ds.all isI=true↔¬ false∈ds.map isI:=by
 simp [List.all_eq_true]
theorem b2x (d:Nat) (ds:List D) (hl:ds.length≤1000) {Q:FV×FV→Prop} (q:Q (.bl (ds.all isI),.non)):callW tb (d + 1) 29 [.tup (ds.map dF)] Q:=by
 refine a0g (fd:=d0z) rfl rfl ?_
 simp [d0z,d1x,big]
 refine ⟨by lia,?_⟩
 refine a0s (f:=dF) (g:=fun x=>.bl (isI x)) ds [] (fun x hx K k=>?_) ?_
 ·cases x <;> simpa [dF,isI] using k
 ·rw [List.nil_append]
  simp only [a2o,a1w,b3u]
  exact q
theorem c1f (d:Nat) (ds:List D) (hl:ds.length≤1000) {Q:FV×FV→Prop} (q:Q (.bl (ds.all isI),.non)):callW tb (d + 1) 29 [.lst (ds.map dF)] Q:=by
 refine a0g (fd:=d0z) rfl rfl ?_
 simp [d0z,d1x,big]
 refine ⟨by lia,?_⟩
 refine a0s (f:=dF) (g:=fun x=>.bl (isI x)) ds [] (fun x hx K k=>?_) ?_
 ·cases x <;> simpa [dF,isI] using k
 ·rw [List.nil_append]
  simp only [a2o,a1w,b3u]
  exact q
theorem b0z (d:Nat) (x:D) (Q:FV×FV→Prop):callW tb (d + 1) 0 [dF x] Q↔Q (.bl (isI x),.non):=by
 rw [a8q (fd:=fd0) rfl rfl]
 cases x <;> simp [fd0,bd0,dF,isI]
theorem b5r (d:Nat) (x:D) (n:Nat) (Q:FV×FV→Prop):callW tb (d + 1) 1 [dF x,.int n] Q↔Q (.bl (match x with | .tup xs=>decide (xs.length=n) | _=>false),.non):=by
 rw [a8q (fd:=fd1) rfl rfl]
 have e:∀ a b:Nat,((a:Int) == (b:Int))=decide (a=b):=fun a b=>by
  rw [Bool.eq_iff_iff,beq_iff_eq,decide_eq_true_eq]; lia
 cases x <;> simp [fd1,bd1,dF,a1d,e]
theorem b6a (d:Nat) {ws ss as:List Int} {r:Int} (h:Rwo ws ss) (ha:Ask ws.length as r) {P:Nat→PT} (hP:∀ j,j≤ws.length→Bst okT (sc ws ss as r) ws.length j (some (P j))) {Q:FV×FV→Prop} (q:Q (c6y P ws.length,.non)):callW tb (d + 4) 15 [a4z ws ss,a9x as,.int r] Q:=by
 have hn:=h.hn
 refine a0g (fd:=d8p) rfl rfl ?_
 simp [d8p,d3p]
 refine b3s d h ha hP ?_
 simp
 refine ⟨by simp [big]; lia,?_⟩
 refine a0s (f:=fun j=>a6d (P j)) (g:=fun j=>.int (P j).1) (List.range (ws.length + 1)) [] (fun j hj K k=>?_) ?_
 ·simp [a6d]
  exact k
 ·simp
  exact q
noncomputable def KI (n:Nat) (js:List Int):Prop:=js.head?=some 0∧js.Pairwise (· < ·)∧∀ j∈js,j < n
noncomputable instance (n:Nat) (js:List Int):Decidable (KI n js):=Classical.propDecidable _
theorem KI.nat {n:Nat} {js:List Int} (h:KI n js):∃ ks:List Nat,js=ks.map (fun i:Nat=>(i:Int))∧0∈ks∧ks.Pairwise (· < ·)∧∀ k∈ks,k < n:=by
 obtain ⟨h1,h2,h3⟩:=h
 have h0:∀ j∈js,0≤j:=by
  cases js with
  | nil=>simp
  | cons a r =>
   simp at h1; subst h1
   intro j hj
   rcases List.mem_cons.mp hj with rfl | hj
   ·exact Int.le_refl _
   ·have:=(List.pairwise_cons.mp h2).1 j hj; lia
 have e:js=(js.map Int.toNat).map (fun i:Nat=>(i:Int)):=by
  rw [List.map_map]
  conv=>lhs; rw [← List.map_id js]
  apply List.map_congr_left
  intro j hj
  have:=h0 j hj
  simp; lia
 refine ⟨js.map Int.toNat,e,?_,?_,?_⟩
 ·cases js with
  | nil=>simp at h1
  | cons a r=>simp at h1; subst h1; simp
 ·rw [List.pairwise_map]
  refine List.Pairwise.imp_of_mem (fun {a b} ha hb hab=>?_) h2
  have:=h0 a ha; have:=h0 b hb; lia
 ·intro k hk
  obtain ⟨j,hj,rfl⟩:=List.mem_map.mp hk
  have:=h0 j hj; have:=h3 j hj; lia
noncomputable def kD (n:Nat):D→Option (List Nat)
 | .tup ds=>if ds.all isI=true∧KI n (ds.map a2k) then some ((ds.map a2k).map Int.toNat) else none
 | _=>none
theorem c6h {n:Nat} {y:D} {ks:List Nat} (h:kD n y=some ks):dF y=b3j ks∧0∈ks∧ks.Pairwise (· < ·)∧∀ k∈ks,k < n:=by
 cases y with
 | tup ds =>
  simp only [kD] at h
  split at h
  ·rename_i hh
   obtain ⟨ha,hk⟩:=hh
   cases h
   obtain ⟨ks,e,k1,k2,k3⟩:=hk.nat
   have e2:(ds.map a2k).map Int.toNat=ks:=by
    rw [e,List.map_map]
    conv=>rhs; rw [← List.map_id ks]
    apply List.map_congr_left
    intro j _; simp
   rw [e2]
   refine ⟨?_,k1,k2,k3⟩
   rw [dF,a1d,a3r ha,a3g,e,List.map_map]; rfl
  ·cases h
 | _=>cases h
noncomputable def mnL (c:Nat→Nat→Int) (n:Nat) (ts:List Int) (b:Nat):Int:=match (List.range' (b + 1) (n - b)).map (fun e=>c b e + ts.getD e 0) with
 | x :: r=>a1g x r
 | []=>0
theorem d0h {c:Nat→Nat→Int} {n:Nat} {ts:List Int} {b:Nat} (hb:b < n) (Q:FV→Prop):wp (d0j ((List.range' (b + 1) (n - b)).map fun e=>.int (c b e + ts.getD e 0))) Q↔Q (.int (mnL c n ts b)):=by
 obtain ⟨t,ht⟩:∃ t,n - b=t + 1:=⟨n - b - 1,by lia⟩
 obtain ⟨x,r,hx⟩:∃ x r,(List.range' (b + 1) (n - b)).map (fun e=>c b e + ts.getD e 0)=x :: r:=by rw [ht,List.range'_succ]; exact ⟨_,_,rfl⟩
 rw [show (List.range' (b + 1) (n - b)).map (fun e=>FV.int (c b e + ts.getD e 0))=((List.range' (b + 1) (n - b)).map fun e=>c b e + ts.getD e 0).map .int by simp,c5w hx]
 unfold mnL
 rw [hx]
noncomputable def TI (c:Nat→Nat→Int) (n:Nat) (ts:List Int):Prop:=ts.length=n + 1∧ts.getD n 0=0∧∀ b,b < n→ts.getD b 0=mnL c n ts b
noncomputable instance (c:Nat→Nat→Int) (n:Nat) (ts:List Int):Decidable (TI c n ts):=Classical.propDecidable _
noncomputable def tD (c:Nat→Nat→Int) (n:Nat):D→Option (List Int)
 | .tup ds=>if ds.all isI=true∧TI c n (ds.map a2k) then some (ds.map a2k) else none
 | _=>none
theorem c4e {c:Nat→Nat→Int} {n:Nat} {z:D} {ts:List Int} (h:tD c n z=some ts):z=.tup (ts.map .int)∧TI c n ts:=by
 cases z with
 | tup ds =>
  simp only [tD] at h
  split at h
  ·rename_i hh
   cases h
   exact ⟨by rw [← a3r hh.1],hh.2⟩
  ·cases h
 | _=>cases h
noncomputable def okS (c:Nat→Nat→Int) (n:Nat) (x y z:D):Bool:=isI x && (match kD n y,tD c n z with
 | some ks,some ts=>decide (pc c n ks=a2k x) && decide (ts.getD 0 0=a2k x)
 | _,_=>false)
theorem b7k {α:Type} (r:Int) (f g:α→Int):∀ l:List α,r * (l.map f).sum + (l.map g).sum=(l.map fun p=>r * f p + g p).sum
 | []=>by simp
 | x :: l=>by
  have:=b7k r f g l
  simp only [List.map_cons,List.sum_cons]
  rw [Int.mul_add]; lia
theorem c6g {ws ss as:List Int} {r:Int} {ks:List Nat} (hl:ss.length + 1=ws.length) (h0:0∈ks) (hs:ks.Pairwise (· < ·)) (hk:∀ x∈ks,x < ws.length):r * ((List.range ws.length).map (kp ws ss ks)).sum + ((List.range ws.length).map fun m=>as.getD m 0 * rd ws ss ks m).sum=pc (sc ws ss as r) ws.length ks:=by
 rw [b0y,c4r hl h0 hs hk,← a6v _ h0 hs hk,a8o,b7k]
 congr 1
 apply List.map_congr_left
 intro p hp
 rw [sc,b9i]
 congr 2
 apply List.map_congr_left
 intro m hm
 have hm:=List.mem_range'_1.mp hm
 rw [c8v hl h0 hs hk hp hm.1 (by obtain ⟨_,b,_⟩:=a4o hs hk p hp; lia)]
noncomputable def isM (n:Nat) (x:D):Bool:=isI x && decide (0≤a2k x∧a2k x < n)
theorem c6l (d:Nat) (x:D) (n:Nat) {Q:FV×FV→Prop} (q:Q (.bl (isM n x),.non)):callW tb (d + 2) 2 [dF x,.int n] Q:=by
 refine a0g (fd:=fd2) rfl rfl ?_
 simp [fd2,bd2]
 rw [b0z]
 cases x with
 | int i =>
  simp [isI,dF]
  simp [isM,isI,a2k] at q
  by_cases h1:0≤i
  ·by_cases h2:i < n
   ·simpa [h1,h2] using q
   ·simpa [h1,h2] using q
  ·simpa [h1] using q
 | _=>simpa [isI,isM] using q
theorem b7a (ns:List Int):a3p (ns.map FV.int) ((ns.drop 1).map .int)=(ns.zip (ns.drop 1)).map fun p:Int×Int=>FV.tup [.int p.1,.int p.2]:=by rw [a2g]
theorem a7u:∀ ns:List Int,(ns.zip (ns.drop 1)).all (fun p=>decide (p.1 < p.2))=true↔ns.Pairwise (· < ·)
 | []=>by simp
 | [a]=>by simp
 | a :: b :: r=>by
  have ih:=a7u (b :: r)
  simp only [List.drop_succ_cons,List.drop_zero,List.zip_cons_cons,List.all_cons,Bool.and_eq_true,decide_eq_true_eq] at ih ⊢
  rw [ih]
  constructor
  ·rintro ⟨h1,h2⟩
   refine List.pairwise_cons.mpr ⟨fun x hx=>?_,h2⟩
   rcases List.mem_cons.mp hx with rfl | hx
   ·exact h1
   ·have:=(List.pairwise_cons.mp h2).1 x hx; lia
  ·intro hh
   obtain ⟨h1,h2⟩:=List.pairwise_cons.mp hh
   exact ⟨h1 b (by simp),h2⟩
theorem sl_t (xs:List FV) (lo hi:Option Int) (Q:FV→Prop):wp (a5j (.tup xs) lo hi) Q↔Q (.tup (a5g xs lo hi)):=Iff.rfl
theorem c2e (ns:List Int):a5g (ns.map FV.int) (some 1) none=(ns.drop 1).map .int:=by rw [List.map_drop]; simpa using a4i (ns.map FV.int) 1
theorem c7p (d:Nat) {ws ss:List Int} (h:Rwo ws ss) (y:D) (hy:∀ ds,y=.tup ds→ds.length≤60) {Q:FV×FV→Prop} (q:Q (.bl (kD ws.length y).isSome,.non)):callW tb (d + 4) 19 [a4z ws ss,dF y] Q:=by
 have hn:=h.hn
 refine a0g (fd:=d8l) rfl rfl ?_
 simp [d8l,d3o,a1f]
 refine a0g (fd:=fd8) rfl rfl ?_
 cases y with
 | tup ds =>
  have hd:=hy ds rfl
  rw [dF,a1d]
  simp [fd8,bd8]
  cases hds:ds with
  | nil =>
   subst hds
   simp
   simpa [kD,KI] using q
  | cons d0 dr =>
   rw [← hds]
   have hne:ds≠[]:=by rw [hds]; simp
   refine ite2 (fun z=>absurd z hne) (fun _=>?_)
   refine ⟨by simp [big]; lia,?_⟩
   refine a0s (f:=dF) (g:=fun x=>.bl (isM ws.length x)) ds [] (fun x hx K k=>?_) ?_
   ·simp
    exact c6l _ x _ k
   rw [List.nil_append,a2o,a1w]
   by_cases hm:ds.all (isM ws.length)=true
   rotate_left
   ·have hkn:kD ws.length (.tup ds)=none:=by
     simp only [kD]
     rw [if_neg]
     rintro ⟨ha,hk⟩
     apply hm
     obtain ⟨ks,e,k1,k2,k3⟩:=hk.nat
     rw [List.all_eq_true] at ha ⊢
     intro x hx
     have hv:a2k x∈ds.map a2k:=List.mem_map.mpr ⟨x,hx,rfl⟩
     rw [e] at hv
     obtain ⟨k,hk,ek⟩:=List.mem_map.mp hv
     have:=k3 k hk
     simp only [isM,ha x hx,Bool.true_and,decide_eq_true_eq]
     lia
    rw [hkn] at q
    exact ite2 (fun _=>q) (fun z=>absurd (by rw [List.all_eq_true]; intro x hx; cases e:isM ws.length x with | true=>rfl | false=>exact absurd (List.mem_map.mpr ⟨x,hx,e⟩) z) hm)
   refine ite2 (fun z=>?_) (fun _=>?_)
   ·obtain ⟨x,hx,e⟩:=List.mem_map.mp z
    rw [List.all_eq_true.mp hm x hx] at e; cases e
   have hm':∀ x∈ds,isI x=true∧0≤a2k x∧a2k x < ws.length:=fun x hx=>by
    have:=List.all_eq_true.mp hm x hx
    simpa [isM] using this
   have ha:ds.all isI=true:=List.all_eq_true.mpr fun x hx=>(hm' x hx).1
   have hb:∀ j∈ds.map a2k,0≤j∧j < ws.length:=fun j hj=>by
    obtain ⟨x,hx,rfl⟩:=List.mem_map.mp hj
    exact (hm' x hx).2
   have hkd:kD ws.length (.tup ds)=if KI ws.length (ds.map a2k) then some ((ds.map a2k).map Int.toNat) else none:=by
    simp only [kD,ha,true_and]
   rw [hkd] at q
   have hlen:(ds.map a2k).length≤60:=by simpa using hd
   have hne':ds.map a2k≠[]:=by simpa using hne
   rw [a3r ha,a3g]
   generalize ds.map a2k=ns at q hb hlen hne'
   obtain ⟨n0,nr,rfl⟩:∃ a r,ns=a :: r:=by cases ns with | nil=>exact absurd rfl hne' | cons a r=>exact ⟨a,r,rfl⟩
   simp only [lk_z,lk_s,a1w,sl_t,sq_t,c2e]
   rw [b7a]
   refine ⟨rfl,by simp [big]; simp at hlen; lia,?_⟩
   refine a0s (f:=fun p:Int×Int=>FV.tup [.int p.1,.int p.2]) (g:=fun p=>.bl (decide (p.1 < p.2))) _ [] (fun p hp K k=>?_) ?_
   ·simpa using k
   rw [List.nil_append,a2o,a1w]
   by_cases hr:(n0 :: nr).Pairwise (· < ·)
   rotate_left
   ·rw [if_neg (fun z=>hr z.2.1)] at q
    have hr2:¬ ((n0 :: nr).zip ((n0 :: nr).drop 1)).all (fun p=>decide (p.1 < p.2))=true:=fun z=>hr ((a7u _).mp z)
    refine ite2 (fun _=>?_) (fun z=>?_)
    ·rw [List.all_map]
     have:(((n0 :: nr).zip ((n0 :: nr).drop 1)).all (id ∘ fun p=>decide (p.1 < p.2)))=false:=Bool.eq_false_iff.mpr hr2
     rw [this]; exact q
    ·exact absurd (by rw [List.all_eq_true]; intro x hx; cases e:decide (x.1 < x.2) with | true=>rfl | false=>exact absurd (List.mem_map.mpr ⟨x,hx,e⟩) z) hr2
   refine ite2 (fun z=>?_) (fun _=>?_)
   ·obtain ⟨x,hx,e⟩:=List.mem_map.mp z
    have:=List.all_eq_true.mp ((a7u _).mpr hr) x hx
    rw [e] at this; cases this
   ·have e0:∀ R:FV→Prop,wp (atF ((n0 :: nr).map FV.int) 0) R↔R (.int n0):=fun R=>a2i (n:=0) rfl (by simp)
    rw [e0]
    simp
    by_cases h00:n0=0
    ·rw [if_pos ⟨by rw [h00]; rfl,hr,fun j hj=>(hb j hj).2⟩] at q
     simpa [h00] using q
    ·rw [if_neg (fun z=>h00 (by simpa using z.1))] at q
     have:(n0 == 0)=false:=by simpa using h00
     rw [this]; exact q
 | _ =>
  simp [fd8,bd8,dF]
  exact q
theorem b8j {ts:List Int} {n j:Nat} (h:ts.length=n + 1):ts.drop (j + 1)=(List.range' (j + 1) (n - j)).map fun e=>ts.getD e 0:=by
 apply List.ext_getElem
 ·simp; lia
 ·intro i h1 h2
  simp at h1
  simp [List.getD,show j + 1 + i < ts.length by lia]
theorem c4v (d:Nat) {ws ss as:List Int} {r:Int} (h:Rwo ws ss) (ha:Ask ws.length as r) (z:D) {Q:FV×FV→Prop} (q:Q (.bl (tD (sc ws ss as r) ws.length z).isSome,.non)):callW tb (d + 3) 21 [a4z ws ss,a9x as,.int r,dF z] Q:=by
 have hn:=h.hn
 refine a0g (fd:=d3g) rfl rfl ?_
 cases z with
 | tup ds =>
  simp [d3g,d3n,a1f]
  have e1:((ws.length:Int) + 1)=((ws.length + 1:Nat):Int):=by lia
  rw [e1,b5r]
  simp
  rw [dF,a1d]
  by_cases hl:ds.length=ws.length + 1
  rotate_left
  ·have:tD (sc ws ss as r) ws.length (.tup ds)=none:=by
    simp only [tD]
    rw [if_neg (fun z=>hl (by simpa using z.2.1))]
   rw [this] at q
   exact ite2 (fun z=>absurd z hl) (fun _=>q)
  refine ite2 (fun _=>?_) (fun z=>absurd hl z)
  refine ⟨by simp [big]; lia,?_⟩
  refine a0s (f:=dF) (g:=fun x=>.bl (isI x)) ds [] (fun x hx K k=>?_) ?_
  ·simp [b0z]
   exact k
  rw [List.nil_append]
  simp [a2o,-List.mem_map]
  by_cases hai:ds.all isI=true
  rotate_left
  ·have:tD (sc ws ss as r) ws.length (.tup ds)=none:=by
    simp only [tD]
    rw [if_neg (fun z=>hai z.1)]
   rw [this] at q
   exact ite2 (fun _=>q) (fun z=>absurd (noF.mpr z) hai)
  refine ite2 (fun z=>absurd z (noF.mp hai)) (fun _=>?_)
  have htd:tD (sc ws ss as r) ws.length (.tup ds)=if TI (sc ws ss as r) ws.length (ds.map a2k) then some (ds.map a2k) else none:=by simp only [tD,hai,true_and]
  rw [htd] at q
  have hl':(ds.map a2k).length=ws.length + 1:=by simpa using hl
  rw [a3r hai,a3g]
  generalize ds.map a2k=ts at q hl'
  rw [a1n (by lia)]
  simp
  by_cases h0:ts.getD ws.length 0=0
  rotate_left
  ·rw [if_neg (fun z=>h0 z.2.1)] at q
   exact ite2 (fun z=>absurd z h0) (fun _=>q)
  refine ite2 (fun _=>?_) (fun z=>absurd h0 z)
  refine ⟨a0j (by lia) (by lia),?_⟩
  refine a2h (I:=fun j L=>∃ a b,L=[some (a4z ws ss),some (a9x as),some (.int r),some (.tup (ts.map .int)),some (.int ws.length),a,b]∧∀ b',b' < j→ts.getD b' 0=mnL (sc ws ss as r) ws.length ts b') ws.length 0 _ ⟨none,none,rfl,fun b' hb=>absurd hb (Nat.not_lt_zero _)⟩ ?_ ?_
  ·rintro j L K - hj ⟨a,b,rfl,hI⟩ k
   have hj:j < ws.length:=by lia
   simp
   refine b2i d h ha hj ?_
   simp
   rw [a1n (by lia),show (j:Int) + 1=((j + 1:Nat):Int) by lia,a4i,← List.map_drop,b8j hl',List.map_map,a2g,a3u,List.map_map]
   refine ⟨by simp [big]; lia,?_⟩
   refine a0s (g:=fun e=>.int (sc ws ss as r j e + ts.getD e 0)) _ [] (fun e he K2 k2=>?_) ?_
   ·simpa using k2
   rw [List.nil_append,d0h hj]
   by_cases hh:ts.getD j 0=mnL (sc ws ss as r) ws.length ts j
   ·have:(ts[j]?.getD 0 == mnL (sc ws ss as r) ws.length ts j)=true:=by rw [beq_iff_eq]; exact hh
    simp
    refine ite2 (fun _=>?_) (fun z=>absurd hh z)
    refine k _ ⟨_,_,rfl,fun b' hb'=>?_⟩
    by_cases e:b'=j
    ·rw [e]; exact hh
    ·exact hI b' (by lia)
   ·simp
    refine ite2 (fun z=>absurd z hh) (fun _=>?_)
    rw [if_neg (fun z=>hh (z.2.2 j hj))] at q
    exact q
  ·rintro L ⟨a,b,rfl,hI⟩
   rw [if_pos ⟨hl',h0,fun b hb=>hI b (by lia)⟩] at q
   simpa using q
 | _ =>
  simp [d3g,d3n,a1f]
  rw [show ((ws.length:Int) + 1)=((ws.length + 1:Nat):Int) by lia,b5r]
  exact q
theorem c6f (d:Nat) {ws ss as:List Int} {r:Int} (h:Rwo ws ss) (ha:Ask ws.length as r) {ks:List Nat} (h0:0∈ks) (hp:ks.Pairwise (· < ·)) (hk:∀ k∈ks,k < ws.length) {Q:FV×FV→Prop} (q:Q (.int (pc (sc ws ss as r) ws.length ks),.non)):callW tb (d + 5) 20 [a4z ws ss,a9x as,.int r,b3j ks] Q:=by
 have hn:=h.hn
 have hc:ks.length≤30:=by
  have:=a6u ((b5m okT ws.length ks).mpr fun p hp'=>⟨(a4o hp hk p hp').2.1,rfl⟩)
  lia
 have R:Rw ws ss ks:=⟨h.hw,h.hs,h.hl,hn,h0,hc,hp,hk⟩
 refine a0g (fd:=d8k) rfl rfl ?_
 simp [d8k,e0c,a5f]
 refine b6f _ R ?_
 simp
 have ea:as=(List.range ws.length).map fun m=>as.getD m 0:=by
  apply List.ext_getElem
  ·simp [ha.len]
  ·intro i h1 h2
   simp [List.getD,h1]
 have e1:a3p (as.map FV.int) ((List.range ws.length).map (FV.int ∘ rd ws ss ks))=(List.range ws.length).map fun m=>FV.tup [.int (as.getD m 0),.int (rd ws ss ks m)]:=by
  conv=>lhs; rw [ea]
  rw [List.map_map,a2g,a3u,List.map_map]; rfl
 rw [e1]
 refine ⟨by simp [big]; lia,?_⟩
 refine a0s (g:=fun m=>.int (as.getD m 0 * rd ws ss ks m)) _ [] (fun m hm K k=>?_) ?_
 ·have hm:=List.mem_range.mp hm
  have:=b0l ha hm
  simp
  exact ⟨.inl (a1u (by simp at this; lia) (by simp at this; lia)),by simpa using k⟩
 rw [List.nil_append]
 simp
 refine c0i _ R ?_
 have r0:=ha.r0
 have r1:=ha.r1
 simp
 refine ⟨.inl (a1u (by lia) (by lia)),?_⟩
 rw [show (List.range ws.length).map (fun m=>FV.int (as[m]?.getD 0 * rd ws ss ks m))=((List.range ws.length).map fun m=>as.getD m 0 * rd ws ss ks m).map .int by simp,a2s,a1w]
 simp
 have:=c6g (ws:=ws) (ss:=ss) (as:=as) (r:=r) h.hl h0 hp hk
 rw [← this] at q
 simpa using q
theorem c2x (d:Nat) {ws ss as:List Int} {r:Int} (h:Rwo ws ss) (ha:Ask ws.length as r) (x y z:D) (hy:∀ ds,y=.tup ds→ds.length≤60) {Q:FV×FV→Prop} (q:Q (.bl (okS (sc ws ss as r) ws.length x y z),.non)):callW tb (d + 6) 18 [a4z ws ss,a9x as,.int r,dF x,dF y,dF z] Q:=by
 refine a0g (fd:=d8m) rfl rfl ?_
 simp [d8m,e0d]
 rw [b0z]
 simp
 cases hx:isI x with
 | false =>
  have:okS (sc ws ss as r) ws.length x y z=false:=by simp [okS,hx]
  rw [this] at q
  simpa using q
 | true =>
  simp
  refine c7p _ h y hy ?_
  simp
  cases hk:kD ws.length y with
  | none =>
   have:okS (sc ws ss as r) ws.length x y z=false:=by simp [okS,hk]
   rw [this] at q
   simpa using q
  | some ks =>
   simp
   refine c4v _ h ha z ?_
   simp
   cases ht:tD (sc ws ss as r) ws.length z with
   | none =>
    have:okS (sc ws ss as r) ws.length x y z=false:=by simp [okS,hk,ht]
    rw [this] at q
    simpa using q
   | some ts =>
    simp
    obtain ⟨k0,k1,k2,k3⟩:=c6h hk
    obtain ⟨rfl,t1⟩:=c4e ht
    rw [k0]
    refine c6f _ h ha k1 k2 k3 ?_
    have e:okS (sc ws ss as r) ws.length x y (.tup (ts.map .int))=(decide (pc (sc ws ss as r) ws.length ks=a2k x) && decide (ts.getD 0 0=a2k x)):=by simp only [okS,hx,hk,ht,Bool.true_and]
    rw [e] at q
    cases x with
    | int i =>
     have et:dF (.tup (ts.map D.int))=.tup (ts.map .int):=by rw [dF,a1d,a3g]
     rw [et]
     have e0:∀ R:FV→Prop,wp (atF (ts.map FV.int) 0) R↔R (.int (ts.getD 0 0)):=fun R=>by
      have:=a1n (xs:=ts) (i:=0) (by have:=t1.1; lia) R
      simpa using this
     simp [dF,a2k,e0] at q ⊢
     by_cases h1:pc (sc ws ss as r) ws.length ks=i
     ·simp only [h1,decide_true,Bool.true_and,beq_self_eq_true,if_true] at q ⊢
      exact q
     ·have e2:(pc (sc ws ss as r) ws.length ks == i)=false:=by simpa using h1
      rw [e2]
      simpa [h1] using q
    | _=>cases hx
theorem c1v (xs ys:List Int) (R:Bool→Prop):wp (eqF (FV.lst (xs.map .int)) (.lst (ys.map .int))) R↔R (decide (xs=ys)):=by
 have h:∀ xs:List Int,FV.lst (xs.map .int)=dF (.lst (xs.map .int)):=fun xs=>by simp [dF,a1d,Function.comp_def]
 have hd:∀ xs:List Int,b1n (xs.map D.int)=0:=fun xs=>by induction xs with | nil=>rfl | cons x r ih=>simp [b1n,dep,ih]
 have ev:∀ xs ys:List Int,D.eqvs (xs.map D.int) (ys.map D.int)=decide (xs=ys):=by
  intro xs
  induction xs with
  | nil=>intro ys; cases ys <;> simp [D.eqvs]
  | cons x r ih =>
   intro ys
   cases ys with
   | nil=>simp [D.eqvs]
   | cons y s =>
    simp only [List.map_cons,D.eqvs,D.eqv,ih]
    rw [Bool.eq_iff_iff]; simp
 rw [h,h,c6w (by simp only [dep,hd]; lia) (by simp only [dep,hd]; lia),D.eqv,ev]; exact Iff.rfl
theorem b0v {xs ys:List Int} (h1:xs.Pairwise (· < ·)) (h2:ys.Pairwise (· < ·)) (h:∀ x,x∈xs↔x∈ys):xs=ys:=by
 have nd:∀ {l:List Int},l.Pairwise (· < ·)→l.Nodup:=fun hl=>hl.imp fun {a b} hab e=>by lia
 have p:xs.Perm ys:=(List.perm_ext_iff_of_nodup (nd h1) (nd h2)).mpr h
 exact p.eq_of_pairwise (fun a b _ _ h3 h4=>by lia) (h1.imp fun {a b} h=>(show a≤b by lia)) (h2.imp fun {a b} h=>(show a≤b by lia))
noncomputable def d4l (c:Nat→Nat→Int) (n:Nat):Option (List Nat)→FV
 | some ks=>.int (pc c n ks)
 | none=>.non
theorem d0l (d:Nat) {ws ss:List Int} {c:Nat→Nat→Int} (h:Rwo ws ss) {kk:List (List Int)} {vs:List FV} (hc:Cst c ws.length kk vs) (y:D) (hdp:dep y < 39) (hy:∀ ds,y=.tup ds→ds.length≤60) {Q:FV×FV→Prop} (q:Q (d4l c ws.length (kD ws.length y),.non)):callW tb (d + 2) 32 [a4z ws ss,.dct kk vs,dF y] Q:=by
 have hn:=h.hn
 refine a0g (fd:=d3e) rfl rfl ?_
 cases y with
 | tup ds =>
  have hd:=hy ds rfl
  simp only [dep] at hdp
  have e0:∀ R:Bool→Prop,wp (eqF (dF (.tup ds)) (.tup [])) R↔R ds.isEmpty:=fun R=>by
   rw [show FV.tup []=dF (.tup []) from rfl,c6w (by simp only [dep]; lia) (by simp [dep,b1n])]
   cases ds <;> exact Iff.rfl
  rw [show dF (.tup ds)=.tup (ds.map dF) by rw [dF,a1d]] at e0 ⊢
  simp [d3e,d3k,a1f]
  rw [e0]
  cases hds:ds with
  | nil =>
   subst hds
   simpa [kD,KI,d4l] using q
  | cons d0 dr =>
   rw [← hds]
   have hne:ds≠[]:=by rw [hds]; simp
   have hie:ds.isEmpty=false:=by rw [hds]; rfl
   rw [hie]
   simp
   refine b2x _ ds (by lia) ?_
   simp
   by_cases ha:ds.all isI=true
   rotate_left
   ·have:kD ws.length (.tup ds)=none:=by
     simp only [kD]
     rw [if_neg (fun z=>ha z.1)]
    rw [this] at q
    exact ite2 (fun z=>absurd (by simpa [List.all_eq_true] using z) ha) (fun _=>q)
   refine ite2 (fun _=>?_) (fun z=>absurd (by simpa [List.all_eq_true] using ha) z)
   have hkd:kD ws.length (.tup ds)=if KI ws.length (ds.map a2k) then some ((ds.map a2k).map Int.toNat) else none:=by simp only [kD,ha,true_and]
   rw [hkd] at q
   have hlen:(ds.map a2k).length≤60:=by simpa using hd
   have hne':ds.map a2k≠[]:=by simpa using hne
   rw [a3r ha,a3g]
   generalize ds.map a2k=ns at q hlen hne'
   obtain ⟨n0,nr,rfl⟩:∃ a r,ns=a :: r:=by cases ns with | nil=>exact absurd rfl hne' | cons a r=>exact ⟨a,r,rfl⟩
   have e0:∀ R:FV→Prop,wp (atF ((n0 :: nr).map FV.int) 0) R↔R (.int n0):=fun R=>a2i (n:=0) rfl (by simp)
   rw [e0]
   by_cases h00:n0=0
   rotate_left
   ·rw [if_neg (fun z=>h00 (by simpa using z.1))] at q
    simp
    exact ite2 (fun z=>absurd z h00) (fun _=>q)
   have h00':(n0 :: nr).head?=some 0:=by rw [h00]; rfl
   have ee:∀ R:Bool→Prop,R true→wp (eqF (FV.int n0) (FV.int 0)) R:=fun R hR=>by rw [h00]; exact hR
   refine ee _ ?_
   rw [if_pos rfl,a2s,a1w]
   refine ⟨by lia,by lia,fun ms hm1 hm2=>?_⟩
   rw [c1v]
   by_cases hr:(n0 :: nr).Pairwise (· < ·)
   rotate_left
   ·rw [if_neg (fun z=>hr z.2.1)] at q
    have:¬ (n0 :: nr)=ms:=fun z=>hr (by rw [z]; exact hm2)
    rw [decide_eq_false this]
    exact q
   have hms:(n0 :: nr)=ms:=b0v hr hm2 fun x=>(hm1 x).symm
   rw [decide_eq_true hms]
   clear hm1 hm2 hms e0
   generalize hns:n0 :: nr=ns at q hlen hr h00'
   have hne2:ns≠[]:=by rw [← hns]; simp
   obtain ⟨ni,nl,hnl⟩:∃ a b,ns=a++[b]:=⟨ns.dropLast,ns.getLast hne2,(List.dropLast_concat_getLast hne2).symm⟩
   have el:∀ R:FV→Prop,wp (atF (ns.map FV.int) (-1)) R↔R (.int nl):=fun R=>by
    rw [hnl,List.map_append]
    exact c7k _ _ R
   simp only [if_true]
   rw [el]
   simp
   by_cases hlast:(ws.length:Int)≤nl
   ·rw [if_neg (fun z=>by have:=z.2.2 nl (by rw [hnl]; simp); lia)] at q
    exact ite2 (fun _=>q) (fun z=>absurd hlast z)
   refine ite2 (fun z=>absurd z hlast) (fun _=>?_)
   have hki:KI ws.length ns:=⟨h00',hr,fun j hj=>by
    rw [hnl] at hj hr
    rcases List.mem_append.mp hj with hj | hj
    ·have:=(List.pairwise_append.mp hr).2.2 j hj nl (by simp); lia
    ·simp at hj; lia⟩
   rw [if_pos hki] at q
   obtain ⟨ks,e,k1,k2,k3⟩:=hki.nat
   have e2:ns.map Int.toNat=ks:=by
    rw [e,List.map_map]
    conv=>rhs; rw [← List.map_id ks]
    apply List.map_congr_left
    intro j _; simp
   rw [e2] at q
   have e3:ns.map FV.int=ks.map fun i:Nat=>FV.int i:=by rw [e,List.map_map]; rfl
   rw [e3,cut1,List.drop_one,b9r]
   have hsl:(a3z ks ws.length).length=ks.length:=by
    obtain ⟨r2,er⟩:=a9t k1 k2
    rw [er]; simp [a3z]
   have hkl:ks.length≤60:=by rw [← e2,List.length_map]; exact hlen
   refine ⟨by decide,by simp [big]; lia,by simp [big]; lia,?_⟩
   refine a0s (g:=fun p=>.int (c p.1 p.2)) _ [] (fun p hp K k=>?_) ?_
   ·obtain ⟨g1,g2,g3,_⟩:=a4o k2 k3 p hp
    simp
    rw [hc.at' p.1 p.2 g2 g3]
    simpa using k
   ·rw [List.nil_append,show (a3z ks ws.length).map (fun p=>FV.int (c p.1 p.2))=((a3z ks ws.length).map fun p=>c p.1 p.2).map .int by simp,a2s,a1w,← b0y]
    exact q
 | _ =>
  simp [d3e,d3k,a1f,dF]
  exact q
theorem c6d (d:Nat) {ws ss:List Int} {c:Nat→Nat→Int} (h:Rwo ws ss) {kk:List (List Int)} {vs:List FV} (hc:Cst c ws.length kk vs) (x y z:D) (hdp:dep y < 39) (hy:∀ ds,y=.tup ds→ds.length≤60) {Q:FV×FV→Prop} (q:Q (.bl (okS c ws.length x y z),.non)):callW tb (d + 3) 33 [a4z ws ss,.dct kk vs,dF x,dF y,dF z] Q:=by
 have hn:=h.hn
 refine a0g (fd:=d8c) rfl rfl ?_
 simp [d8c,d9u,a1f,big]
 refine c1f _ [x] (by simp) ?_
 simp
 cases hx:isI x with
 | false =>
  have:okS c ws.length x y z=false:=by simp [okS,hx]
  rw [this] at q
  simpa using q
 | true =>
  obtain ⟨i,rfl⟩:∃ i,x=.int i:=by cases x with | int i=>exact ⟨i,rfl⟩ | _=>cases hx
  have no:tD c ws.length z=none→okS c ws.length (.int i) y z=false:=fun ht=>by
   simp only [okS,ht,isI,Bool.true_and]
   split <;> first | rfl | (rename_i h1 h2; cases h2)
  cases z with
  | tup ds =>
   rw [show dF (.tup ds)=.tup (ds.map dF) by rw [dF,a1d]]
   simp
   by_cases hl:ds.length=ws.length + 1
   rotate_left
   ·rw [no (by simp only [tD]; rw [if_neg (fun z=>hl (by simpa using z.2.1))])] at q
    exact ite2 (fun z=>absurd (by lia) hl) (fun _=>q)
   refine ite2 (fun _=>?_) (fun z=>absurd (by lia) z)
   refine b2x _ ds (by lia) ?_
   simp
   by_cases hai:ds.all isI=true
   rotate_left
   ·rw [no (by simp only [tD]; rw [if_neg (fun z=>hai z.1)])] at q
    exact ite2 (fun z=>absurd (by simpa [List.all_eq_true] using z) hai) (fun _=>q)
   refine ite2 (fun _=>?_) (fun z=>absurd (by simpa [List.all_eq_true] using hai) z)
   have htd:tD c ws.length (.tup ds)=if TI c ws.length (ds.map a2k) then some (ds.map a2k) else none:=by simp only [tD,hai,true_and]
   have hl':(ds.map a2k).length=ws.length + 1:=by simpa using hl
   have hq:Q (.bl (match kD ws.length y,(if TI c ws.length (ds.map a2k) then some (ds.map a2k) else none) with | some ks,some ts=>decide (pc c ws.length ks=i) && decide (ts.getD 0 0=i) | _,_=>false),.non):=by
    simp only [okS,htd,isI,Bool.true_and,a2k] at q
    exact q
   clear q no htd
   rw [a3r hai,a3g]
   generalize ds.map a2k=ts at hq hl'
   have no:¬ (TI c ws.length ts∧ts.getD 0 0=i)→Q (.bl false,.non):=fun ht=>by
    cases hk:kD ws.length y with
    | none=>rw [hk] at hq; exact hq
    | some ks =>
     rw [hk] at hq
     by_cases hT:TI c ws.length ts
     ·rw [if_pos hT] at hq
      have:¬ ts.getD 0 0=i:=fun e=>ht ⟨hT,e⟩
      simp only [decide_eq_false this,Bool.and_false] at hq
      exact hq
     ·rw [if_neg hT] at hq; exact hq
   rw [a1n (by lia)]
   simp
   by_cases h0:ts.getD ws.length 0=0
   rotate_left
   ·exact ite2 (fun z=>absurd z h0) (fun _=>no fun z=>h0 z.1.2.1)
   refine ite2 (fun _=>?_) (fun z=>absurd h0 z)
   have e0:∀ R:FV→Prop,wp (atF (ts.map FV.int) 0) R↔R (.int (ts.getD 0 0)):=fun R=>by
    have:=a1n (xs:=ts) (i:=0) (by lia) R
    simpa using this
   rw [e0]
   simp [dF]
   by_cases h1:ts.getD 0 0=i
   rotate_left
   ·exact ite2 (fun z=>absurd z h1) (fun _=>no fun z=>h1 z.2)
   refine ite2 (fun _=>?_) (fun z=>absurd h1 z)
   refine ⟨a0j (by lia) (by lia),?_⟩
   refine a2h (I:=fun j L=>∃ a,L=[some (a4z ws ss),some (.dct kk vs),some (.int i),some (dF y),some (.tup (ts.map .int)),some (.int ws.length),a]∧∀ b',b' < j→ts.getD b' 0=mnL c ws.length ts b') ws.length 0 _ ⟨none,rfl,fun b' hb=>absurd hb (Nat.not_lt_zero _)⟩ ?_ ?_
   ·rintro j L K - hj ⟨a,rfl,hI⟩ k
    have hj:j < ws.length:=by lia
    simp
    rw [a1n (by lia)]
    refine ⟨⟨a0j (by lia) (by lia),a0j (by lia) (by lia)⟩,?_⟩
    rw [c3w hj (by lia) rfl]
    refine ⟨by simp [big]; lia,?_⟩
    refine a0s (f:=fun i:Nat=>FV.int i) (g:=fun e=>.int (c j e + ts.getD e 0)) _ [] (fun e he K2 k2=>?_) ?_
    ·have he:=List.mem_range'_1.mp he
     simp [big]
     rw [hc.at' j e (by lia) (by lia)]
     simp
     rw [a1n (by lia)]
     exact k2
    rw [List.nil_append,d0h hj]
    by_cases hh:ts.getD j 0=mnL c ws.length ts j
    ·simp
     refine ite2 (fun _=>?_) (fun z=>absurd hh z)
     refine k _ ⟨_,rfl,fun b' hb'=>?_⟩
     by_cases e:b'=j
     ·rw [e]; exact hh
     ·exact hI b' (by lia)
    ·simp
     exact ite2 (fun z=>absurd z hh) (fun _=>no fun z=>hh (z.1.2.2 j hj))
   ·rintro L ⟨a,rfl,hI⟩
    have hT:TI c ws.length ts:=⟨hl',h0,fun b hb=>hI b (by lia)⟩
    rw [if_pos hT] at hq
    simp
    refine d0l _ h hc y hdp hy ?_
    cases hk:kD ws.length y with
    | none=>rw [hk] at hq; exact hq
    | some ks =>
     rw [hk] at hq
     simp only [h1,decide_true,Bool.and_true] at hq
     simp only [d4l]
     exact hq
  | _ =>
   rw [no rfl] at q
   simp [dF]
   exact q
noncomputable def Thg (x:FV):Prop:=Vl 25000 7 x∧c4b x≤40
theorem a8x {i:Int} (h1:-(2 ^ 150) < i) (h2:i < 2 ^ 150):(toString i).length≤151:=PySem.int_text_length_le (k:=150) (by decide) (log2_lt (k:=150) (by decide) ⟨by simpa using h1,by simpa using h2⟩)
noncomputable def Bg (i:Int):Prop:=-(2 ^ 148) < i∧i < 2 ^ 148
theorem a2p {xs:List FV} (h:∀ x∈xs,Vl 151 0 x) (hl:xs.length≤40):Thg (.tup xs):=⟨(Vl.tup h hl).mono (by lia) (by lia),hl⟩
theorem c4c {xs:List FV} (h:∀ x∈xs,Vl 151 0 x) (hl:xs.length≤40):Thg (.lst xs):=⟨(Vl.lst h hl).mono (by lia) (by lia),hl⟩
theorem a6a (d:Nat) {n:Int} {v:FV} (ns:List Int) (hl:ns.length≤31) (hb:∀ x∈ns,Bg (x + 1)∧Bg (x - 1)) {Q:FV×FV→Prop} (hs:Lf n v) (h0:0≤n) (hn:n < 9700) (q:∀ x v',Thg x→Lf (n + 210) v'→Q (x,v')):callW tb (d + 7) 34 [v,.tup (ns.map .int)] Q:=by
 have hv:∀ x∈ns.map FV.int,Vl 151 0 x:=fun x hx=>by
  obtain ⟨i,hi,rfl⟩:=List.mem_map.mp hx
  obtain ⟨⟨_,b1⟩,⟨b2,_⟩⟩:=hb i hi
  exact Vl.big (by lia) (by lia)
 refine a0g (fd:=d8b) rfl rfl ?_
 simp [d8b,d9t]
 refine a0m _ hs (by lia) (by lia) (by lia) fun a v1 a0 a1 l1=>?_
 simp
 refine a0m _ l1 (by lia) (by lia) (by lia) fun u v2 u0 u1 l2=>?_
 obtain ⟨a,rfl⟩:=Int.eq_ofNat_of_zero_le a0
 have c1:∀ lo hi,∀ x∈a5g (ns.map FV.int) lo hi,Vl 151 0 x:=fun lo hi x hx=>hv x (c7e hx)
 have len1:(a5g (ns.map FV.int) none (some (a:Int))).length≤a:=by rw [d1m]; simp; lia
 have len2:(a5g (ns.map FV.int) (some (a:Int)) none).length≤ns.length - a:=by rw [a4i]; simp
 have len3:(a5g (ns.map FV.int) (some ((a:Int) + 1)) none).length≤ns.length - a - 1:=by
  rw [show (a:Int) + 1=((a + 1:Nat):Int) by lia,a4i]; simp; lia
 have len4:(a5g (ns.map FV.int) (some (a:Int)) (some ((a:Int) + 1))).length≤1:=by
  rw [show (a:Int) + 1=((a + 1:Nat):Int) by lia,b8x _ (Nat.le_succ a)]; simp; lia
 have app:∀ {xs ys:List FV},(∀ x∈xs,Vl 151 0 x)→(∀ x∈ys,Vl 151 0 x)→∀ x∈xs++ys,Vl 151 0 x:=fun h1 h2 x hx=>(List.mem_append.mp hx).elim (h1 x) (h2 x)
 have one:∀ {y:FV} {ys:List FV},Vl 151 0 y→(∀ x∈ys,Vl 151 0 x)→∀ x∈y :: ys,Vl 151 0 x:=fun h1 h2 x hx=>(List.mem_cons.mp hx).elim (fun e=>e ▸ h1) (h2 x)
 have an:a≤ns.length:=by lia
 have l2':Lf (n + 210) v2:=l2.mono (by lia)
 simp [big]
 refine ite2 (fun _=>⟨by lia,q _ _ (a2p (app (c1 _ _) (c1 _ _)) (by rw [List.length_append]; lia)) l2'⟩) (fun _=>?_)
 refine ite2 (fun _=>⟨by lia,by lia,q _ _ (a2p (app (c1 _ _) (app (c1 _ _) (c1 _ _))) (by rw [List.length_append,List.length_append]; lia)) l2'⟩) (fun _=>?_)
 refine ite2 (fun _=>q _ _ (c4c hv (by simp; lia)) l2') (fun _=>?_)
 refine ite2 (fun _=>q _ _ (a2p (fun x hx=>hv x (by simpa using hx)) (by simp; lia)) l2') (fun _=>?_)
 refine ite2 (fun _=>⟨by lia,?_⟩) (fun _=>?_)
 ·refine a0s (f:=FV.int) (g:=fun i=>if i=0 ∨ i=1 then .bl (i == 1) else .int i) ns [] (fun i hi K k=>?_) ?_
  ·simp [big]
   rw [show FV.tup [.int 0,.int 1]=.tup (([0,1]:List Int).map .int) from rfl,a8i]
   simp
   refine ite2 (fun z=>?_) (fun z=>?_)
   ·rw [if_pos z] at k; exact k
   ·rw [if_neg z] at k; exact k
  ·simp
   refine q _ _ (a2p (fun x hx=>?_) (by simp; lia)) l2'
   obtain ⟨i,hi,rfl⟩:=List.mem_map.mp hx
   split
   ·exact Vl.bl.mono (by lia) (by lia)
   ·exact hv _ (List.mem_map.mpr ⟨i,hi,rfl⟩)
 refine ite2 (fun _=>?_) (fun _=>?_)
 ·refine b9j d 3 l2 (by lia) (by simp only [Na]; lia) fun x v3 hx l3=>q x v3 ⟨hx.1.mono (by decide) (by lia),by have:=hx.2; lia⟩ (l3.mono (by simp only [Na]; lia))
 refine ite2 (fun _=>?_) (fun _=>?_)
 ·refine a0m _ l2 (by lia) (by lia) (by lia) fun w v3 w0 w1 l3=>?_
  refine ⟨by lia,by lia,q _ _ (a2p (app (c1 _ _) (one (Vl.big (by lia) (by lia)) (c1 _ _))) (by rw [List.length_append,List.length_cons]; lia)) (l3.mono (by lia))⟩
 refine ite2 (fun ha=>?_) (fun ha=>?_)
 ·rw [a1n ha]
  simp
  rw [a1n ha]
  obtain ⟨⟨b1,b2⟩,⟨b3,b4⟩⟩:=hb (ns.getD a 0) (by simp [ha])
  simp
  refine a4y (by lia) (by simp; lia) ?_
  intro f hf
  have hf:Vl 151 0 f:=by
   simp at hf b1 b2 b3 b4
   rcases hf with rfl | rfl
   ·exact Vl.big (by lia) (by lia)
   ·exact Vl.big (by lia) (by lia)
  exact ⟨by lia,by lia,q _ _ (a2p (app (c1 _ _) (one hf (c1 _ _))) (by rw [List.length_append,List.length_cons]; lia)) l2'⟩
 ·exact ⟨by lia,by lia,q _ _ (a2p (app (c1 _ _) (one (Vl.big (by lia) (by lia)) (c1 _ _))) (by rw [List.length_append,List.length_cons]; lia)) l2'⟩
theorem Thg.d {x:FV} (h:Thg x):∃ y:D,x=dF y∧dep y≤7∧y.fit=true∧y.wt≤25000∧∀ ds,y=.tup ds→ds.length≤60:=by
 obtain ⟨⟨y,rfl,h1,h2,h3⟩,h4⟩:=h
 refine ⟨y,rfl,h1,h2,h3,fun ds e=>?_⟩
 rw [b5u,e] at h4
 have h4:ds.length≤40:=h4
 lia
theorem Thg.first {x:FV} {xs:List FV} (h:Thg (.tup (x :: xs))):Vl 25000 7 x:=by
 obtain ⟨⟨y,e,h1,h2,h3⟩,_⟩:=h
 cases y with
 | tup ds =>
  cases ds with
  | nil=>simp [dF,dFs] at e
  | cons d0 dr =>
   simp only [dF,dFs] at e
   cases e
   simp only [dep,b1n,D.fit,D.fits,D.wt,D.wts,Bool.and_eq_true] at h1 h2 h3
   exact ⟨d0,rfl,by lia,h2.1,by lia⟩
 | _=>simp [dF] at e
noncomputable def Tri (p:FV):Prop:=∃ a b c,p=.tup [a,b,c]∧Vl 25000 7 a∧Thg b∧Thg c
theorem b6z (d:Nat) {n:Int} {v:FV} (i:Int) (hi:Bg (i + 1)∧Bg (i - 1)) (ks:List Nat) (hk:ks.length≤30) (hkb:∀ k∈ks,k < 100) (ts:List Int) (hl:ts.length≤31) (hb:∀ x∈ts,Bg (x + 1)∧Bg (x - 1)) {o:FV} (ho:Thg o) {Q:FV×FV→Prop} (hs:Lf n v) (h0:0≤n) (hn:n < 1000) (q:∀ ps v',(∀ p∈ps,Tri p)→ps.length≤20→Q (.lst ps,v')):callW tb (d + 8) 35 [v,.tup [.int i,b3j ks],.tup (ts.map .int),o] Q:=by
 have ek:b3j ks=.tup ((ks.map fun k:Nat=>(k:Int)).map .int):=by rw [b3j,List.map_map]; rfl
 have hkl:(ks.map fun k:Nat=>(k:Int)).length≤31:=by simp; lia
 have hkB:∀ x∈ks.map fun k:Nat=>(k:Int),Bg (x + 1)∧Bg (x - 1):=fun x hx=>by
  obtain ⟨k,hk,rfl⟩:=List.mem_map.mp hx
  have:=hkb k hk
  exact ⟨⟨by lia,by lia⟩,⟨by lia,by lia⟩⟩
 rw [ek]
 generalize (ks.map fun k:Nat=>(k:Int))=js at hkl hkB
 have vl:∀ {ns:List Int},ns.length≤31→(∀ x∈ns,Bg (x + 1)∧Bg (x - 1))→Thg (.tup (ns.map .int)):=fun {ns} h1 h2=>a2p (fun x hx=>by
  obtain ⟨j,hj,rfl⟩:=List.mem_map.mp hx
  obtain ⟨⟨_,b1⟩,⟨b2,_⟩⟩:=h2 j hj
  exact Vl.big (by lia) (by lia)) (by simp; lia)
 have t1:=vl hkl hkB
 have t2:=vl hl hb
 obtain ⟨⟨i1,i2⟩,⟨i3,i4⟩⟩:=hi
 have vi:∀ j:Int,i - 1≤j→j≤i + 1→Vl 25000 7 (.int j):=fun j a b=>(Vl.big (by lia) (by lia)).mono (by lia) (by lia)
 refine a0g (fd:=d8a) rfl rfl ?_
 simp [d8a,d9s,big]
 refine ⟨by decide,?_⟩
 refine a2h (I:=fun t L=>∃ v' ps a b c e f,L=[some v',some (.tup [.int i,.tup (js.map .int)]),some (.tup (ts.map .int)),some o,some (.int i),some (.tup (js.map .int)),some (.lst ps),a,b,c,e,f]∧Lf (n + 700 * t) v'∧ps.length=4 + t∧∀ p∈ps,Tri p) 12 0 _ ⟨v,_,_,_,_,_,_,rfl,by simpa using hs,rfl,?_⟩ ?_ ?_
 ·intro p hp
  simp at hp
  rcases hp with rfl | rfl | rfl | rfl
  ·exact ⟨_,_,_,rfl,vi _ (by lia) (by lia),t1,t2⟩
  ·exact ⟨_,_,_,rfl,vi _ (by lia) (by lia),ho,t2⟩
  ·exact ⟨_,_,_,rfl,vi _ (by lia) (by lia),t1,t2⟩
  ·exact ⟨_,_,_,rfl,Vl.bl.mono (by lia) (by lia),t1,t2⟩
 ·rintro t L K - ht ⟨v',ps,a,b,c,e,f,rfl,lf,hpl,hps⟩ k
  simp
  refine a0m _ lf (by lia) (by lia) (by lia) fun w v1 w0 w1 l1=>?_
  simp
  have in1:∀ R:Bool→Prop,wp (inF (.int w) (.tup [.int 1,.int 3])) R↔R (decide (w∈([1,3]:List Int))):=fun R=>by
   rw [show FV.tup [.int 1,.int 3]=.tup (([1,3]:List Int).map .int) from rfl,a8i]
  have in2:∀ R:Bool→Prop,wp (inF (.int w) (.tup [.int 2,.int 3,.int 4])) R↔R (decide (w∈([2,3,4]:List Int))):=fun R=>by
   rw [show FV.tup [.int 2,.int 3,.int 4]=.tup (([2,3,4]:List Int).map .int) from rfl,a8i]
  have fin:∀ {v2 A B C:FV},Lf (n + 700 * t + 600) v2→Vl 25000 7 A→Thg B→Thg C→K [some v2,some (.tup [.int i,.tup (js.map .int)]),some (.tup (ts.map .int)),some o,some (.int i),some (.tup (js.map .int)),some (.lst (ps++[.tup [A,B,C]])),some (.int t),some (.int w),some A,some B,some C]:=fun {v2 A B C} l hA hB hC=>by
   refine k _ ⟨v2,_,_,_,_,_,_,rfl,l.mono (by simp; lia),by simp [hpl]; lia,fun p hp=>?_⟩
   rcases List.mem_append.mp hp with hp | hp
   ·exact hps p hp
   ·simp at hp; subst hp; exact ⟨_,_,_,rfl,hA,hB,hC⟩
  have vI:=vi i (by lia) (by lia)
  simp only [in1,in2]
  have hw:w=0 ∨ w=1 ∨ w=2 ∨ w=3 ∨ w=4:=by lia
  rcases hw with rfl | rfl | rfl | rfl | rfl
  ·have hstr:c4i (.int i)=some (.str (toString i)):=by
    show (if -(2 ^ 150) < i∧i < 2 ^ 150 then some (FV.str (toString i)) else none)=_
    rw [if_pos ⟨by lia,by lia⟩]
   rw [hstr]
   simp [big]
   refine b9j (d + 2) 2 l1 (by lia) (by simp only [Na]; lia) fun x v2 hx l2=>?_
   simp only [Na] at l2
   refine a0m _ l2 (by lia) (by lia) (by lia) fun u v3 u0 u1 l3=>?_
   simp
   refine a4y u0 (by simpa using u1) ?_
   intro A hA
   have hA:Vl 25000 7 A:=by
    simp at hA
    rcases hA with rfl | rfl | rfl | rfl | rfl
    ·exact vi _ (by lia) (by lia)
    ·have:=a8x (i:=i) (by lia) (by lia)
     exact ⟨.str (toString i),rfl,by simp [dep],rfl,by simp only [D.wt]; lia⟩
    ·exact Vl.non.mono (by lia) (by lia)
    ·exact (Vl.lst (k:=151) (p:=0) (m:=1) (xs:=[.int i]) (by simpa using Vl.big (by lia) (by lia)) (by simp)).mono (by lia) (by lia)
    ·exact hx.1.mono (by decide) (by lia)
   exact ⟨by lia,fin (l3.mono (by lia)) hA t1 t2⟩
  ·simp [big]
   refine a6a d js hkl hkB l1 (by lia) (by lia) fun x v2 hx l2=>?_
   exact ⟨by lia,fin (l2.mono (by lia)) vI hx t2⟩
  ·simp [big]
   refine a6a d ts hl hb l1 (by lia) (by lia) fun x v2 hx l2=>?_
   exact ⟨by lia,fin (l2.mono (by lia)) vI t1 hx⟩
  ·simp [big]
   refine a6a d js hkl hkB l1 (by lia) (by lia) fun x v2 hx l2=>?_
   refine a6a d ts hl hb l2 (by lia) (by lia) fun y v3 hy l3=>?_
   exact ⟨by lia,fin (l3.mono (by lia)) vI hx hy⟩
  ·simp [big]
   refine a6a d ts hl hb l1 (by lia) (by lia) fun x v2 hx l2=>?_
   have l2':Lf (n + 700 * t + 600) v2:=l2.mono (by lia)
   have hx':=hx
   obtain ⟨y,rfl,y1,y2,y3,y4⟩:=hx.d
   cases y with
   | tup ds =>
    have e0:∀ R:Bool→Prop,wp (eqF (dF (.tup ds)) (.tup [])) R↔R ds.isEmpty:=fun R=>by
     rw [show FV.tup []=dF (.tup []) from rfl,c6w (by lia) (by simp [dep,b1n])]
     cases ds <;> exact Iff.rfl
    rw [show dF (.tup ds)=.tup (ds.map dF) by rw [dF,a1d]] at e0 hx' ⊢
    simp
    rw [e0]
    cases ds with
    | nil=>simp; exact ⟨by lia,fin l2' vI t1 hx'⟩
    | cons d0 dr =>
     simp
     exact ⟨by lia,fin l2' hx'.first t1 hx'⟩
   | _ =>
    simp [dF]
    exact ⟨by lia,fin l2' vI t1 hx⟩
 ·rintro L ⟨v',ps,a,b,c,e,f,rfl,lf,hpl,hps⟩
  simp
  exact q ps v' hps (by lia)
theorem c3b {ok:Nat→Nat→Bool} {ws ss as:List Int} {r:Int} (h:Rwo ws ss) (ha:Ask ws.length as r) {ks:List Nat} (hv:vp ok ws.length ks):Bg (pc (sc ws ss as r) ws.length ks + 1)∧Bg (pc (sc ws ss as r) ws.length ks - 1):=by
 have h1:=c8o h ha hv
 have h2:=a6u hv
 have h3:=h.hn
 exact ⟨⟨by lia,by lia⟩,⟨by lia,by lia⟩⟩
theorem c5s {ws ss as:List Int} {r:Int} (h1:1≤ws.length) {P:Nat→PT} (hP:∀ j,j≤ws.length→Bst okT (sc ws ss as r) ws.length j (some (P j))):okS (sc ws ss as r) ws.length (.int (P 0).1) (.tup ((P 0).2.map fun i:Nat=>.int i)) (.tup (((List.range (ws.length + 1)).map fun j=>(P j).1).map .int))=true:=by
 have val:∀ l:List Int,(l.map D.int).map a2k=l:=fun l=>by
  rw [List.map_map]
  conv=>rhs; rw [← List.map_id l]
  rfl
 have all:∀ l:List Int,(l.map D.int).all isI=true:=fun l=>by rw [List.all_map]; simp [isI]
 have ek:((P 0).2.map fun i:Nat=>D.int i)=((P 0).2.map fun i:Nat=>(i:Int)).map .int:=by rw [List.map_map]; rfl
 obtain ⟨b1,b2,b3,_⟩:=hP 0 (Nat.zero_le _)
 obtain ⟨c1,c2,_⟩:=b5n b3
 have hk:kD ws.length (.tup ((P 0).2.map fun i:Nat=>.int i))=some (P 0).2:=by
  rw [ek]
  simp only [kD,all,val,true_and]
  rw [if_pos]
  ·rw [List.map_map]
   congr 1
   conv=>rhs; rw [← List.map_id (P 0).2]
   apply List.map_congr_left
   intro j _; simp
  ·refine ⟨?_,?_,fun j hj=>?_⟩
   ·cases e:(P 0).2 with
    | nil=>rw [e] at b2; have b2:ws.length=0:=b2; lia
    | cons k0 r0=>rw [e] at b2; cases (show k0=0 from b2); rfl
   ·rw [List.pairwise_map]
    exact c2.imp fun {a b} hab=>by lia
   ·obtain ⟨k,hk,rfl⟩:=List.mem_map.mp hj
    have:=c1 k hk
    lia
 have hg:∀ e,e≤ws.length→((List.range (ws.length + 1)).map fun j=>(P j).1).getD e 0=(P e).1:=fun e he=>by
  simp [List.getD,show e < ws.length + 1 by lia]
 have ht:tD (sc ws ss as r) ws.length (.tup (((List.range (ws.length + 1)).map fun j=>(P j).1).map .int))=some ((List.range (ws.length + 1)).map fun j=>(P j).1):=by
  simp only [tD,all,val,true_and]
  rw [if_pos]
  refine ⟨by simp,?_,fun b hb=>?_⟩
  ·rw [hg _ (Nat.le_refl _),Option.some.inj ((hP ws.length (Nat.le_refl _)).uniq b1t)]
  ·rw [hg b (by lia)]
   have e:(List.range' (b + 1) (ws.length - b)).map (fun e=>sc ws ss as r b e + ((List.range (ws.length + 1)).map fun j=>(P j).1).getD e 0)=(List.range' (b + 1) (ws.length - b)).map fun e=>sc ws ss as r b e + (P e).1:=by
    apply List.map_congr_left
    intro e he
    have he:=List.mem_range'_1.mp he
    rw [hg e (by lia)]
   unfold mnL
   rw [e]
   obtain ⟨t,ht⟩:∃ t,ws.length - b=t + 1:=⟨ws.length - b - 1,by lia⟩
   obtain ⟨x,r',hx⟩:∃ x r',(List.range' (b + 1) (ws.length - b)).map (fun e=>sc ws ss as r b e + (P e).1)=x :: r':=by rw [ht,List.range'_succ]; exact ⟨_,_,rfl⟩
   rw [hx]
   exact (b7f hb hP hx).symm
 simp only [okS,hk,ht,isI,a2k,Bool.true_and,hg 0 (Nat.zero_le _),decide_true,Bool.and_true,decide_eq_true_eq]
 exact decide_eq_true b1.symm
theorem c1y (p:PT) (Q:List FV→Prop):wp (a3b (a6d p)) Q↔Q [.int p.1,b3j p.2]:=Iff.rfl
theorem c9g (d:Nat) {ws ss as:List Int} {r:Int} (R:Rwo ws ss) (ha:Ask ws.length as r) (w1:1≤ws.length) {P:Nat→PT} (hP:∀ j,j≤ws.length→Bst okT (sc ws ss as r) ws.length j (some (P j))) {Q:FV×FV→Prop} (q:Q (.bl true,.non)):callW tb (d + 6) 18 [a4z ws ss,a9x as,.int r,.int (P 0).1,b3j (P 0).2,.tup (((List.range (ws.length + 1)).map fun j=>(P j).1).map .int)] Q:=by
 have hn:=R.hn
 have hlen:=a6u (hP 0 (Nat.zero_le _)).2.2.1
 rw [show b3j (P 0).2=dF (.tup ((P 0).2.map fun i:Nat=>.int i)) by rw [dF,a1d,List.map_map]; rfl,show FV.tup (((List.range (ws.length + 1)).map fun j=>(P j).1).map .int)=dF (.tup (((List.range (ws.length + 1)).map fun j=>(P j).1).map .int)) by rw [dF,a1d,a3g]]
 refine c2x d R ha (.int (P 0).1) _ _ (fun ds e=>?_) ?_
 ·cases e; simp; lia
 ·rw [c5s w1 hP]; exact q
theorem law_val (ns:List Int):callW tb 14 36 [.scr ns] fun z=>z.1=.bl true:=by
 refine a0g (fd:=d7z) rfl rfl ?_
 simp [d7z,d9r]
 refine ⟨by simp [a1a]; split <;> lia,?_⟩
 refine a2h (I:=fun _ L=>∃ a b c d e f g h i j k l m,L=[some (.scr ns),a,b,c,d,e,f,g,h,i,j,k,l,m]) _ 0 _ ⟨_,_,_,_,_,_,_,_,_,_,_,_,_,rfl⟩ ?_ ?_
 ·rintro k L K - - ⟨a,b,c,d,e,f,g,h,i,j,k',l,m,rfl⟩ kk
  simp
  refine c6b 12 ns k fun v1 y l1=>?_
  simp
  refine c8u 9 l1 (by lia) (by lia) (by decide) (by decide) fun ws ss v2 w1 w2 hsl hw hs l2=>?_
  have R:Rwo ws ss:=⟨hw,hs,hsl,w2⟩
  rw [show FV.tup [.tup (ws.map .int),.tup (ss.map .int)]=a4z ws ss from rfl]
  simp [a1f]
  refine c7m 10 l2 (by lia) (by lia) w2 fun as r v3 ha l3=>?_
  obtain ⟨P,hP⟩:=c5t (sc ws ss as r) ws.length
  simp
  refine c2f 12 R ha fun kk' vs hc=>?_
  simp
  refine c5y 9 R ha hP ?_
  simp
  refine b6a 9 R ha hP ?_
  simp
  simp only [c1y]
  rw [a2i (i:=0) (n:=0) (v:=.int (P 0).1) rfl rfl]
  rw [a2i (i:=1) (n:=1) (v:=b3j (P 0).2) rfl rfl]
  have e1:b3j (P 0).2=dF (.tup ((P 0).2.map fun i:Nat=>.int i)):=by rw [dF,a1d,List.map_map]; rfl
  have e2:c6y P ws.length=.tup (((List.range (ws.length + 1)).map fun j=>(P j).1).map .int):=by rw [c6y,List.map_map]; rfl
  have e3:FV.tup (((List.range (ws.length + 1)).map fun j=>(P j).1).map .int)=dF (.tup (((List.range (ws.length + 1)).map fun j=>(P j).1).map .int)):=by rw [dF,a1d,a3g]
  obtain ⟨b1,b2,b3,_⟩:=hP 0 (Nat.zero_le _)
  have hlen:=a6u b3
  have hlt:=(b5n b3).1
  have hbg:∀ x∈(List.range (ws.length + 1)).map (fun j=>(P j).1),Bg (x + 1)∧Bg (x - 1):=fun x hx=>by
   obtain ⟨j,hj,rfl⟩:=List.mem_map.mp hx
   have hj:=List.mem_range.mp hj
   obtain ⟨d1,d2,d3,_⟩:=hP j (by lia)
   rw [d1]
   exact c3b R ha d3
  have hb0:Bg ((P 0).1 + 1)∧Bg ((P 0).1 - 1):=by rw [b1]; exact c3b R ha b3
  rw [e2]
  refine c9g 7 R ha w1 hP ?_
  simp [a1f]
  refine c1h 10 l3 (by lia) (by lia) w1 w2 fun ks v4 k1 k2 l4=>?_
  simp
  have o1:Thg (.tup (ks.map fun i:Nat=>.int i)):=by
   refine a2p (fun x hx=>?_) ?_
   ·obtain ⟨k,hk,rfl⟩:=List.mem_map.mp hx
    have:=List.mem_range.mp (k2.subset hk)
    exact Vl.big (by lia) (by lia)
   ·have:=k2.length_le
    simp at this ⊢; lia
  rw [show a6d (P 0)=.tup [.int (P 0).1,b3j (P 0).2] from rfl]
  have htl:((List.range (ws.length + 1)).map fun j=>(P j).1).length≤31:=by simp; lia
  rw [show (List.range (ws.length + 1)).map (FV.int ∘ fun j=>(P j).1)=((List.range (ws.length + 1)).map fun j=>(P j).1).map .int by rw [List.map_map]]
  clear e1 e2 e3
  generalize ((List.range (ws.length + 1)).map fun j=>(P j).1)=ts at hbg htl ⊢
  have hk30:(P 0).2.length≤30:=by lia
  have hk100:∀ k∈(P 0).2,k < 100:=fun k hk=>by have:=hlt k hk; lia
  generalize (P 0).2=ks0 at hk30 hk100 ⊢
  generalize (P 0).1=i0 at hb0 ⊢
  generalize FV.tup (ks.map fun i:Nat=>.int i)=o at o1 ⊢
  refine b6z 5 i0 hb0 ks0 hk30 hk100 ts htl hbg o1 l4 (by lia) (by lia) fun ps v5 hps hpl=>?_
  simp
  rw [← List.map_id ps]
  refine a8m (f:=id) (I:=fun _ L=>∃ A B C E F,L=[some (.scr ns),some (.int k),some v5,some (a4z ws ss),some (a9x as),some (.int r),some (.dct kk' vs),some (.tup [.int i0,b3j ks0]),some (.tup (ts.map .int)),A,B,C,E,F]) ps ps [] _ rfl ⟨_,_,_,_,_,rfl⟩ ?_ ?_
  ·rintro ds p r' L K2 e4 ⟨A,B,C,E,F,rfl⟩ k3
   obtain ⟨a,b,c,ep,va,tb',tc⟩:=hps p (by rw [e4]; simp)
   subst ep
   obtain ⟨x,rfl,x1,x2,x3⟩:=va
   obtain ⟨y,rfl,y1,y2,y3,y4⟩:=tb'.d
   obtain ⟨z,rfl,z1,z2,z3,z4⟩:=tc.d
   have hV:Vl 75003 8 (.lst [dF x,dF y,dF z]):=⟨.lst [x,y,z],rfl,by simp only [dep,b1n]; lia,by simp [D.fit,D.fits,x2,y2,z2],by simp only [D.wt,D.wts]; lia⟩
   obtain ⟨st,hst,hq⟩:=c8l hV (by decide) (by decide)
   simp [big]
   rw [hst]
   simp
   refine c2x 7 R ha x y z y4 ?_
   simp
   refine c6d 10 R hc x y z (by lia) y4 ?_
   simp [big]
   rw [hq]
   exact ⟨rfl,k3 _ ⟨_,_,_,_,_,rfl⟩⟩
  ·rintro L ⟨A,B,C,E,F,rfl⟩
   simp
   exact kk _ ⟨_,_,_,_,_,_,_,_,_,_,_,_,_,rfl⟩
 ·rintro L ⟨a,b,c,d,e,f,g,h,i,j,k,l,m,rfl⟩
  simp
end Kq
end
set_option maxRecDepth 100000
set_option maxHeartbeats 4000000
section
namespace Kq
open PySem PySem.Spec PyProof.Rows L2 PySem.W
noncomputable def top (i:Nat):Stmt:=PySem.Challenge.pw_keepwhole_k38_sums_shown.main.body.getD i (.Pass ⟨0,0,0,0⟩)
noncomputable def d0:Df:=⟨"is_number",top 1,["thing"],["thing"],[]⟩
noncomputable def d1:Df:=⟨"is_tuple_of",top 2,["thing","many"],["thing","many"],[]⟩
noncomputable def d2:Df:=⟨"is_make",top 4,["thing","makes"],["thing","makes"],[]⟩
noncomputable def d3:Df:=⟨"change_sizes",top 5,["stock"],["stock"],[]⟩
noncomputable def d4:Df:=⟨"kept_sizes",top 6,["stock","laying"],["stock","laying","sizes"],[]⟩
noncomputable def d5:Df:=⟨"room",top 7,["stock","laying"],["stock","laying"],[]⟩
noncomputable def d6:Df:=⟨"way",top 8,["laying","make"],["laying","make","makes","on"],[.imm,.imm,.own]⟩
noncomputable def d7:Df:=⟨"reads",top 9,["stock","laying"],["stock","laying","sizes"],[]⟩
noncomputable def d8:Df:=⟨"are_makes",top 11,["thing","many"],["thing","many"],[]⟩
noncomputable def d9:Df:=⟨"row_stock",top 13,["row"],["row","wholes","steps"],[]⟩
noncomputable def d10:Df:=⟨"row_laying",top 14,["row","kept"],["row","kept"],[]⟩
noncomputable def d11:Df:=⟨"row_room",top 15,["row","kept"],["row","kept"],[]⟩
noncomputable def d12:Df:=⟨"row_reads",top 16,["row","kept"],["row","kept"],[]⟩
noncomputable def d13:Df:=⟨"stretch_size",top 17,["row","first","end"],["row","first","end","wholes","steps"],[]⟩
noncomputable def d14:Df:=⟨"least_sum",top 19,["row","asks","rate"],["row","asks","rate"],[]⟩
noncomputable def d15:Df:=⟨"sum_table",top 20,["row","asks","rate"],["row","asks","rate"],[]⟩
noncomputable def d16:Df:=⟨"best_sums",top 21,["row","asks","rate"],["row","asks","rate","best","first","stretches","found"],[]⟩
noncomputable def d17:Df:=⟨"stretch_sums",top 22,["row","asks","rate","first"],["row","asks","rate","first","sums","asked","make","read"],[.imm,.imm,.imm,.imm,.own]⟩
noncomputable def d18:Df:=⟨"shows_sum",top 23,["row","asks","rate","number","kept","table"],["row","asks","rate","number","kept","table"],[]⟩
noncomputable def d19:Df:=⟨"is_kept",top 24,["row","thing"],["row","thing"],[]⟩
noncomputable def d20:Df:=⟨"kept_sum",top 25,["row","asks","rate","kept"],["row","asks","rate","kept","asked"],[]⟩
noncomputable def d21:Df:=⟨"is_table",top 26,["row","asks","rate","thing"],["row","asks","rate","thing","many","first","stretches"],[]⟩
noncomputable def d22:Df:=⟨"_law_mix",top 28,["_law_cell","_law_k"],["_law_cell","_law_k","_law_m"],[]⟩
noncomputable def d23:Df:=⟨"_law_left",top 29,["_law_script","_law_k"],["_law_script","_law_k","_law_cell"],[]⟩
noncomputable def d24:Df:=⟨"_law_pick",top 30,["_law_left_here","_law_many"],["_law_left_here","_law_many","_law_digit"],[.own]⟩
noncomputable def d25:Df:=⟨"_law_size",top 31,["_law_left_here","_law_great"],["_law_left_here","_law_great","_law_way_drawn"],[.own]⟩
noncomputable def d26:Df:=⟨"_law_row",top 32,["_law_left_here","_law_most"],["_law_left_here","_law_most","_law_many","_law_great","_law_wholes"],[.own]⟩
noncomputable def d27:Df:=⟨"_law_kept",top 33,["_law_left_here","_law_many"],["_law_left_here","_law_many","_law_often"],[.own]⟩
noncomputable def d28:Df:=⟨"_law_any",top 34,["_law_left_here","_law_levels"],["_law_left_here","_law_levels","_law_some","_law_parts"],[.own]⟩
noncomputable def d29:Df:=⟨"_law_numbers",top 35,["_law_some"],["_law_some"],[]⟩
noncomputable def d30:Df:=⟨"_law_asks",top 36,["_law_left_here","_law_many"],["_law_left_here","_law_many","_law_most","_law_chosen","_law_found","_law_some"],[.own]⟩
noncomputable def d31:Df:=⟨"_law_costs",top 37,["_law_row_here","_law_asks_here","_law_rate"],["_law_row_here","_law_asks_here","_law_rate","_law_many","_law_found","_law_begin","_law_size_here","_law_total","_law_make","_law_more"],[.imm,.imm,.imm,.imm,.own]⟩
noncomputable def d32:Df:=⟨"_law_kept_right",top 38,["_law_row_here","_law_costs_here","_law_kept_here"],["_law_row_here","_law_costs_here","_law_kept_here","_law_many"],[]⟩
noncomputable def d33:Df:=⟨"_law_due",top 39,["_law_row_here","_law_costs_here","_law_number","_law_kept_here","_law_table"],["_law_row_here","_law_costs_here","_law_number","_law_kept_here","_law_table","_law_many","_law_begin"],[]⟩
noncomputable def d34:Df:=⟨"_law_bent_tuple",top 40,["_law_left_here","_law_some"],["_law_left_here","_law_some","_law_at","_law_kind","_law_more"],[.own]⟩
noncomputable def d35:Df:=⟨"_law_papers",top 41,["_law_left_here","_law_told","_law_table","_law_other"],["_law_left_here","_law_told","_law_table","_law_other","_law_number","_law_kept_here","_law_found","_law_turn","_law_which","_law_one","_law_some","_law_rest"],[.own,.imm,.imm,.imm,.imm,.imm,.own]⟩
noncomputable def d36:Df:=⟨"law",top 42,["_law_script"],["_law_script","_law_k","_law_left_here","_law_row_here","_law_asks_here","_law_rate","_law_costs_here","_law_told","_law_table","_law_number","_law_kept_here","_law_some","_law_seen","_law_found"],[.imm,.imm,.own]⟩
noncomputable def fns:List Str:=[Γe "is_number",Γe "is_tuple_of",Γe "is_make",Γe "change_sizes",Γe "kept_sizes",Γe "room",Γe "way",Γe "reads",Γe "are_makes",Γe "row_stock",Γe "row_laying",Γe "row_room",Γe "row_reads",Γe "stretch_size",Γe "least_sum",Γe "sum_table",Γe "best_sums",Γe "stretch_sums",Γe "shows_sum",Γe "is_kept",Γe "kept_sum",Γe "is_table",Γe "_law_mix",Γe "_law_left",Γe "_law_pick",Γe "_law_size",Γe "_law_row",Γe "_law_kept",Γe "_law_any",Γe "_law_numbers",Γe "_law_asks",Γe "_law_costs",Γe "_law_kept_right",Γe "_law_due",Γe "_law_bent_tuple",Γe "_law_papers",Γe "law"]
abbrev DB (d:Df) (fr:Bool) (b:CW→SW):Prop:=∀ (X:Cx) (call:CW) (n:Nat),Good X (d.cc fns) n (spK tb call)→FSs X (d.cc fns) fr (a2f d.st) (b call)
local macro_rules | `(tactic| ac_rfl)=>do
 let g:=Lean.mkIdent `G
 let mut ts:Array (Lean.TSyntax ``Lean.Parser.Tactic.tacticSeq):=#[]
 for r in ("§fe_var 12210;d8x 03110;d0y 00010;fa_nil 00010;a0n 02010;fr_var 11110;a2v 01010;fs_ret 01010;fe_add 02010;fe_ix 03110;fs_set 14310;d7x 16510;d3c 18710;d2v 12110;fe_tup 01010;fs_nil 00010;fs_if 03010;CompOk.mk 05110;d0v 11110;d6v 00010;fe_len 13210;fe_lst 01010;fe_bl 00010;fb_eq 12010;d7k 00010;fw_or 02010;d7d 01010;fb_not 01010;fe_mul 02010;fe_sl 03010;d7e 00010;fb_ne 12010;fe_isi 15410;d2y 13210;fw_or1 01010;fe_sub 02010;c6u 11010;fe_eq 12010;fe_ixN 13210;fe_one 01010;fe_and 02010;fe_if 03010;fe_non 00010;d6x 14310;fe_mod 02010;ff_lst 01010;fe_all 13210;fb_in2 13010;d7l 16510;fe_pow 02010;fe_str 00010;fe_app 15410;d7b 02110;d7o 13210;d6y 12210;d7v 02010;fw_and 02010;d7t 13210;d2z 13210;fe_not 01010;d7w 12010;d7p 13210;d7q 13210;fb_lt 12010;fe_abs 13210;fs_ix 15310;fb_gt 02010;d6t 01010;d0x 01010;d7c 15310;d7u 14010;fb_isN 01010;d8v 01010;fs_whl 02010;d7n 13210;fe_lt 12010;fg_tn 12110;d7r 13210;fs_add 13210;fe_ge 02010;d3a 13210;d6u 01010;d6w 14210;d2w 00010;fb_ge 02010;d0w 14310;d3b 12010;d7m 01010;d7a 15210;d7s 15310;d8w 01010;d2x 18710;fs_tup 14210;d6z 01010;fr_of 01010;fb_val 02110;fb_w 01010;d7l 16511;d2x 18711;fi_rng 13200;fi_seq 01000;fi_zip 15300;d7h 15300;d7j 13200;d7i 13200;d7g 15300;d0y 00000;fe_str 00000;fe_bl 00000;fe_non 00000".drop 1).toString.splitOn ";" do
  let [n,c]:=r.splitOn " " | continue
  let [a,k,s,w,e]:=c.toList.map fun x=>x.toNat - 48 | continue
  let f:=Lean.mkIdent n.toName
  let mut as:Array Lean.Term:=if a=1 then #[g] else #[]
  for _ in [0:k] do as:=as.push (← `(?_))
  let mut t ← if as.isEmpty then `(tactic| exact $f) else `(tactic| refine $f $as*)
  if w=1 then t ← `(tactic| with_reducible $t:tactic)
  if e=1 then t ← `(tactic| ((with_reducible refine a2y ?_); $t:tactic))
  for _ in [0:s] do t ← `(tactic| (($t:tactic); first | decide +kernel | rfl))
  ts:=ts.push (← `(Lean.Parser.Tactic.tacticSeq| $t:tactic))
 ts:=ts.push (← `(Lean.Parser.Tactic.tacticSeq| first | decide +kernel))
 `(tactic| repeat' first $[| $ts]*)
local macro_rules | `(tactic| ac_nf)=>do
 let g:=Lean.mkIdent `G
 `(tactic| (intro _ $g:ident; ac_rfl))
local macro_rules | `(tactic| eq_refl)=>do
 let g:=Lean.mkIdent `G
 `(tactic| (intro $g:ident; ac_rfl))
local macro_rules | `(tactic| exists $e)=>`(tactic| (refine $e; ac_rfl))
local macro_rules | `(tactic| exists $e,$g:ident)=>`(tactic| (intro X call n $g:ident; refine $e; ac_rfl))
theorem db0:DB d0 false bd0:=by
 delta bd0
 exists a2v ?_,G
theorem db1:DB d1 false bd1:=by
 delta bd1
 exists a2v ?_,G
theorem db2:DB d2 false bd2:=by
 delta bd2
 exists a2v ?_,G
theorem db3:DB d3 false bd3:=by
 delta bd3
 exists a2v ?_,G
 exists c1s G (own:=["a","b","size"]) (md':=[]) ?_ ?_
 ac_nf
 ac_nf
 ac_nf
 ac_nf
theorem db4:DB d4 false bd4:=by
 exists a0n ?_ ?_,G
 exists a2y (a1c G (own:=["make","on"]) (md':=[]) ?_)
 ac_nf
 ac_nf
 ac_nf
theorem db5:DB d5 false bd5:=by
 delta bd5
 exists a2v ?_,G
theorem db6:DB d6 false bd6:=by
 exists a0n ?_ ?_,G
theorem db7:DB d7 false bd7:=by
 exists a0n ?_ ?_,G
 exists a2y (a1c G (own:=["make"]) (md':=[]) ?_)
 ac_nf
 ac_nf
 ac_nf
 exists a2y (a1c G (own:=["passed"]) (md':=[]) ?_)
 ac_nf
 ac_nf
 ac_nf
theorem db8:DB d8 false bd8:=by
 exists a0n ?_ ?_,G
 exists a2y (a1c G (own:=["make"]) (md':=[]) ?_)
 ac_nf
 ac_nf
 ac_nf
 exists a2y (a1c G (own:=["ahead","behind"]) (md':=[]) ?_)
 ac_nf
 ac_nf
 ac_nf
theorem db9:DB d9 false bd9:=by
 exists a0n ?_ ?_,G
 exists a2y (a1c G (own:=["make","size"]) (md':=[]) ?_)
 ac_nf
 ac_nf
 ac_nf
theorem db10:DB d10 false d3t:=by
 delta d3t
 exists a2v ?_,G
 exists a2y (a1c G (own:=["make"]) (md':=[]) ?_)
 ac_nf
 ac_nf
 ac_nf
theorem db11:DB d11 false d3s:=by
 delta d3s
 exists a2v ?_,G
theorem db12:DB d12 false d3r:=by
 delta d3r
 exists a2v ?_,G
theorem db13:DB d13 false e0g:=by
 exists a0n ?_ ?_,G
theorem db14:DB d14 false d3q:=by
 delta d3q
 exists a2v ?_,G
theorem db15:DB d15 false d3p:=by
 delta d3p
 exists a2v ?_,G
 exists a2y (a1c G (own:=["number","kept"]) (md':=[]) ?_)
 ac_nf
 ac_nf
 ac_nf
theorem db16:DB d16 false e0f:=by
 exists a0n ?_ ?_,G
 exists a4e G (md':=[]) ?_ ?_ ?_ ?_
 eq_refl
 exists a8l G (own:=["takes","number","kept"]) (md':=[]) ?_ ?_ ?_
 ac_nf
 ac_nf
 ac_nf
theorem db17:DB d17 true e0e:=by
 exists a0n ?_ ?_,G
 exists a4e G (md':=[.imm,.imm,.imm,.imm,.own]) ?_ ?_ ?_ ?_
 eq_refl
theorem db18:DB d18 false e0d:=by
 exists a0n ?_ ?_,G
theorem db19:DB d19 false d3o:=by
 delta d3o
 exists a2v ?_,G
theorem db20:DB d20 false e0c:=by
 exists a0n ?_ ?_,G
 exists a8l G (own:=["ask","read"]) (md':=[]) ?_ ?_ ?_
 ac_nf
 ac_nf
 ac_nf
theorem db21:DB d21 false d3n:=by
 exists a0n ?_ ?_,G
 exists a2y (a1c G (own:=["number"]) (md':=[]) ?_)
 ac_nf
 ac_nf
 ac_nf
 exists a4e G (md':=[]) ?_ ?_ ?_ ?_
 eq_refl
 exists a2y (a1c G (own:=["takes","number"]) (md':=[]) ?_)
 ac_nf
 ac_nf
 ac_nf
theorem db22:DB d22 false e0b:=by
 exists a0n ?_ ?_,G
theorem db23:DB d23 true e0a:=by
 exists a0n ?_ ?_,G
theorem db24:DB d24 false d3m:=by
 exists a0n ?_ ?_,G
theorem db25:DB d25 false d9z:=by
 exists a0n ?_ ?_,G
theorem db26:DB d26 false d9y:=by
 exists a0n ?_ ?_,G
 exists a2y (a1c G (own:=["_law_k"]) (md':=[.own]) ?_)
 ac_nf
 ac_nf
 ac_nf
 exists a2y (a1c G (own:=["_law_k"]) (md':=[.own]) ?_)
 ac_nf
 ac_nf
 ac_nf
theorem db27:DB d27 false d9x:=by
 exists a0n ?_ ?_,G
 exists a2y (a1c G (own:=["_law_k"]) (md':=[.own]) ?_)
 ac_nf
 ac_nf
 ac_nf
theorem db28:DB d28 false d3l:=by
 exists a0n ?_ ?_,G
 exists a8l G (own:=["_law_k"]) (md':=[.own]) ?_ ?_ ?_
 ac_nf
 ac_nf
 ac_nf
theorem db29:DB d29 false d1x:=by
 delta d1x
 exists a2v ?_,G
 exists a2y (a1c G (own:=["_law_one"]) (md':=[]) ?_)
 ac_nf
 ac_nf
 ac_nf
theorem db30:DB d30 false d9w:=by
 exists a0n ?_ ?_,G
 exists a8l G (own:=["_law_k"]) (md':=[.own]) ?_ ?_ ?_
 ac_nf
 ac_nf
 ac_nf
theorem db31:DB d31 true d9v:=by
 exists a0n ?_ ?_,G
 exists a4e G (md':=[.imm,.imm,.imm,.imm,.own]) ?_ ?_ ?_ ?_
 eq_refl
 exists a4e G (md':=[.imm,.imm,.imm,.imm,.own]) ?_ ?_ ?_ ?_
 eq_refl
theorem db32:DB d32 false d3k:=by
 exists a0n ?_ ?_,G
 exists a2y (a1c G (own:=["_law_pair"]) (md':=[]) ?_)
 ac_nf
 ac_nf
 ac_nf
theorem db33:DB d33 false d9u:=by
 exists a0n ?_ ?_,G
 exists a4e G (md':=[]) ?_ ?_ ?_ ?_
 eq_refl
 exists a2y (a1c G (own:=["_law_end"]) (md':=[]) ?_)
 ac_nf
 ac_nf
 ac_nf
theorem db34:DB d34 false d9t:=by
 exists a0n ?_ ?_,G
 exists a2y (a1c G (own:=["_law_one"]) (md':=[.own]) ?_)
 ac_nf
 ac_nf
 ac_nf
theorem db35:DB d35 true d9s:=by
 exists a0n ?_ ?_,G
 exists a4e G (md':=[.own,.imm,.imm,.imm,.imm,.imm,.own]) ?_ ?_ ?_ ?_
 eq_refl
theorem db36:DB d36 false d9r:=by
 exists a0n ?_ ?_,G
 exists a4e G (md':=[.imm,.imm,.own]) ?_ ?_ ?_ ?_
 eq_refl
 exists a4e G (md':=[.imm,.imm,.own]) ?_ ?_ ?_ ?_
 eq_refl
noncomputable def rc (d:Df):DefRec:=⟨Γe d.name,a4t d.st,a2f d.st,a0r d.st,d1l d.st⟩
noncomputable def recs:List DefRec:=[rc d0,rc d1,rc d2,rc d3,rc d4,rc d5,rc d6,rc d7,rc d8,rc d9,rc d10,rc d11,rc d12,rc d13,rc d14,rc d15,rc d16,rc d17,rc d18,rc d19,rc d20,rc d21,rc d22,rc d23,rc d24,rc d25,rc d26,rc d27,rc d28,rc d29,rc d30,rc d31,rc d32,rc d33,rc d34,rc d35,rc d36]
noncomputable def view:Program:=c8a PySem.Challenge.pw_keepwhole_k38_sums_shown
theorem recs_eq:recs=recsOf view:=by kernel_rfl!
noncomputable def PD (K:Frag) (mg:Str→Option Value) (i:Nat) (x:Str):Prop:=∃ df fd fa fdd,tb[i]?=some fd∧Df.ok df fd.np fd.ns fd.io=true∧(∀ X call n,Good X (df.cc fns) n (spK tb call)→FSs X (df.cc fns) fd.fr (a2f df.st) (fd.body call))∧Fun K (Γe df.name) (Γe df.name) df.st fa fdd∧mg x=some (.ref fa)∧Binds K fdd df.ps []
local macro_rules | `(tactic| exists $d,$b,$j,$u)=>`(tactic| (refine And.intro (have ⟨fa,fd,m,F⟩:=DIn.fn (by assumption) ((by assumption:∀ d∈recs,DIn _ _ d) (rc $d) (List.mem_of_getElem? (i:=$j) rfl)); ⟨$d,_,fa,fd,rfl,by decide +kernel,$b,F,m,F.binds fun _ _ _ _ _ _ us hl=>$u (P:=fun us=>bindArgs _ ⟨us,[]⟩=pure (List.zip _ us)) hl (by intros; first | kernel_rfl! | rfl)⟩) ?_))
theorem d9a {K:Frag} {h:Heap} {mg:Str→Option Value} (A:AllIn K h) (D:∀ d∈recs,DIn K mg d):EachI (PD K mg) 0 fns:=by
 exists d0,db0,0,us1
 exists d1,db1,1,us2
 exists d2,db2,2,us2
 exists d3,db3,3,us1
 exists d4,db4,4,us2
 exists d5,db5,5,us2
 exists d6,db6,6,us2
 exists d7,db7,7,us2
 exists d8,db8,8,us2
 exists d9,db9,9,us1
 exists d10,db10,10,us2
 exists d11,db11,11,us2
 exists d12,db12,12,us2
 exists d13,db13,13,us3
 exists d14,db14,14,us3
 exists d15,db15,15,us3
 exists d16,db16,16,us3
 exists d17,db17,17,us4
 exists d18,db18,18,us6
 exists d19,db19,19,us2
 exists d20,db20,20,us4
 exists d21,db21,21,us4
 exists d22,db22,22,us2
 exists d23,db23,23,us2
 exists d24,db24,24,us2
 exists d25,db25,25,us2
 exists d26,db26,26,us2
 exists d27,db27,27,us2
 exists d28,db28,28,us2
 exists d29,db29,29,us1
 exists d30,db30,30,us2
 exists d31,db31,31,us3
 exists d32,db32,32,us3
 exists d33,db33,33,us5
 exists d34,db34,34,us2
 exists d35,db35,35,us4
 exists d36,db36,36,us1
 trivial
theorem law_fn (w:World) (K:Frag) (mg:Str→Option Value) (fa:Addr) (h:Heap) (A:AllIn K h) (D:∀ d∈recs,DIn K mg d) (blt:∀ b∈bltNames,mg (Γe b)=none) (hm:mg (Γe "law")=some (.ref fa)) :
  ∃ fd:FuncData,(∀ (s:Shared) (u:Value),BindsTo s fd ⟨[u],[]⟩ [(Γe "_law_script",u)])∧∀ base:Heap,FnOk PySem.Challenge.pw_keepwhole_k38_sums_shown w K mg base CX0 14 fa fd [Γe "_law_script"] (spT K tb (callW tb 14) 36):=by
 obtain ⟨fa2,fd,m,F⟩:=DIn.fn A (D (rc d36) (List.mem_of_getElem? (i:=36) rfl))
 have e:=hm.symm.trans m
 cases e
 have E:∀ (f:Nat) (x:Str),fns[f]?=some x→PD K mg f x:=fun f x hx=>by
  have:=EachI.get (d9a A D) f x hx
  rwa [Nat.zero_add] at this
 refine ⟨fd,?_,fun base=>b8c (df:=d36) F rfl (by nofun) db36 (b9k blt E 13) blt⟩
 obtain ⟨oc,od,kV,doc,pm,an,cdv,ct,osl,rfl,lk,hcd⟩:=F.ex
 exact fun s v=>.of_eq rfl
end Kq
end
set_option maxHeartbeats 0
section
open PySem PySem.W PyProof.Rows
theorem Kq.said : PySem.Challenge.rw_keepwhole_k38_sums_shown.wellSaid = true := by nofun
theorem Kq.left : LeftO PySem.Challenge.rw_keepwhole_k38_sums_shown.prog Kq.view [] (fun s => xlAt Kq.view [] s && recOk (RowW.records PySem.Challenge.rw_keepwhole_k38_sums_shown.row.toRowW) s) (fun _ => ()) (fun _ => ()) 3000 := by
  intro w
  kernel_rfl!
theorem Kq.freeAll : (Kq.bltNames.all fun b => Kq.freeIn Kq.view (looseW Kq.view []) (Str.ofString b)) = true := by nofun
theorem Kq.hdef : defOf Kq.view PySem.Challenge.rw_keepwhole_k38_sums_shown.name = some (Kq.rc Kq.d36, []) := by kernel_rfl!
theorem Kq.hp : PySem.Challenge.rw_keepwhole_k38_sums_shown.prog.theDef PySem.Challenge.rw_keepwhole_k38_sums_shown.name = some ((Kq.rc Kq.d36).params, (Kq.rc Kq.d36).body, (Kq.rc Kq.d36).scope) := by kernel_rfl!
theorem Kq.okq : (chainsOk Kq.view && opensWell PySem.Challenge.rw_keepwhole_k38_sums_shown.prog && (frees PySem.Challenge.rw_keepwhole_k38_sums_shown.row.toRowW && PySem.Challenge.rw_keepwhole_k38_sums_shown.row.within.isEmpty)) = true := by nofun
theorem Kq.prom : PySem.Challenge.rw_keepwhole_k38_sums_shown.row.toRowW.promised := ⟨[.list []], by nofun, by nofun⟩
theorem PySem.Challenge.cw_keepwhole_k38_sums_shown_holds : PySem.Challenge.rw_keepwhole_k38_sums_shown.Holds :=
  Kq.row_holds Kq.said Kq.left Kq.hdef Kq.hp rfl rfl Kq.okq ⟨rfl, rfl, rfl, rfl, rfl, by nofun⟩ Kq.prom (Kq.walk2 (n := 63) (k := 14) (ds := Kq.recs) (x := Str.ofString "_law_script") (sp := fun K => Kq.spT K Kq.tb (Kq.callW Kq.tb 14) 36) rfl (by decide) rfl ⟨rfl, by decide, by decide, rfl⟩ Kq.recs_eq Kq.freeAll Kq.law_fn fun _ _ a ns hl hO hS => Kq.law_sp rfl rfl rfl hO hS (Kq.law_val ns))
end
