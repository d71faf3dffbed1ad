import PyProof.Rows.All
import Wide.All
import OpenK.AllK
import Wide.FinOn
import Lean
import PyProof.EqAt
import PyProof.EqKinds
import PyProof.TupleCall
import PyProof.DictCompW
import PyProof.Rows.Range3
import KE.KRevIter
import PyProof.AutoRange
import PyProof.FactsAll.range_2
import PyProof.Rows.CallKwBuiltin
import PyProof.ListRange
import PyProof.TupleOfGen
import PyProof.P3Eq
import PyProof.Rows.RowHeap
import PyProof.CollectIter
import PyProof.WalksMore
import PyProof.AutoSeq1
import KE.KListMore
import PyProof.AttrMissHeap
import KE.KDictOf
import KE.KSortTup
import PyProof.Rows.SortWalk
import PyProof.SumWalkG
import PyProof.DictWalks
import KE.KDictSum
import PySem.Challenge.RW_keepwhole_k24_things_that_show_no_reads
open PySem renaming wpAny_bind → Γa
open PySem renaming wpAny_pure → Γb
open PySem.Heap renaming get?_push_of_some → Γc
open PySem.W renaming Frag → Γd
open PySem.Str renaming ofString → Γe
open PySem.Heap renaming get?_update_other → Γf
open PySem renaming wpAny_holding → Γg
local macro_rules | `(tactic| nofun) => `(tactic| decide +kernel)
set_option Elab.async false
set_option linter.all false
set_option maxRecDepth 100000
section
namespace L2
open PySem PySem.Spec PyProof.Rows
abbrev Key:=Sum Int Str
def b4b:Key→Value→Bool
 | .inl k,v=>Value.isInt k v
 | .inr x,v=>Value.isStrOf x v
def keyH (w:World):Key→Int
 | .inl k=>hashInt k
 | .inr x=>hashStr w x
theorem a1b:∀ {k:Key} {v:Value},b4b k v=true→(∃ i t,k=Sum.inl i∧v=Value.int i t) ∨ (∃ x t,k=Sum.inr x∧v=Value.str x t)
 | .inl i,v,h=>by
  obtain ⟨t,e⟩:=Value.isInt_shape (k:=i) (v:=v) h
  exact .inl ⟨i,t,rfl,e⟩
 | .inr x,v,h=>by
  obtain ⟨t,e⟩:=Value.isStrOf_shape (x:=x) (v:=v) h
  exact .inr ⟨x,t,rfl,e⟩
theorem b6p (i:Int) (t:Tok):b4b (.inl i) (.int i t)=true:=by simp [b4b,Value.isInt]
theorem b6o (x:Str) (t:Tok):b4b (.inr x) (.str x t)=true:=by simp [b4b,Value.isStrOf]
theorem c9u (a b:Int):decide ((Sum.inl a:Key)=Sum.inl b)=(a == b):=by
 by_cases e:a=b
 ·subst e; simp
 ·have h:¬ (Sum.inl a:Key)=Sum.inl b:=fun q=>e (Sum.inl.inj q)
  rw [decide_eq_false h]
  exact (beq_eq_false_iff_ne.mpr e).symm
theorem c9r (a b:Str):decide ((Sum.inr a:Key)=Sum.inr b)=decide (a=b):=by
 by_cases e:a=b
 ·subst e; simp
 ·have h:¬ (Sum.inr a:Key)=Sum.inr b:=fun q=>e (Sum.inr.inj q)
  rw [decide_eq_false h,decide_eq_false e]
theorem c9t (a:Int) (b:Str):decide ((Sum.inl a:Key)=Sum.inr b)=false:=decide_eq_false (fun q=>nomatch q)
theorem c9s (a:Str) (b:Int):decide ((Sum.inr a:Key)=Sum.inl b)=false:=decide_eq_false (fun q=>nomatch q)
def a0w (prog:Program) (w:World):PySem.KeyKind prog w Key where
 is:=b4b
 hash:=keyH w
 inj:=fun v a b ha hb=>by
  rcases a1b ha with ⟨i,t,rfl,rfl⟩ | ⟨x,t,rfl,rfl⟩
  ·rcases a1b hb with ⟨j,u,rfl,e⟩ | ⟨y,u,rfl,e⟩
   ·injection e with e1 _; rw [e1]
   ·exact nomatch e
  ·rcases a1b hb with ⟨j,u,rfl,e⟩ | ⟨y,u,rfl,e⟩
   ·exact nomatch e
   ·injection e with e1 _; rw [e1]
 byValue:=fun k v h=>by
  rcases a1b h with ⟨i,t,rfl,rfl⟩ | ⟨x,t,rfl,rfl⟩ <;> rfl
 pyHash:=fun hv h=>by
  rcases a1b hv with ⟨i,t,rfl,rfl⟩ | ⟨x,t,rfl,rfl⟩
  ·exact wpAny_pyHash_int h
  ·exact wpAny_pyHash_str h
 eqBool:=fun hu hv h=>by
  rcases a1b hu with ⟨i,t,rfl,rfl⟩ | ⟨x,t,rfl,rfl⟩
  ·rcases a1b hv with ⟨j,u,rfl,rfl⟩ | ⟨y,u,rfl,rfl⟩
   ·rw [c9u] at h; exact wpAny_eqBool_int h
   ·rw [c9t] at h; exact SeqAt.EqAt.int_str i t y u _ _ _ _ h
  ·rcases a1b hv with ⟨j,u,rfl,rfl⟩ | ⟨y,u,rfl,rfl⟩
   ·rw [c9s] at h; exact SeqAt.EqAt.str_int x t j u _ _ _ _ h
   ·rw [c9r] at h; exact wpAny_eqBool_str h
 «strs»:=fun k x t v h=>by
  rcases a1b h with ⟨i,u,rfl,e⟩ | ⟨y,u,rfl,e⟩
  ·exact nomatch e
  ·injection e with e1 _
   subst e1
   cases v <;> rfl
theorem b0y (prog:Program) (w:World) (i:Int) (t:Tok):(a0w prog w).is (.inl i) (.int i t)=true:=b6p i t
theorem b0x (prog:Program) (w:World) (x:Str) (t:Tok):(a0w prog w).is (.inr x) (.str x t)=true:=b6o x t
end L2
namespace L2
open PySem PySem.Spec PyProof.Rows
inductive V where
 | non | bl (b:Bool) | int (i:Int) | str (x:Str) | byt (b:Array UInt8) | flt (b:UInt64) | ref (a:Addr) | ty (n:String)
 deriving DecidableEq
def RelV:V→Value→Prop
 | .non,u=>u=Value.none
 | .bl b,u=>u=Value.bool b
 | .int i,u=>∃ t,u=Value.int i t
 | .str x,u=>∃ t,u=Value.str x t
 | .byt b,u=>∃ t,u=Value.bytes b t
 | .flt b,u=>∃ t,u=Value.float b t
 | .ref a,u=>u=Value.ref a
 | .ty n,u=>u=Value.type n
abbrev Vals:List V→List Value→Prop:=Paired RelV
theorem Vals.length {xs:List V} {us:List Value} (r:Vals xs us):xs.length=us.length:=Paired.length r
theorem Vals.get:∀ {xs:List V} {us:List Value} {i:Nat} {x:V},Vals xs us→xs[i]?=some x→∃ u,us[i]?=some u∧RelV x u
 | _,_,_,_,.nil,e=>by simp at e
 | _,_,0,_,.cons r _,e=>by simp at e; subst e; exact ⟨_,rfl,r⟩
 | _,_,i + 1,x,.cons _ t,e=>by
  obtain ⟨u,h1,h2⟩:=Vals.get (i:=i) (x:=x) t (by simpa using e)
  exact ⟨u,by simpa using h1,h2⟩
theorem Vals.set {x:V} {u:Value} (r:RelV x u):∀ {xs:List V} {us:List Value} (i:Nat),Vals xs us→Vals (xs.set i x) (us.set i u)
 | _,_,_,.nil=>.nil
 | _,_,0,.cons _ t=>.cons r t
 | _,_,i + 1,.cons q t=>.cons q (Vals.set r i t)
theorem Vals.append:∀ {xs ys:List V} {us ws:List Value},Vals xs us→Vals ys ws→Vals (xs++ys) (us++ws)
 | _,_,_,_,.nil,s=>s
 | _,_,_,_,.cons r t,s=>.cons r (Vals.append t s)
theorem Vals.take:∀ {xs:List V} {us:List Value} (n:Nat),Vals xs us→Vals (xs.take n) (us.take n)
 | _,_,0,_=>.nil
 | _,_,_ + 1,.nil=>.nil
 | _,_,n + 1,.cons r t=>.cons r (Vals.take n t)
theorem Vals.drop:∀ {xs:List V} {us:List Value} (n:Nat),Vals xs us→Vals (xs.drop n) (us.drop n)
 | _,_,0,r=>r
 | _,_,_ + 1,.nil=>.nil
 | _,_,n + 1,.cons _ t=>Vals.drop n t
def RelO:Option V→Option Value→Prop
 | some v,some u=>RelV v u
 | none,none=>True
 | _,_=>False
def KV {κ:Type}:List (κ×V)→List (κ×Value)→Prop:=Paired fun (p:κ×V) (q:κ×Value)=>p.1=q.1∧RelV p.2 q.2
def kV:Key→V
 | .inl i=>.int i
 | .inr x=>.str x
inductive HO where
 | lst (xs:List V)
 | tup (xs:List V)
 | dK (kvs:List (Key×V)) | dT (kvs:List (List Key×V))
 | set (S:Int→Bool) (n:Nat)
 | ins (C dx:Addr) (fs:List (Str×V))
 | own (x:Addr)
 | xd (fs:List (Str×V))
 | met (f x:Addr)
 | rng (lo hi:Int)
 | frz (o:Obj) (u:HO)
 | tbl (ps:Array Value)
 | ext (φ:Heap→Prop)
abbrev Hp:=Addr→Option HO
def upd (H:Hp) (a:Addr) (o:HO):Hp:=fun b=>if b=a then some o else H b
theorem a0f {H:Hp} {a:Addr} {o:HO}:upd H a o a=some o:=by unfold upd; rw [if_pos rfl]
theorem a0e {H:Hp} {a b:Addr} {o:HO} (h:b≠a):upd H a o b=H b:=by unfold upd; rw [if_neg h]
theorem c9d {H:Hp} {a b:Addr} {o u:HO} (h:H a=some o) (h':H b=some u) (d:o≠u):a≠b:=by
 intro e; subst e; rw [h] at h'; exact d (Option.some.inj h')
theorem a0y {H:Hp} {a b:Addr} {o:HO} (h:H a=some o) (h':H b=none):a≠b:=by
 intro e; subst e; rw [h] at h'; cases h'
section
variable (P:Program) (w:World)
def ObjOk (H:Hp) (h:Heap) (a:Addr):HO→Prop
 | .lst xs=>xs.length≤sizeLine∧∃ (its:List Value) (n:Nat),Vals xs its∧h.get? a=some { cls:=.type "list",data:=.seq its.toArray n }
 | .tup xs=>xs.length≤sizeLine∧∃ its:List Value,Vals xs its∧IsTup h a its.toArray
 | .dK kvs=>kvs.length≤sizeLine∧(a == sysModules)=false∧∃ vs,KV kvs vs∧h.DictOf (a0w P w) a vs
 | .dT kvs=>kvs.length≤sizeLine∧(a == sysModules)=false∧∃ xs:List (List Key×Addr×Value),
   Paired (fun (p:List Key×V) (q:List Key×Addr×Value)=>p.1=q.1∧H q.2.1=some (.tup (p.1.map kV))∧RelV p.2 q.2.2) kvs xs ∧
   ∃ o es ep,h.get? a=some o∧o.ExactDict∧o.data=.dict es ep∧es.toList=xs.map (entryOfKey (tupleKind (a0w P w)))∧(xs.map (·.1)).Nodup
 | .set S n=>h.SetOf (intKind P w) a S n
 | .ins C dx fs=>H dx=some (.own a)∧fs.length≤1000∧dx≠a∧h.get? a=some (PySem.W.instObj C dx) ∧
   ∃ mA,h.Ns1 dx mA∧(∀ f,RelO (fs.lookup f) (mA f))∧PySem.Within mA (fs.map (·.1))
 | .own _=>∃ o,h.get? a=some o
 | .xd fs=>∃ mA,h.Ns1 a mA∧∀ f,RelO (fs.lookup f) (mA f)
 | .rng lo hi=>∃ t u v,h.get? a=some { cls:=.type "range",data:=.fields #[.int lo t,.int hi u,.int 1 v] }
 | .frz o u=>h.get? a=some o∧ObjOk H h a u
 | .tbl ps=>h.get? a=some { cls:=.none,data:=.fields ps }
 | .met f x=>h.get? a=some (PySem.W.methodObj (.ref f) (.ref x))
 | .ext φ=>φ h∧(∃ o,h.get? a=some o)∧∀ h1 h2:Heap,φ h1→(∀ o,h1.get? a=some o→h2.get? a=some o)→φ h2
def HOk (H:Hp) (h:Heap):Prop:=∀ a o,H a=some o→ObjOk P w H h a o
end
section
variable {P:Program} {w:World} {H H':Hp} {h h':Heap} {a:Addr} {o:HO}
theorem ObjOk.lt (x:ObjOk P w H h a o):a < h.objs.size:=by
 cases o with
 | lst xs=>obtain ⟨_,_,_,_,e⟩:=x; exact Heap.lt_size e
 | tup xs=>obtain ⟨_,_,_,p⟩:=x; exact p.lt
 | dK kvs=>obtain ⟨_,_,_,_,o,_,_,e,_⟩:=x; exact Heap.lt_size e
 | dT kvs=>obtain ⟨_,_,_,_,o,_,_,e,_⟩:=x; exact Heap.lt_size e
 | set S n=>obtain ⟨o,_,_,_,e,_⟩:=x; exact Heap.lt_size e
 | ins C dx fs=>obtain ⟨_,_,_,e,_⟩:=x; exact Heap.lt_size e
 | own y=>obtain ⟨_,e⟩:=x; exact Heap.lt_size e
 | xd fs=>obtain ⟨_,⟨_,_,_,e,_⟩,_⟩:=x; exact Heap.lt_size e
 | rng lo hi=>obtain ⟨_,_,_,e⟩:=x; exact Heap.lt_size e
 | frz ob u=>obtain ⟨e,_⟩:=x; exact Heap.lt_size e
 | tbl ps=>exact Heap.lt_size (show h.get? a=some _ from x)
 | met f y=>exact Heap.lt_size (show h.get? a=some _ from x)
 | ext φ=>obtain ⟨_,⟨_,e⟩,_⟩:=x; exact Heap.lt_size e
theorem Paired.mapP {α β:Type} {F G:α→β→Prop}:∀ {l₁:List α} {l₂:List β},Paired F l₁ l₂→(∀ a b,F a b→G a b)→Paired G l₁ l₂
 | _,_,.nil,_=>.nil
 | _,_,.cons r t,f=>.cons (f _ _ r) (Paired.mapP t f)
theorem ObjOk.stay (x:ObjOk P w H h a o) (k:∀ b u,(b=a ∨ H b=some (.own a))→h.get? b=some u→h'.get? b=some u)
  (ho:∀ b,H b=some (.own a)→H' b=some (.own a)) (ht:∀ b xs,H b=some (.tup xs)→H' b=some (.tup xs)):ObjOk P w H' h' a o:=by
 induction o with
 | lst xs=>obtain ⟨z,its,n,r,e⟩:=x; exact ⟨z,its,n,r,k _ _ (.inl rfl) e⟩
 | tup xs=>obtain ⟨z,its,r,ob,e,c⟩:=x; exact ⟨z,its,r,ob,k _ _ (.inl rfl) e,c⟩
 | dK kvs=>obtain ⟨z,y,vs,r,ob,es,ep,e,c⟩:=x; exact ⟨z,y,vs,r,ob,es,ep,k _ _ (.inl rfl) e,c⟩
 | dT kvs =>
  obtain ⟨z,y,xs,r,ob,es,ep,e,c⟩:=x
  exact ⟨z,y,xs,Paired.mapP r fun p q z=>⟨z.1,ht _ _ z.2.1,z.2.2⟩,ob,es,ep,k _ _ (.inl rfl) e,c⟩
 | set S n=>obtain ⟨ob,es,ep,t,e,c⟩:=x; exact ⟨ob,es,ep,t,k _ _ (.inl rfl) e,c⟩
 | ins C dx fs =>
  obtain ⟨d,z,ne,e,mA,⟨od,es,ep,e2,c⟩,r⟩:=x
  exact ⟨ho _ d,z,ne,k _ _ (.inl rfl) e,mA,⟨od,es,ep,k _ _ (.inr d) e2,c⟩,r⟩
 | own y=>obtain ⟨ob,e⟩:=x; exact ⟨ob,k _ _ (.inl rfl) e⟩
 | xd fs=>obtain ⟨mA,⟨od,es,ep,e,c⟩,r⟩:=x; exact ⟨mA,⟨od,es,ep,k _ _ (.inl rfl) e,c⟩,r⟩
 | rng lo hi=>obtain ⟨t,u,v,e⟩:=x; exact ⟨t,u,v,k _ _ (.inl rfl) e⟩
 | frz ob u ih=>obtain ⟨e,q⟩:=x; exact ⟨k _ _ (.inl rfl) e,ih q⟩
 | tbl ps =>
  have e:h.get? a=some { cls:=.none,data:=.fields ps }:=x
  show h'.get? a=some { cls:=.none,data:=.fields ps }
  exact k a _ (.inl rfl) e
 | met f y =>
  have e:h.get? a=some (PySem.W.methodObj (.ref f) (.ref y)):=x
  show h'.get? a=some (PySem.W.methodObj (.ref f) (.ref y))
  exact k a _ (.inl rfl) e
 | ext φ=>obtain ⟨p,⟨o,e⟩,st⟩:=x; exact ⟨st _ _ p fun o q=>k _ _ (.inl rfl) q,⟨o,k _ _ (.inl rfl) e⟩,st⟩
theorem HOk.lt (x:HOk P w H h) (e:H a=some o):a < h.objs.size:=(x a o e).lt
theorem HOk.fresh (x:HOk P w H h) (e:h.objs.size≤a):H a=none:=by
 cases q:H a with
 | none=>rfl
 | some u=>exact absurd (Nat.lt_of_lt_of_le (x.lt q) e) (Nat.lt_irrefl _)
theorem HOk.kept (x:HOk P w H h) (k:∀ b u,h.get? b=some u→h'.get? b=some u):HOk P w H h':=fun a o e =>
 (x a o e).stay (fun b u _ q=>k b u q) (fun _ q=>q) fun _ _ q=>q
theorem HOk.laid (x:HOk P w H h) (k:∀ b u,h.get? b=some u→h'.get? b=some u) (hp:h.objs.size≤a) (new:ObjOk P w (upd H a o) h' a o):HOk P w (upd H a o) h':=fun b u e=>by
 have hn:=x.fresh hp
 by_cases hb:b=a
 ·subst hb; rw [a0f] at e; cases e; exact new
 ·rw [a0e hb] at e
  exact (x b u e).stay (fun c v _ q=>k c v q) (fun c q=>by rw [a0e (a0y q hn)]; exact q) fun c xs q=>by rw [a0e (a0y q hn)]; exact q
end
def Rd (H:Hp) (a:Addr) (u:HO):Prop:=H a=some u ∨ ∃ o,H a=some (.frz o u)
theorem Rd.ok {P:Program} {w:World} {H:Hp} {h:Heap} {a:Addr} {u:HO} (r:Rd H a u) (x:HOk P w H h):ObjOk P w H h a u:=by
 rcases r with r | ⟨o,r⟩
 ·exact x a u r
 ·obtain ⟨_,q⟩:=x a _ r
  exact q
def Mut:Option HO→Prop
 | some (.lst _)=>True
 | some (.dK _)=>True
 | some (.dT _)=>True
 | some (.set _ _)=>True
 | some (.ins _ _ _)=>True
 | some (.ext _)=>True
 | _=>False
section
variable {P:Program} {w:World} {H:Hp} {h h':Heap} {x e:Addr} {o':HO}
theorem HOk.write (ok:HOk P w H h) (mu:Mut (H x)) (he:e=x ∨ H e=some (.own x)) (k:∀ b u,b≠e→h.get? b=some u→h'.get? b=some u) (heo:∃ u,h'.get? e=some u)
  (new:ObjOk P w (upd H x o') h' x o'):HOk P w (upd H x o') h':=fun b u q=>by
 have nown:∀ c y,H c=some (.own y)→c≠x:=fun c y r z=>by subst z; rw [r] at mu; exact mu
 have ntup:∀ c xs,H c=some (.tup xs)→c≠x:=fun c xs r z=>by subst z; rw [r] at mu; exact mu
 by_cases hb:b=x
 ·subst hb; rw [a0f] at q; cases q; exact new
 ·rw [a0e hb] at q
  by_cases hbe:b=e
  ·have q':H b=some (.own x):=by
    rcases he with z | z
    ·exact absurd (hbe.trans z) hb
    ·rw [hbe]; exact z
   rw [q] at q'; cases q'
   obtain ⟨v,hv⟩:=heo
   exact ⟨v,by rw [hbe]; exact hv⟩
  ·refine (ok b u q).stay (fun c v hc r=>k c v ?_ r) (fun c r=>by rw [a0e (nown c b r)]; exact r) fun c xs r=>by rw [a0e (ntup c xs r)]; exact r
   rcases hc with rfl | hc
   ·exact hbe
   ·rintro rfl
    rcases he with z | z
    ·exact nown c b hc z
    ·rw [hc] at z; cases z; exact hb rfl
end
structure Un (fs ex:List Addr) (H H':Hp) (h h':Heap):Prop where
 keep:∀ b o,h.get? b=some o→H b=none→b ∉ fs→b ∉ ex→h'.get? b=some o
 slot:∀ b o,h.get? b=some o→H b=none→b∈fs→b ∉ ex→∃ sl,h'.get? b=some { o with slots:=sl }
 free:∀ b o,h.get? b=some o→H b=none→b ∉ ex→H' b=none
 there:∀ b o,h.get? b=some o→b ∉ ex→∃ o',h'.get? b=some o'
 tups:∀ b xs,H b=some (.tup xs)→H' b=some (.tup xs)
 frzs:∀ b o u,H b=some (.frz o u)→H' b=some (.frz o u)
 tbls:∀ b ps,H b=some (.tbl ps)→∃ more,H' b=some (.tbl (ps++more))
section
variable {fs fs' ex ex':List Addr} {H H1 H2:Hp} {h h1 h2 h':Heap} {a x e:Addr} {o:HO}
theorem Un.any (u:Un fs ex H H1 h h1) {b:Addr} {ob:Obj} (q:h.get? b=some ob) (n:H b=none) (hx:b ∉ ex):∃ sl,h1.get? b=some { ob with slots:=sl }:=by
 by_cases hb:b∈fs
 ·exact u.slot b ob q n hb hx
 ·exact ⟨ob.slots,u.keep b ob q n hb hx⟩
theorem Un.trans (a:Un fs ex H H1 h h1) (b:Un fs ex H1 H2 h1 h2):Un fs ex H H2 h h2 where
 keep:=fun c ob q n hc hx=>b.keep c ob (a.keep c ob q n hc hx) (a.free c ob q n hx) hc hx
 slot:=fun c ob q n hc hx=>by
  obtain ⟨sl,e1⟩:=a.slot c ob q n hc hx
  obtain ⟨sl',e2⟩:=b.slot c _ e1 (a.free c ob q n hx) hc hx
  exact ⟨sl',e2⟩
 free:=fun c ob q n hx=>by
  obtain ⟨o',e1⟩:=a.there c ob q hx
  exact b.free c o' e1 (a.free c ob q n hx) hx
 there:=fun c ob q hx=>by
  obtain ⟨o',e1⟩:=a.there c ob q hx
  exact b.there c o' e1 hx
 tups:=fun c xs q=>b.tups c xs (a.tups c xs q)
 frzs:=fun c ob xs q=>b.frzs c ob xs (a.frzs c ob xs q)
 tbls:=fun c ps q=>by
  obtain ⟨m1,e1⟩:=a.tbls c ps q
  obtain ⟨m2,e2⟩:=b.tbls c _ e1
  exact ⟨m1++m2,by rw [e2,Array.append_assoc]⟩
theorem Un.kept (k:∀ b u,h.get? b=some u→h'.get? b=some u):Un fs ex H H h h' :=
 ⟨fun b ob q _ _ _=>k b ob q,fun b ob q _ _ _=>⟨ob.slots,k b ob q⟩,fun _ _ _ n _=>n,fun b ob q _=>⟨ob,k b ob q⟩,fun _ _ q=>q,fun _ _ _ q=>q,fun _ ps q=>⟨#[],by rw [q]; simp⟩⟩
theorem Un.refl:Un fs ex H H h h:=Un.kept fun _ _ q=>q
theorem Un.laid (k:∀ b u,h.get? b=some u→h'.get? b=some u) (hp:h.objs.size≤a) (hn:H a=none):Un fs ex H (upd H a o) h h' where
 keep:=fun b u q _ _ _=>k b u q
 slot:=fun b u q _ _ _=>⟨u.slots,k b u q⟩
 free:=fun b u q n _=>by rw [a0e (Nat.ne_of_lt (Nat.lt_of_lt_of_le (Heap.lt_size q) hp))]; exact n
 there:=fun b u q _=>⟨u,k b u q⟩
 tups:=fun b xs q=>by rw [a0e (a0y q hn)]; exact q
 frzs:=fun b u xs q=>by rw [a0e (a0y q hn)]; exact q
 tbls:=fun b ps q=>⟨#[],by rw [a0e (a0y q hn),q]; simp⟩
theorem Un.write (mu:Mut (H x)) (he:e=x ∨ H e=some (.own x)) (k:∀ b u,b≠e→h.get? b=some u→h'.get? b=some u) (heo:∃ u,h'.get? e=some u):Un fs ex H (upd H x o) h h':=by
 have hx:∀ b,H b=none→b≠x:=fun b n z=>by subst z; rw [n] at mu; exact mu
 have hb:∀ b,H b=none→b≠e:=fun b n z=>by
  subst z
  rcases he with r | r
  ·exact hx b n r
  ·rw [n] at r; cases r
 have hm:∀ b u,H b=some u→¬ Mut (some u)→b≠x:=fun b u q nm z=>by subst z; rw [q] at mu; exact nm mu
 refine ⟨fun b u q n _ _=>k b u (hb b n) q,fun b u q n _ _=>⟨u.slots,k b u (hb b n) q⟩,fun b u q n _=>by rw [a0e (hx b n)]; exact n,fun b u q _=>?_,
  fun b xs q=>by rw [a0e (hm b _ q fun z=>z)]; exact q,fun b u xs q=>by rw [a0e (hm b _ q fun z=>z)]; exact q,fun b ps q=>⟨#[],by rw [a0e (hm b _ q fun z=>z),q]; simp⟩⟩
 by_cases hbe:b=e
 ·subst hbe; exact heo
 ·exact ⟨u,k b u hbe q⟩
end
def trk (h:Heap) (H:Hp):List Addr:=(List.range h.objs.size).filter fun a=>(H a).isSome
def c0q (h:Heap) (H:Hp):Heap:=PySem.W.hideAll h (trk h H)
theorem b7b (h:Heap) (H:Hp):(c0q h H).objs.size=h.objs.size:=PySem.W.hideAll_size _ _
theorem c0p {h:Heap} {H:Hp} {b:Addr} {o:Obj} (e:h.get? b=some o) (n:H b=none):(c0q h H).get? b=some o :=
 PySem.W.hideAll_get _ e fun hm=>by
  have q:(H b).isSome=true:=(List.mem_filter.mp hm).2
  rw [n] at q; simp at q
theorem c4q {h:Heap} {H:Hp} {b:Addr} {o:Obj} (e:(c0q h H).get? b=some o):h.get? b=some o∧H b=none:=by
 have e':h.get? b=some o:=PySem.W.of_hideAll (trk h H) e
 refine ⟨e',?_⟩
 cases q:H b with
 | none=>rfl
 | some x =>
  have hm:b∈trk h H:=List.mem_filter.mpr ⟨List.mem_range.mpr (Heap.lt_size e'),by simp [q]⟩
  have z:(c0q h H).get? b=none:=PySem.W.hideAll_none (trk h H) hm
  rw [z] at e; cases e
def c6f (g h:Heap) (L:Addr):List (Addr×Obj):=(List.range h.objs.size).filterMap fun a=>if a=L ∨ (g.get? a).isSome=true then none else (h.get? a).map fun o=>(a,o)
def rest (g h:Heap) (L d:Addr):List (Addr×Obj):=(c6f g h L).filter fun p=>decide (p.1≠d)
end L2
namespace L2
open PySem PySem.Spec PyProof.Rows
structure Mod (K:Γd) (mg:Str→Option Value) (base:Heap):Prop where
 kin:K.In base
 glob:base.Ns mainGlobals mg
 blt:∃ mb,base.Ns builtinsNs mb∧∀ x:Str,x≠"__name__"→mb x=bootBuiltins x
 nolimit:base.NoLimit
structure Cx where
 prog:Program
 w:World
 K:Γd
 mg:Str→Option Value
 base:Heap
 A:Around
 N:List Str
 s₀:Shared
 H₀:Hp
 env:Env
 outer:List Env
 stack:List Env
 ex:List Addr
 fn:Str→Bool
 calm:Bool
 pn:List (Addr×Obj)
 xe:Value→Shared→Prop
def frs (l:List Env):List Addr:=l.filterMap (·.frame)
abbrev Cx.fs (X:Cx):List Addr:=frs X.outer
def Vis (sc:Scope) (x:Str):Prop:=sc.names.lookup x=some .local ∨ sc.names.lookup x=some .cell ∨ sc.names.lookup x=some .free
def Loc (sc:Scope) (x:Str):Prop:=sc.names.lookup x=some .local ∨ sc.names.lookup x=some .cell
def Look (env:Env) (h:Heap) (m:Str→Option Value) (x:Str) (u:Value):Prop :=
 (env.kindOf x=some .local∧m x=some u) ∨ ((env.kindOf x=some .cell ∨ env.kindOf x=some .free)∧∃ c,env.cells.lookup x=some c∧h.IsCell c (some u))
structure Cx.Ok (X:Cx):Prop where
 mod:Mod X.K X.mg X.base
 kind:X.env.scope.kind=.function
 glob:X.env.globals=mainGlobals
 blt:X.env.builtins=builtinsNs
 above:X.s₀.heap.objs.size≤X.env.locals
 inj:∀ x y c,X.env.cells.lookup x=some c→X.env.cells.lookup y=some c→x=y
 has:∀ x,(X.env.kindOf x=some .cell ∨ X.env.kindOf x=some .free)→∃ c,X.env.cells.lookup x=some c
 cab:∀ x c,X.fn x=true→X.env.cells.lookup x=some c→X.s₀.heap.objs.size≤c
 hd:X.calm=true→X.A.handled=none
 frames:X.A.frames=some X.stack
 stk:X.stack=X.outer ∨ (X.stack=X.env :: X.outer∧X.env.frame=some X.env.locals)
 exf:∀ b∈X.ex,b≠X.env.locals∧∀ x c,X.env.cells.lookup x=some c→c≠b
 bs:∀ b o,X.base.get? b=some o→X.s₀.heap.get? b=some o∧X.H₀ b=none
 bsz:X.base.objs.size≤X.s₀.heap.objs.size
 noex:∀ b o,X.base.get? b=some o→b ∉ X.ex
 exfs:∀ b∈X.ex,b ∉ X.fs
 funs:X.s₀.heap.FunFrames X.base X.outer
 frf:∀ b∈X.fs,X.H₀ b=none
structure Inv (X:Cx) (pins:List (Addr×Obj)) (σ:List (Option V)) (H:Hp) (s:Shared):Prop where
 ok:X.Ok
 os:s.os=X.s₀.os
 bare:AllBare s.gens
 base:Un X.fs X.ex X.H₀ H X.s₀.heap s.heap
 loc:∃ m,s.heap.Ns X.env.locals m∧∀ (i:Nat) (x:Str) (v:V),X.N[i]?=some x→σ[i]?=some (some v)→Vis X.env.scope x→∃ u,RelV v u∧Look X.env s.heap m x u
 cell:∀ x c,X.env.cells.lookup x=some c→∃ v,s.heap.IsCell c v
 free:H X.env.locals=none
 freeC:∀ x c,X.env.cells.lookup x=some c→H c=none
 pin:∀ p∈X.pn++pins,s.heap.get? p.1=some p.2∧H p.1=none∧p.1≠X.env.locals∧p.1 ∉ X.fs∧∀ v,p.2.data≠.cell v
 hok:HOk X.prog X.w H s.heap
 len:σ.length=X.N.length
section
variable {X:Cx} {pins:List (Addr×Obj)} {σ:List (Option V)} {H H':Hp} {s:Shared} {h':Heap}
theorem Cx.Ok.nofr (ok:X.Ok) {b:Addr} {o:Obj} (e:X.base.get? b=some o):b ∉ X.fs:=fun hb=>by
 have:=(ok.funs.mem hb).1
 rw [e] at this; cases this
theorem Inv.bs (I:Inv X pins σ H s):∀ b o,X.base.get? b=some o→s.heap.get? b=some o∧H b=none:=fun b o e =>
 ⟨I.base.keep b o (I.ok.bs b o e).1 (I.ok.bs b o e).2 (I.ok.nofr e) (I.ok.noex b o e),I.base.free b o (I.ok.bs b o e).1 (I.ok.bs b o e).2 (I.ok.noex b o e)⟩
theorem Inv.bk (I:Inv X pins σ H s):∀ b o,X.base.get? b=some o→s.heap.get? b=some o:=fun b o e=>(I.bs b o e).1
theorem Inv.mod (I:Inv X pins σ H s):Mod X.K X.mg X.base:=I.ok.mod
theorem Inv.kIn (I:Inv X pins σ H s):X.K.In s.heap:=I.ok.mod.kin.keeps I.bk
theorem Inv.nolimit (I:Inv X pins σ H s):s.heap.NoLimit:=I.ok.mod.nolimit.keeps I.bk
theorem Inv.lt (I:Inv X pins σ H s):X.env.locals < s.heap.objs.size:=let ⟨_,hn,_⟩:=I.loc; hn.lt
theorem Inv.sz (I:Inv X pins σ H s):X.s₀.heap.objs.size≤s.heap.objs.size:=Nat.le_trans I.ok.above (Nat.le_of_lt I.lt)
theorem Inv.nofs (I:Inv X pins σ H s) {a:Addr} (h:s.heap.objs.size≤a):a ∉ X.fs:=fun hb=>by
 obtain ⟨_,o,ho,_⟩:=I.ok.funs.mem hb
 exact absurd (Nat.lt_of_lt_of_le (Heap.lt_size ho) (Nat.le_trans I.sz h)) (Nat.lt_irrefl _)
theorem Inv.cne (I:Inv X pins σ H s):∀ x c,X.env.cells.lookup x=some c→c≠X.env.locals:=fun x c e z=>by
 obtain ⟨v,o,ho,hd⟩:=I.cell x c e
 obtain ⟨m,⟨o',es,ep,ho',hd',_⟩,_⟩:=I.loc
 rw [z,ho'] at ho; cases ho; rw [hd'] at hd; cases hd
theorem Inv.funs (I:Inv X pins σ H s):s.heap.FunFrames X.base X.outer:=by
 have all:∀ (l:List Env),(∀ b∈frs l,b∈X.fs)→X.s₀.heap.FunFrames X.base l→s.heap.FunFrames X.base l:=by
  intro l
  induction l with
  | nil=>intro _ _; trivial
  | cons env r ih =>
   intro hs hl
   obtain ⟨hk,⟨L,o,hf,hn,ho,hd⟩,hr⟩:=hl
   have hL:L∈X.fs:=hs L (by unfold frs; rw [List.filterMap_cons,hf]; exact List.mem_cons_self)
   obtain ⟨sl,e⟩:=I.base.slot L o ho (I.ok.frf L hL) hL fun z=>I.ok.exfs L z hL
   exact ⟨hk,⟨L,_,hf,hn,e,hd⟩,ih (fun b hb=>hs b (by unfold frs; rw [List.filterMap_cons,hf]; exact List.mem_cons_of_mem _ hb)) hr⟩
 exact all X.outer (fun _ hb=>hb) I.ok.funs
theorem Inv.stack (I:Inv X pins σ H s):s.heap.FunFrames X.base X.stack:=by
 rcases I.ok.stk with e | ⟨e,hf⟩
 ·rw [e]; exact I.funs
 ·rw [e]
  obtain ⟨m,hn,_⟩:=I.loc
  refine .cons (by rw [I.ok.kind]; decide) hf hn ?_ I.funs
  exact Heap.get?_none_of_le (Nat.le_trans I.ok.bsz I.ok.above)
theorem Inv.stkSub (I:Inv X pins σ H s):∀ b∈frs X.stack,b∈X.env.locals :: X.fs:=fun b hb=>by
 rcases I.ok.stk with e | ⟨e,hf⟩
 ·rw [e] at hb; exact List.mem_cons_of_mem _ hb
 ·rw [e] at hb
  unfold frs at hb
  rw [List.filterMap_cons,hf] at hb
  exact hb
theorem Inv.stkFree (I:Inv X pins σ H s):∀ b∈frs X.stack,H b=none:=fun b hb=>by
 rcases List.mem_cons.mp (I.stkSub b hb) with e | hb
 ·rw [e]; exact I.free
 ·obtain ⟨_,o,ho,_⟩:=I.ok.funs.mem hb
  exact I.base.free b o ho (I.ok.frf b hb) fun z=>I.ok.exfs b z hb
theorem Inv.step {g':Array GenState} {t':Nat} {d':Drawn} {ch:List Addr} (I:Inv X pins σ H s)
  (hch:∀ b∈ch,(b∈X.ex ∨ X.s₀.heap.objs.size≤b)∧b≠X.env.locals∧(∀ x c,X.env.cells.lookup x=some c→c≠b)∧∀ p∈X.pn++pins,p.1≠b)
  (keep:∀ b o,b≠X.env.locals→b ∉ X.fs→b ∉ ch→s.heap.get? b=some o→H b=none→h'.get? b=some o)
  (slot:∀ b o,b≠X.env.locals→b∈X.fs→b ∉ ch→s.heap.get? b=some o→H b=none→∃ sl,h'.get? b=some { o with slots:=sl }) (free:∀ b o,b ∉ ch→s.heap.get? b=some o→H b=none→H' b=none)
  (there:∀ b o,b ∉ ch→s.heap.get? b=some o→∃ o',h'.get? b=some o')
  (tups:∀ b xs,H b=some (.tup xs)→H' b=some (.tup xs)) (frzs:∀ b o u,H b=some (.frz o u)→H' b=some (.frz o u)) (tbls:∀ b ps,H b=some (.tbl ps)→∃ more,H' b=some (.tbl (ps++more)))
  (ns:∀ m,s.heap.Ns X.env.locals m→h'.Ns X.env.locals m) (hok:HOk X.prog X.w H' h') (hg:AllBare g') :
  Inv X pins σ H' { s with heap:=h',gens:=g',drawn:=d',toks:=t' }:=by
 have neL:∀ b o,X.s₀.heap.get? b=some o→b≠X.env.locals:=fun b o e=>Nat.ne_of_lt (Nat.lt_of_lt_of_le (Heap.lt_size e) I.ok.above)
 have neC:∀ b o,X.s₀.heap.get? b=some o→b ∉ X.ex→b ∉ ch:=fun b o e hx hb=>by
  rcases (hch b hb).1 with z | z
  ·exact hx z
  ·exact absurd (Nat.lt_of_lt_of_le (Heap.lt_size e) z) (Nat.lt_irrefl _)
 have cellK:∀ x c,X.env.cells.lookup x=some c→∀ v,s.heap.IsCell c v→h'.IsCell c v:=fun x c e v ⟨o,ho,hd⟩=>by
  have nch:c ∉ ch:=fun z=>(hch c z).2.2.1 x c e rfl
  by_cases hc:c∈X.fs
  ·obtain ⟨sl,q⟩:=slot c o (I.cne x c e) hc nch ho (I.freeC x c e)
   exact ⟨_,q,hd⟩
  ·exact ⟨o,keep c o (I.cne x c e) hc nch ho (I.freeC x c e),hd⟩
 refine ⟨I.ok,I.os,hg,⟨fun b o e n hb hx=>?_,fun b o e n hb hx=>?_,fun b o e n hx=>?_,fun b o e hx=>?_,fun b xs e=>tups b xs (I.base.tups b xs e),fun b o xs e=>frzs b o xs (I.base.frzs b o xs e),fun b ps e=>?_⟩,?_,fun x c e=>?_,?_,fun x c e=>?_,fun p hp=>?_,hok,I.len⟩
 ·exact keep b o (neL b o e) hb (neC b o e hx) (I.base.keep b o e n hb hx) (I.base.free b o e n hx)
 ·obtain ⟨sl,e1⟩:=I.base.slot b o e n hb hx
  obtain ⟨sl',e2⟩:=slot b _ (neL b o e) hb (neC b o e hx) e1 (I.base.free b o e n hx)
  exact ⟨sl',e2⟩
 ·obtain ⟨o',e1⟩:=I.base.there b o e hx
  exact free b o' (neC b o e hx) e1 (I.base.free b o e n hx)
 ·obtain ⟨o',e1⟩:=I.base.there b o e hx
  exact there b o' (neC b o e hx) e1
 ·obtain ⟨m1,e1⟩:=I.base.tbls b ps e
  obtain ⟨m2,e2⟩:=tbls b _ e1
  exact ⟨m1++m2,by rw [e2,Array.append_assoc]⟩
 ·obtain ⟨m,hn,hl⟩:=I.loc
  refine ⟨m,ns m hn,fun i x v e1 e2 e3=>?_⟩
  obtain ⟨u,r,l⟩:=hl i x v e1 e2 e3
  refine ⟨u,r,?_⟩
  rcases l with l | ⟨k,c,e,z⟩
  ·exact .inl l
  ·exact .inr ⟨k,c,e,cellK x c e _ z⟩
 ·obtain ⟨v,z⟩:=I.cell x c e
  exact ⟨v,cellK x c e v z⟩
 ·obtain ⟨m,⟨o,_,_,ho,_⟩,_⟩:=I.loc
  exact free _ o (fun z=>(hch _ z).2.1 rfl) ho I.free
 ·obtain ⟨v,o,ho,hd⟩:=I.cell x c e
  exact free c o (fun z=>(hch c z).2.2.1 x c e rfl) ho (I.freeC x c e)
 ·obtain ⟨e,n,ne,nf,d⟩:=I.pin p hp
  have nch:p.1 ∉ ch:=fun z=>(hch p.1 z).2.2.2 p hp rfl
  exact ⟨keep p.1 p.2 ne nf nch e n,free p.1 p.2 nch e n,ne,nf,d⟩
theorem Inv.un {t':Nat} (I:Inv X pins σ H s) (u:Un X.fs [] H H' s.heap h') (hok:HOk X.prog X.w H' h'):Inv X pins σ H' { s with heap:=h',toks:=t' }:=by
 obtain ⟨m,⟨o,es,ep,ho,r⟩,_⟩:=id I.loc
 obtain ⟨sl,hL⟩:=u.any ho I.free (by simp)
 exact I.step (g':=s.gens) (d':=s.drawn) (ch:=[]) (fun _ z=>nomatch z) (fun b o _ hb _ e n=>u.keep b o e n hb (by simp)) (fun b o _ hb _ e n=>u.slot b o e n hb (by simp)) (fun b o _ e n=>u.free b o e n (by simp)) (fun b o _ e=>u.there b o e (by simp)) u.tups u.frzs u.tbls (fun m' hm=>by
  obtain ⟨o',es',ep',ho',r'⟩:=hm
  rw [ho] at ho'; cases ho'
  exact ⟨_,es',ep',hL,r'⟩) hok I.bare
theorem Inv.call {g':Array GenState} {t':Nat} {d':Drawn} {ch:List Addr} (I:Inv X pins σ H s) (u:Un (frs X.stack) ch H H' s.heap h') (hok:HOk X.prog X.w H' h') (hg:AllBare g')
  (hch:∀ b∈ch,(b∈X.ex ∨ X.s₀.heap.objs.size≤b)∧b≠X.env.locals∧(∀ x c,X.env.cells.lookup x=some c→c≠b)∧∀ p∈X.pn++pins,p.1≠b) :
  Inv X pins σ H' { s with heap:=h',gens:=g',drawn:=d',toks:=t' }:=by
 obtain ⟨m,⟨o,es,ep,ho,r⟩,_⟩:=id I.loc
 obtain ⟨sl,hL⟩:=u.any ho I.free fun z=>(hch _ z).2.1 rfl
 exact I.step (ch:=ch) hch (fun b o hL hb hc e n=>u.keep b o e n (fun z=>(List.mem_cons.mp (I.stkSub b z)).elim hL hb) hc) (fun b o _ _ hc e n=>u.any e n hc) (fun b o hc e n=>u.free b o e n hc) (fun b o hc e=>u.there b o e hc) u.tups u.frzs u.tbls (fun m' hm=>by
  obtain ⟨o',es',ep',ho',r'⟩:=hm
  rw [ho] at ho'; cases ho'
  exact ⟨_,es',ep',hL,r'⟩) hok hg
theorem Inv.turned {t':Nat} {it:Addr} (I:Inv X pins σ H s) (k:∀ b o,b≠it→s.heap.get? b=some o→h'.get? b=some o) (hn:H it=none) (hL:it≠X.env.locals)
  (h1:it∈X.ex ∨ X.s₀.heap.objs.size≤it) (h2:∀ x c,X.env.cells.lookup x=some c→c≠it) (h3:∀ p∈X.pn++pins,p.1≠it):Inv X pins σ H { s with heap:=h',toks:=t' }:=by
 have nit:∀ b u,H b=some u→b≠it:=fun b u e z=>by rw [z,hn] at e; cases e
 refine I.step (g':=s.gens) (d':=s.drawn) (ch:=[it]) (fun b hb=>?_) (fun b o _ _ hc e _=>k b o (fun z=>hc (by simp [z])) e) (fun b o _ _ hc e _=>⟨o.slots,k b o (fun z=>hc (by simp [z])) e⟩) (fun _ _ _ _ n=>n)
  (fun b o hc e=>⟨o,k b o (fun z=>hc (by simp [z])) e⟩) (fun _ _ e=>e) (fun _ _ _ e=>e) (fun b ps e=>⟨#[],by rw [e]; simp⟩) (fun m hm=>?_) (fun b u e=>?_) I.bare
 ·have e:b=it:=by simpa using hb
  subst e
  exact ⟨h1,hL,h2,h3⟩
 ·obtain ⟨o,es,ep,ho,r⟩:=hm
  exact ⟨o,es,ep,k _ o (Ne.symm hL) ho,r⟩
 ·refine (I.hok b u e).stay (fun c v hc q=>k c v ?_ q) (fun _ q=>q) fun _ _ q=>q
  rcases hc with z | z
  ·rw [z]; exact nit b u e
  ·exact nit c _ z
theorem Inv.tok (I:Inv X pins σ H s) (t:Nat):Inv X pins σ H { s with toks:=t }:=I.un (h':=s.heap) (t':=t) Un.refl I.hok
theorem Inv.kept {t':Nat} (I:Inv X pins σ H s) (k:∀ b u,s.heap.get? b=some u→h'.get? b=some u):Inv X pins σ H { s with heap:=h',toks:=t' }:=I.un (Un.kept k) (I.hok.kept k)
theorem Inv.laid {a:Addr} {o:HO} {t':Nat} (I:Inv X pins σ H s) (k:∀ b u,s.heap.get? b=some u→h'.get? b=some u) (hp:s.heap.objs.size≤a) (new:ObjOk X.prog X.w (upd H a o) h' a o) :
  Inv X pins σ (upd H a o) { s with heap:=h',toks:=t' }:=I.un (Un.laid k hp (I.hok.fresh hp)) (I.hok.laid k hp new)
theorem Inv.write {x e:Addr} {o:HO} {t':Nat} (I:Inv X pins σ H s) (mu:Mut (H x)) (he:e=x ∨ H e=some (.own x)) (k:∀ b u,b≠e→s.heap.get? b=some u→h'.get? b=some u) (heo:∃ u,h'.get? e=some u)
  (new:ObjOk X.prog X.w (upd H x o) h' x o):Inv X pins σ (upd H x o) { s with heap:=h',toks:=t' }:=I.un (Un.write mu he k heo) (I.hok.write mu he k heo new)
theorem Inv.weak {σ':List (Option V)} (I:Inv X pins σ H s) (hl:σ'.length=σ.length) (w:∀ (i:Nat) v,σ'[i]?=some (some v)→σ[i]?=some (some v)):Inv X pins σ' H s :=
 ⟨I.ok,I.os,I.bare,I.base,let ⟨m,hn,hl'⟩:=I.loc; ⟨m,hn,fun i x v e1 e2 e3=>hl' i x v e1 (w i v e2) e3⟩,I.cell,I.free,I.freeC,I.pin,I.hok,hl.trans I.len⟩
theorem Inv.pins_of {pins':List (Addr×Obj)} (I:Inv X pins σ H s) (h:∀ p∈pins',s.heap.get? p.1=some p.2∧H p.1=none∧p.1≠X.env.locals∧p.1 ∉ X.fs∧∀ v,p.2.data≠.cell v):Inv X pins' σ H s :=
 ⟨I.ok,I.os,I.bare,I.base,I.loc,I.cell,I.free,I.freeC,fun p hp=>(List.mem_append.mp hp).elim (fun z=>I.pin p (List.mem_append_left _ z)) (h p),I.hok,I.len⟩
theorem b2b {N:List Str} (hN:N.Nodup) {i j:Nat} {x:Str} (a:N[i]?=some x) (b:N[j]?=some x):i=j:=by
 obtain ⟨h1,e1⟩:=List.getElem?_eq_some_iff.mp a
 obtain ⟨h2,e2⟩:=List.getElem?_eq_some_iff.mp b
 exact (List.getElem_inj hN).mp (e1.trans e2.symm)
theorem a8z {M:Model} {A:Around} {E:Value→Shared→Prop} {i:Nat} {x:Str} {v:V} {u:Value} {Q:Unit→Shared→Prop} (I:Inv X pins σ H s) (hN:X.N.Nodup) (hi:X.N[i]?=some x) (hx:Loc X.env.scope x) (r:RelV v u)
  (h:∀ s',Inv X pins (σ.set i (some v)) H s'→(∃ a,Heap.SameBut a s.heap s'.heap∧(a=X.env.locals ∨ X.env.cells.lookup x=some a))→Q () s') (hf:X.fn x=true ∨ X.env.scope.names.lookup x=some .local:=by first | exact .inl rfl | exact .inr rfl | assumption):wpAny M A (storeName X.env x u) Q E s:=by
 obtain ⟨m,hn,hl⟩:=id I.loc
 have hcls:(X.env.scope.kind == .class || (X.env.scope.kind == .module && X.env.locals != X.env.globals))=false:=by rw [I.ok.kind]; rfl
 have hiσ:i < σ.length:=by rw [I.len]; exact (List.getElem?_eq_some_iff.mp hi).1
 have cne:=I.cne
 have tracked:∀ {a:Addr} {h':Heap},(∃ o,s.heap.get? a=some o∧H a=none)→Heap.SameBut a s.heap h'→HOk X.prog X.w H h':=fun {a h'} ha hs b ob e=>by
  obtain ⟨_,_,hfree⟩:=ha
  refine (I.hok b ob e).stay (fun c w' hc q=>(hs.2 c ?_).trans q) (fun _ q=>q) fun _ _ q=>q
  rintro rfl
  rcases hc with rfl | hc
  ·rw [hfree] at e; cases e
  ·rw [hfree] at hc; cases hc
 rcases hx with hk | hk
 ·refine wpAny_storeName_local hk hn (fun h' hn' hs=>?_) hcls
  obtain ⟨oL,_,_,hoL,_⟩:=id hn
  refine h _ ⟨I.ok,I.os,I.bare,⟨fun b o e n hb hx=>?_,fun b o e n hb hx=>?_,I.base.free,fun b o e hx=>?_,I.base.tups,I.base.frzs,I.base.tbls⟩,⟨_,hn',fun j y v' e1 e2 e3=>?_⟩,fun y c e=>?_,I.free,I.freeC,fun p hp=>?_,tracked ⟨oL,hoL,I.free⟩ hs,by simpa using I.len⟩ ⟨_,hs,.inl rfl⟩
  ·exact (hs.2 b (Nat.ne_of_lt (Nat.lt_of_lt_of_le (Heap.lt_size e) I.ok.above))).trans (I.base.keep b o e n hb hx)
  ·obtain ⟨sl,e1⟩:=I.base.slot b o e n hb hx
   exact ⟨sl,(hs.2 b (Nat.ne_of_lt (Nat.lt_of_lt_of_le (Heap.lt_size e) I.ok.above))).trans e1⟩
  ·obtain ⟨o',e1⟩:=I.base.there b o e hx
   exact ⟨o',(hs.2 b (Nat.ne_of_lt (Nat.lt_of_lt_of_le (Heap.lt_size e) I.ok.above))).trans e1⟩
  ·by_cases hj:j=i
   ·subst hj
    rw [hi] at e1; cases e1
    rw [List.getElem?_set_self hiσ] at e2
    cases e2
    exact ⟨u,r,.inl ⟨hk,by simp⟩⟩
   ·rw [List.getElem?_set_ne (Ne.symm hj)] at e2
    obtain ⟨u',r',q⟩:=hl j y v' e1 e2 e3
    refine ⟨u',r',?_⟩
    rcases q with ⟨k,e⟩ | ⟨k,c,e,z⟩
    ·refine .inl ⟨k,?_⟩
     have:y≠x:=fun e=>hj (b2b hN e1 (e ▸ hi))
     simp [this,e]
    ·exact .inr ⟨k,c,e,z.sameBut hs (cne y c e)⟩
  ·obtain ⟨w',z⟩:=I.cell y c e
   exact ⟨w',z.sameBut hs (cne y c e)⟩
  ·obtain ⟨e,n,ne,nf,d⟩:=I.pin p hp
   exact ⟨(hs.2 p.1 ne).trans e,n,ne,nf,d⟩
 ·have hfn:X.fn x=true:=by
   rcases hf with z | z
   ·exact z
   ·rw [z] at hk; cases hk
  obtain ⟨c,hc⟩:=I.ok.has x (.inl hk)
  obtain ⟨w',z⟩:=I.cell x c hc
  refine wpAny_storeName_cell I.ok.kind hk hc z (fun h' hc' hs=>?_)
  obtain ⟨oc,hoc,hocd⟩:=id z
  refine h { s with heap:=h' } ⟨I.ok,I.os,I.bare,⟨fun b o e n hb hx=>?_,fun b o e n hb hx=>?_,I.base.free,fun b o e hx=>?_,I.base.tups,I.base.frzs,I.base.tbls⟩,⟨m,hn.sameBut hs (Ne.symm (cne x c hc)),fun j y v' e1 e2 e3=>?_⟩,fun y c' e=>?_,I.free,I.freeC,fun p hp=>?_,tracked ⟨oc,hoc,I.freeC x c hc⟩ hs,by simpa using I.len⟩ ⟨c,hs,.inr hc⟩
  ·exact (hs.2 b (Nat.ne_of_lt (Nat.lt_of_lt_of_le (Heap.lt_size e) (I.ok.cab x c hfn hc)))).trans (I.base.keep b o e n hb hx)
  ·obtain ⟨sl,e1⟩:=I.base.slot b o e n hb hx
   exact ⟨sl,(hs.2 b (Nat.ne_of_lt (Nat.lt_of_lt_of_le (Heap.lt_size e) (I.ok.cab x c hfn hc)))).trans e1⟩
  ·obtain ⟨o',e1⟩:=I.base.there b o e hx
   exact ⟨o',(hs.2 b (Nat.ne_of_lt (Nat.lt_of_lt_of_le (Heap.lt_size e) (I.ok.cab x c hfn hc)))).trans e1⟩
  ·by_cases hj:j=i
   ·subst hj
    rw [hi] at e1; cases e1
    rw [List.getElem?_set_self hiσ] at e2
    cases e2
    exact ⟨u,r,.inr ⟨.inl hk,c,hc,hc'⟩⟩
   ·rw [List.getElem?_set_ne (Ne.symm hj)] at e2
    obtain ⟨u',r',q⟩:=hl j y v' e1 e2 e3
    refine ⟨u',r',?_⟩
    rcases q with q | ⟨k,c',e,z'⟩
    ·exact .inl q
    ·refine .inr ⟨k,c',e,z'.sameBut hs ?_⟩
     rintro rfl
     exact hj (b2b hN e1 (I.ok.inj _ _ _ e hc ▸ hi))
  ·by_cases hcc:c'=c
   ·subst hcc; exact ⟨_,hc'⟩
   ·obtain ⟨w2,z2⟩:=I.cell y c' e
    exact ⟨w2,z2.sameBut hs hcc⟩
  ·obtain ⟨e,n,ne,nf,d⟩:=I.pin p hp
   refine ⟨(hs.2 p.1 ?_).trans e,n,ne,nf,d⟩
   intro q
   rw [q,hoc] at e
   have q':oc=p.2:=Option.some.inj e
   exact d w' (by rw [← q']; exact hocd)
theorem a5t {M:Model} {A:Around} {E:Value→Shared→Prop} {i:Nat} {x:Str} {v:V} {u:Value} {Q:Unit→Shared→Prop} (I:Inv X pins σ H s) (hN:X.N.Nodup) (hi:X.N[i]?=some x) (hx:Loc X.env.scope x) (r:RelV v u)
  (h:∀ s',Inv X pins (σ.set i (some v)) H s'→Q () s') (hf:X.fn x=true ∨ X.env.scope.names.lookup x=some .local:=by first | exact .inl rfl | exact .inr rfl | assumption):wpAny M A (storeName X.env x u) Q E s :=
 a8z I hN hi hx r (fun s' I' _=>h s' I') hf
theorem Inv.call' {s':Shared} {ch:List Addr} (I:Inv X pins σ H s) (ho:s'.os=s.os) (u:Un (frs X.stack) ch H H' s.heap s'.heap) (hok:HOk X.prog X.w H' s'.heap) (hg:AllBare s'.gens)
  (hch:∀ b∈ch,(b∈X.ex ∨ X.s₀.heap.objs.size≤b)∧b≠X.env.locals∧(∀ x c,X.env.cells.lookup x=some c→c≠b)∧∀ p∈X.pn++pins,p.1≠b):Inv X pins σ H' s':=by
 obtain ⟨h',g',d',t',o'⟩:=s'
 have e:o'=s.os:=ho
 subst e
 exact I.call (g':=g') (t':=t') (d':=d') u hok hg hch
end
abbrev XK:=Value→Option Addr→Hp→Prop
abbrev St:=List (Option V)
abbrev VK:=V→Hp→Prop
abbrev TE:=St→Hp→VK→Prop
abbrev TT:=St→Hp→(Bool→Hp→Prop)→Prop
abbrev TA:=St→Hp→(List V→Hp→Prop)→Prop
structure Ends where
 nx:St→Hp→Prop
 rt:VK
 bk:St→Hp→Prop:=fun _ _=>False
 ct:St→Hp→Prop:=fun _ _=>False
abbrev TS:=Ends→St→Hp→Prop
def EP (X:Cx) (pins:List (Addr×Obj)) (σ:St) (Q:VK) (u:Value) (s':Shared):Prop:=∃ v H',Inv X pins σ H' s'∧RelV v u∧Q v H'
def TP (X:Cx) (pins:List (Addr×Obj)) (σ:St) (Q:Bool→Hp→Prop) (b:Bool) (s':Shared):Prop:=∃ H',Inv X pins σ H' s'∧Q b H'
def AP (X:Cx) (pins:List (Addr×Obj)) (σ:St) (Q:List V→Hp→Prop) (us:List Value) (s':Shared):Prop:=∃ vs H',Inv X pins σ H' s'∧Vals vs us∧Q vs H'
def SP (X:Cx) (pins:List (Addr×Obj)) (D:Ends) (f:Flow) (s':Shared):Prop :=
 match f with
 | .next=>∃ σ' H',Inv X pins σ' H' s'∧D.nx σ' H'
 | .brk=>∃ σ' H',Inv X pins σ' H' s'∧D.bk σ' H'
 | .cont=>∃ σ' H',Inv X pins σ' H' s'∧D.ct σ' H'
 | .ret u=>∃ v σ' H',Inv X pins σ' H' s'∧RelV v u∧D.rt v H'
def PE (X:Cx) (e:Expr) (t:TE):Prop :=
 ∀ (pins:List (Addr×Obj)) (s:Shared) (σ:St) (H:Hp) (Q:VK),Inv X pins σ H s→t σ H Q→wpAny (model X.prog X.w) X.A (eval e X.env) (EP X pins σ Q) X.xe s
def PT (X:Cx) (e:Expr) (t:TT):Prop :=
 ∀ (pins:List (Addr×Obj)) (s:Shared) (σ:St) (H:Hp) (Q:Bool→Hp→Prop),Inv X pins σ H s→t σ H Q→wpAny (model X.prog X.w) X.A (isTrue e X.env (eval e X.env)) (TP X pins σ Q) X.xe s
def PW (X:Cx) (e:Expr) (t:TT):Prop :=
 ∀ (whole:Sem Value) (pins:List (Addr×Obj)) (s:Shared) (σ:St) (H:Hp) (Q:Bool→Hp→Prop),Inv X pins σ H s→t σ H Q→wpAny (model X.prog X.w) X.A (isTrue e X.env whole) (TP X pins σ Q) X.xe s
theorem PW.pt {X:Cx} {e:Expr} {t:TT} (h:PW X e t):PT X e t:=h _
def PA (X:Cx) (es:List Expr) (t:TA):Prop :=
 ∀ (pos:Pos) (pins:List (Addr×Obj)) (s:Shared) (σ:St) (H:Hp) (Q:List V→Hp→Prop),Inv X pins σ H s→t σ H Q→wpAny (model X.prog X.w) X.A (spliced (backTo pos (starEach es X.env))) (AP X pins σ Q) X.xe s
def PS (X:Cx) (st:Stmt) (t:TS):Prop :=
 ∀ (pins:List (Addr×Obj)) (s:Shared) (σ:St) (H:Hp) (D:Ends),Inv X pins σ H s→t D σ H→wpAny (model X.prog X.w) X.A (exec st X.env) (SP X pins D) X.xe s
def PSs (X:Cx) (st:List Stmt) (t:TS):Prop :=
 ∀ (pins:List (Addr×Obj)) (s:Shared) (σ:St) (H:Hp) (D:Ends),Inv X pins σ H s→t D σ H→wpAny (model X.prog X.w) X.A (execs st X.env) (SP X pins D) X.xe s
theorem thn {α:Type} {t:Sem α} {Q Q':α→Shared→Prop} {M:Model} {A:Around} {E:Value→Shared→Prop} {s:Shared} (h:wpAny M A t Q E s) (hQ:∀ a s,Q a s→Q' a s):wpAny M A t Q' E s:=wpAny_mono h hQ fun _ _ x=>x
end L2
namespace L2
open PySem PySem.Spec PyProof.Rows
section
variable {X:Cx}
def c6j (i:Nat):TE:=fun σ H Q=>∃ v,σ[i]?=some (some v)∧Q v H
def tC (v:V):TE:=fun _ H Q=>Q v H
theorem b5y {i:Nat} {x:Str} {pos:Pos} (hN:X.N[i]?=some x) (hv:Vis X.env.scope x) (hd:(x == ("__debug__":Str))=false:=by decide) (hcd:(x == ("__classdict__":Str))=false:=by decide):PE X (.Name x pos) (c6j i):=by
 intro pins s σ H Q I h
 obtain ⟨v,e,h⟩:=h
 obtain ⟨m,hn,hl⟩:=I.loc
 obtain ⟨u,r,l⟩:=hl i x v hN e hv
 have fin:EP X pins σ Q u s:=⟨v,H,I,r,h⟩
 rcases l with ⟨hk,hm⟩ | ⟨hk,c,hc,hcell⟩
 ·exact wpAny_Name (wpAny_loadName_local I.ok.kind hk hn hm fin) hd
 ·rcases hk with hk | hk
  ·exact wpAny_Name (wpAny_loadName_cell I.ok.kind hk hc hcell fin) hd
  ·exact wpAny_Name (wpAny_loadName_free I.ok.kind hk hc hcell fin hcd) hd
theorem c8p {i j pos}:PE X (.Constant (.int i) j pos) (tC (.int i)):=fun _ _ _ H _ I h=>wpAny_Constant_int ⟨.int i,H,I.tok _,⟨_,rfl⟩,h⟩
theorem d4g {b j pos}:PE X (.Constant (.bool b) j pos) (tC (.bl b)):=fun _ _ _ H _ I h=>Constant_bool ⟨.bl b,H,I,rfl,h⟩
theorem c8n {j pos}:PE X (.Constant .none j pos) (tC .non):=fun _ _ _ H _ I h=>Constant_none ⟨.non,H,I,rfl,h⟩
theorem c8j {x j pos}:PE X (.Constant (.str x) j pos) (tC (.str x)):=fun _ _ _ H _ I h=>Calls.Constant_str ⟨.str x,H,I.tok _,⟨_,rfl⟩,h⟩
def Gl (X:Cx) (x:Str):Prop:=X.env.kindOf x=some .globalImplicit
theorem c5b {E:Value→Shared→Prop} {pins:List (Addr×Obj)} {s:Shared} {σ:St} {H:Hp} {x:Str} {u:Value} {pos:Pos} {Q:Value→Shared→Prop} (I:Inv X pins σ H s) (hg:Gl X x) (hm:X.mg x=some u) (h:Q u s)
  (hd:(x == ("__debug__":Str))=false:=by decide):wpAny (model X.prog X.w) X.A (eval (.Name x pos) X.env) Q E s :=
 Calls.Name_function_global I.ok.kind hg (Calls.loadGlobal_global (by rw [I.ok.glob]; exact I.mod.glob.keeps I.bk) hm h) hd
theorem a4o {E:Value→Shared→Prop} {pins:List (Addr×Obj)} {s:Shared} {σ:St} {H:Hp} {x:Str} {u:Value} {pos:Pos} {Q:Value→Shared→Prop} (I:Inv X pins σ H s) (hg:Gl X x) (hm:X.mg x=none) (hv:bootBuiltins x=some u) (h:Q u s)
  (hn:x≠"__name__":=by decide) (hd:(x == ("__debug__":Str))=false:=by decide):wpAny (model X.prog X.w) X.A (eval (.Name x pos) X.env) Q E s:=by
 obtain ⟨mb,h1,h2⟩:=I.mod.blt
 exact Calls.Name_function_global I.ok.kind hg (Calls.loadGlobal_builtin (by rw [I.ok.glob]; exact I.mod.glob.keeps I.bk) hm (by rw [I.ok.blt]; exact h1.keeps I.bk) ((h2 x hn).trans hv) h) hd
theorem c4j {x:Str} {v:V} {u:Value} {pos:Pos} (hg:Gl X x) (hm:X.mg x=none) (hv:bootBuiltins x=some u) (r:RelV v u) (hn:x≠"__name__":=by decide) (hd:(x == ("__debug__":Str))=false:=by decide):PE X (.Name x pos) (tC v) :=
 fun _ _ _ H _ I h=>a4o I hg hm hv ⟨v,H,I,r,h⟩ hn hd
variable {a b:Expr} {ta tb:TE} {pos:Pos}
def PC (X:Cx) (op:CmpOp) (a b:Expr) (t:TE):Prop :=
 ∀ (pins:List (Addr×Obj)) (s:Shared) (σ:St) (H:Hp) (Q:VK),Inv X pins σ H s→t σ H Q →
  wpAny (model X.prog X.w) X.A (eval a X.env) (fun v s₁=>wpAny (model X.prog X.w) X.A (eval b X.env) (fun u s₂=>wpAny (model X.prog X.w) X.A (compareOp op v u) (EP X pins σ Q) X.xe s₂) X.xe s₁) X.xe s
theorem a1x (b:Expr) {op:CmpOp} (h:op≠.In) (h2:op≠.NotIn):behindInMarks op b=false:=by
 have e1:(op == CmpOp.In)=false:=by cases op <;> first | rfl | exact absurd rfl h
 have e2:(op == CmpOp.NotIn)=false:=by cases op <;> first | rfl | exact absurd rfl h2
 cases b <;> simp [behindInMarks,e1,e2]
def tIsN (ta:TE):TE:=fun σ H Q=>ta σ H fun x H1=>Q (.bl (decide (x=.non))) H1
def d2x (ta:TE):TE:=fun σ H Q=>ta σ H fun x H1=>Q (.bl (!decide (x=.non))) H1
theorem RelV.none_iff {x:V} {v:Value} (r:RelV x v):(v == Value.none)=decide (x=.non):=by
 cases x with
 | non=>cases r; rfl
 | bl _=>cases r; rfl
 | int _=>obtain ⟨t,rfl⟩:=r; rfl
 | str _=>obtain ⟨t,rfl⟩:=r; rfl
 | byt _=>obtain ⟨t,rfl⟩:=r; rfl
 | flt _=>obtain ⟨t,rfl⟩:=r; rfl
 | ref _=>cases r; rfl
 | ty _=>cases r; rfl
theorem c8s {j pos'} (ha:PE X a ta):PC X .Is a (.Constant .none j pos') (tIsN ta):=by
 intro pins s σ H Q I h
 refine thn (ha pins s σ H _ I h) fun v s1 ⟨x,H1,I1,r1,q1⟩=>?_
 exact Constant_none (is_none_gen ⟨.bl _,H1,I1,by rw [r1.none_iff]; rfl,q1⟩)
theorem b6a {j pos'} (ha:PE X a ta):PC X .IsNot a (.Constant .none j pos') (d2x ta):=by
 intro pins s σ H Q I h
 refine thn (ha pins s σ H _ I h) fun v s1 ⟨x,H1,I1,r1,q1⟩=>?_
 exact Constant_none (isnot_none_gen ⟨.bl _,H1,I1,by rw [r1.none_iff]; rfl,q1⟩)
def tB (t:TE):TT:=fun σ H Q=>t σ H fun x H1=>∃ c,x=.bl c∧Q c H1
theorem c8q {op:CmpOp} {t:TE} (h:PC X op a b t) (h1:behindInMarks op b=false:=by first | exact a1x _ (by decide) (by decide) | rfl):PE X (.Compare a [op] [b] pos) t:=fun pins s σ H Q I hw=>wpAny_Compare1 (h pins s σ H Q I hw) h1
theorem c1x {op:CmpOp} {t:TE} (h:PC X op a b t) (h1:behindInMarks op b=false:=by first | exact a1x _ (by decide) (by decide) | rfl):PT X (.Compare a [op] [b] pos) (tB t):=by
 intro pins s σ H Q I hw
 refine wpAny_isTrue_Compare1 (thn (h pins s σ H _ I hw) fun v s1 h1=>thn h1 fun u s2 h2=>thn h2 fun c s3 ⟨x,H1,I1,r1,q1⟩=>?_) h1
 obtain ⟨d,rfl,q⟩:=q1
 cases r1
 exact wpAny_truthy_bool ⟨H1,I1,q⟩
variable {tA tB':TT} {rest:List Expr}
def tAnd (t u:TT):TT:=fun σ H Q=>t σ H fun c H1=>if c=true then u σ H1 Q else Q false H1
def tOr (t u:TT):TT:=fun σ H Q=>t σ H fun c H1=>if c=true then Q true H1 else u σ H1 Q
def tNot (t:TT):TT:=fun σ H Q=>t σ H fun c H1=>Q (!c) H1
theorem c3t (ha:PT X a tA):PW X (.BoolOp .And [a] pos) tA:=by
 intro wh pins s σ H Q I h
 refine isTrue_and (thn (ha pins s σ H Q I h) fun c s1 e=>?_)
 cases c with
 | true=>exact isTrue_and_nil e
 | false=>exact e
theorem c7v (ha:PT X a tA):PW X (.BoolOp .Or [a] pos) tA:=by
 intro wh pins s σ H Q I h
 refine isTrue_or (thn (ha pins s σ H Q I h) fun c s1 e=>?_)
 cases c with
 | false=>exact isTrue_or_nil e
 | true=>exact e
theorem c7w (ha:PT X a tA) (hb:PW X (.BoolOp .And (b :: rest) pos) tB'):PW X (.BoolOp .And (a :: b :: rest) pos) (tAnd tA tB'):=by
 intro wh pins s σ H Q I h
 refine isTrue_and (thn (ha pins s σ H _ I h) fun c s1 ⟨H1,I1,q1⟩=>?_)
 cases c with
 | true=>exact hb wh pins s1 σ H1 Q I1 q1
 | false=>exact ⟨H1,I1,q1⟩
theorem d4b (ha:PT X a tA) (hb:PW X (.BoolOp .Or (b :: rest) pos) tB'):PW X (.BoolOp .Or (a :: b :: rest) pos) (tOr tA tB'):=by
 intro wh pins s σ H Q I h
 refine isTrue_or (thn (ha pins s σ H _ I h) fun c s1 ⟨H1,I1,q1⟩=>?_)
 cases c with
 | true=>exact ⟨H1,I1,q1⟩
 | false=>exact hb wh pins s1 σ H1 Q I1 q1
theorem c7y (ha:PT X a tA):PT X (.UnaryOp .Not a pos) (tNot tA):=by
 intro pins s σ H Q I h
 exact isTrue_not (ha pins s σ H (fun c H1=>Q (!c) H1) I h)
def d2w (ta:TE):TE:=fun σ H Q=>ta σ H fun x H1=>∃ c,x=.bl c∧Q (.bl (!c)) H1
theorem c8l {op} {t:TE} (h:PE X a t):PE X (.BoolOp op [a] pos) t:=fun pins s σ H Q I hw=>BoolOp_one (h pins s σ H Q I hw)
theorem c8m (ha:PE X a ta):PE X (.UnaryOp .Not a pos) (d2w ta):=by
 intro pins s σ H Q I h
 refine UnaryOp_ (thn (ha pins s σ H _ I h) fun v s1 ⟨x,H1,I1,r1,q1⟩=>?_)
 obtain ⟨c,rfl,q1⟩:=q1
 cases r1
 exact not_of (wpAny_truthy_bool ⟨.bl (!c),H1,I1,rfl,q1⟩)
def tIf (t:TT) (ta tb:TE):TE:=fun σ H Q=>t σ H fun c H1=>if c=true then ta σ H1 Q else tb σ H1 Q
theorem b9y {c:Expr} (hc:PT X c tA) (ha:PE X a ta) (hb:PE X b tb):PE X (.IfExp c a b pos) (tIf tA ta tb):=by
 intro pins s σ H Q I h
 refine wpAny_IfExp (thn (hc pins s σ H _ I h) fun d s1 ⟨H1,I1,q1⟩=>?_)
 cases d with
 | true=>exact ha pins s1 σ H1 Q I1 q1
 | false=>exact hb pins s1 σ H1 Q I1 q1
end
end L2
namespace L2
open PySem PySem.Spec PyProof.Rows
def SqL (K:Γd) (H:Hp) (a:Addr) (xs:List V):Prop :=
 Rd H a (.lst xs) ∨
  ∃ (o:Obj) (its:Array Value) (n:Nat),K.lookup a=some o∧o.cls=.type "list"∧o.dict=none∧o.data=.seq its n∧its.size≤sizeLine∧Vals xs its.toList
def SqT (K:Γd) (H:Hp) (a:Addr) (xs:List V):Prop :=
 Rd H a (.tup xs) ∨
  ∃ (o:Obj) (its:Array Value) (n:Nat),K.lookup a=some o∧o.cls=.type "tuple"∧o.data=.seq its n∧its.size≤sizeLine∧Vals xs its.toList
def absV:Value→Option V
 | .none=>some .non
 | .bool b=>some (.bl b)
 | .int i _=>some (.int i)
 | .str x _=>some (.str x)
 | .bytes b _=>some (.byt b)
 | .float b _=>some (.flt b)
 | .ref a=>some (.ref a)
 | .type n=>some (.ty n)
 | _=>none
theorem RelV.abs {x:V} {u:Value} (r:RelV x u):absV u=some x:=by
 cases x with
 | non=>cases r; rfl
 | bl _=>cases r; rfl
 | int _=>obtain ⟨t,rfl⟩:=r; rfl
 | str _=>obtain ⟨t,rfl⟩:=r; rfl
 | byt _=>obtain ⟨t,rfl⟩:=r; rfl
 | flt _=>obtain ⟨t,rfl⟩:=r; rfl
 | ref _=>cases r; rfl
 | ty _=>cases r; rfl
theorem RelV.inj {x y:V} {u:Value} (r:RelV x u) (q:RelV y u):x=y:=Option.some.inj (r.abs.symm.trans q.abs)
theorem Vals.inj:∀ {xs ys:List V} {us:List Value},Vals xs us→Vals ys us→xs=ys
 | _,_,_,.nil,.nil=>rfl
 | _,_,_,.cons r t,.cons r' t'=>by rw [r.inj r',Vals.inj t t']
section
variable {X:Cx} {pins:List (Addr×Obj)} {σ:St} {H:Hp} {s:Shared} {a:Addr} {xs ys:List V}
theorem SqL.of {K:Γd} (h:H a=some (.lst xs)):SqL K H a xs:=.inl (.inl h)
theorem SqT.of {K:Γd} (h:H a=some (.tup xs)):SqT K H a xs:=.inl (.inl h)
theorem Inv.list (I:Inv X pins σ H s) (h:SqL X.K H a xs):∃ its:List Value,Vals xs its∧PlainL s.heap a its.toArray∧xs.length≤sizeLine:=by
 rcases h with h | ⟨o,its,n,hk,hc,hd,hs,hz,r⟩
 ·obtain ⟨z,its,n,r,e⟩:=h.ok I.hok
  exact ⟨its,r,⟨_,n,e,rfl,rfl,rfl⟩,z⟩
 ·refine ⟨its.toList,r,⟨o,n,I.kIn a o hk,hc,hd,by simpa using hs⟩,?_⟩
  have e:=r.length
  simp only [Array.length_toList] at e
  lia
theorem Inv.tuple (I:Inv X pins σ H s) (h:SqT X.K H a xs):∃ its:List Value,Vals xs its∧IsTup s.heap a its.toArray∧xs.length≤sizeLine:=by
 rcases h with h | ⟨o,its,n,hk,hc,hs,hz,r⟩
 ·obtain ⟨z,its,r,p⟩:=h.ok I.hok
  exact ⟨its,r,p,z⟩
 ·refine ⟨its.toList,r,⟨o,I.kIn a o hk,hc,n,by simpa using hs⟩,?_⟩
  have e:=r.length
  simp only [Array.length_toList] at e
  lia
theorem Inv.list_inj (I:Inv X pins σ H s) (h:SqL X.K H a xs) (h':SqL X.K H a ys):xs=ys:=by
 obtain ⟨its,r,⟨o,n,e,_,_,d⟩,_⟩:=I.list h
 obtain ⟨its',r',⟨o',n',e',_,_,d'⟩,_⟩:=I.list h'
 rw [e] at e'; cases e'
 rw [d] at d'
 injection d' with d1 _
 have:its=its':=by simpa using congrArg Array.toList d1
 subst this
 exact r.inj r'
theorem Inv.tuple_inj (I:Inv X pins σ H s) (h:SqT X.K H a xs) (h':SqT X.K H a ys):xs=ys:=by
 obtain ⟨its,r,⟨o,e,_,n,d⟩,_⟩:=I.tuple h
 obtain ⟨its',r',⟨o',e',_,n',d'⟩,_⟩:=I.tuple h'
 rw [e] at e'; cases e'
 rw [d] at d'
 injection d' with d1 _
 have:its=its':=by simpa using congrArg Array.toList d1
 subst this
 exact r.inj r'
end
abbrev Cx.wish (X:Cx) (E:Value→Shared→Prop):Cx:={ X with xe:=E }
abbrev Cx.nox (X:Cx):Cx:=X.wish fun _ _=>False
theorem Cx.Ok.wish {X:Cx} (ok:X.Ok) (E:Value→Shared→Prop):(X.wish E).Ok :=
 ⟨ok.mod,ok.kind,ok.glob,ok.blt,ok.above,ok.inj,ok.has,ok.cab,ok.hd,ok.frames,ok.stk,ok.exf,ok.bs,ok.bsz,ok.noex,ok.exfs,ok.funs,ok.frf⟩
theorem Cx.Ok.unwish {X:Cx} {E:Value→Shared→Prop} (ok:(X.wish E).Ok):X.Ok :=
 ⟨ok.mod,ok.kind,ok.glob,ok.blt,ok.above,ok.inj,ok.has,ok.cab,ok.hd,ok.frames,ok.stk,ok.exf,ok.bs,ok.bsz,ok.noex,ok.exfs,ok.funs,ok.frf⟩
section
variable {X:Cx} {pins:List (Addr×Obj)} {σ:St} {H:Hp} {s:Shared} {E:Value→Shared→Prop}
theorem Inv.wish (I:Inv X pins σ H s) (E:Value→Shared→Prop):Inv (X.wish E) pins σ H s:=⟨I.ok.wish E,I.os,I.bare,I.base,I.loc,I.cell,I.free,I.freeC,I.pin,I.hok,I.len⟩
theorem Inv.unwish (I:Inv (X.wish E) pins σ H s):Inv X pins σ H s:=⟨I.ok.unwish,I.os,I.bare,I.base,I.loc,I.cell,I.free,I.freeC,I.pin,I.hok,I.len⟩
theorem SP.unwish {D:Ends} {f:Flow} {s':Shared} (h:SP (X.wish E) pins D f s'):SP X pins D f s':=by
 cases f with
 | next=>obtain ⟨σ',H',I,q⟩:=h; exact ⟨σ',H',I.unwish,q⟩
 | brk=>obtain ⟨σ',H',I,q⟩:=h; exact ⟨σ',H',I.unwish,q⟩
 | cont=>obtain ⟨σ',H',I,q⟩:=h; exact ⟨σ',H',I.unwish,q⟩
 | ret u=>obtain ⟨v,σ',H',I,r,q⟩:=h; exact ⟨v,σ',H',I.unwish,r,q⟩
theorem PE.nox {e:Expr} {t:TE} (h:PE X.nox e t):PE X e t:=fun pins s σ H Q I hw =>
 wpAny_mono (h pins s σ H Q (I.wish _) hw) (fun _ _ ⟨v,H',I',r,q⟩=>⟨v,H',I'.unwish,r,q⟩) fun _ _ z=>False.elim z
theorem PT.nox {e:Expr} {t:TT} (h:PT X.nox e t):PT X e t:=fun pins s σ H Q I hw =>
 wpAny_mono (h pins s σ H Q (I.wish _) hw) (fun _ _ ⟨H',I',q⟩=>⟨H',I'.unwish,q⟩) fun _ _ z=>False.elim z
theorem PSs.nox {st:List Stmt} {t:TS} (h:PSs X.nox st t):PSs X st t:=fun pins s σ H D I hw =>
 wpAny_mono (h pins s σ H D (I.wish _) hw) (fun _ _ q=>q.unwish) fun _ _ z=>False.elim z
end
section
variable {X:Cx} {st:Stmt} {rest:List Stmt} {t u:TS} {e:Expr} {te:TE} {pos:Pos}
def d2y:TS:=fun D σ H=>D.nx σ H
def tSeq (t u:TS):TS:=fun D σ H=>t { D with nx:=u D } σ H
theorem c3w:PSs X [] d2y:=fun _ _ σ H _ I h=>wpAny_execs_nil ⟨σ,H,I,h⟩
theorem b9t (h1:PS X st t) (h2:PSs X rest u):PSs X (st :: rest) (tSeq t u):=by
 intro pins s σ H D I h
 refine wpAny_execs_cons (thn (h1 pins s σ H { D with nx:=u D } I h) fun f s1 q=>?_)
 cases f with
 | next =>
  obtain ⟨σ',H',I',q⟩:=q
  exact h2 pins s1 σ' H' D I' q
 | ret v=>exact q
 | brk=>exact q
 | cont=>exact q
theorem c3v (h1:PS X st t):PSs X [st] t:=by
 intro pins s σ H D I h
 refine wpAny_execs_cons (thn (h1 pins s σ H D I h) fun f s1 q=>?_)
 cases f with
 | next=>exact wpAny_execs_nil q
 | ret v=>exact q
 | brk=>exact q
 | cont=>exact q
theorem Inv.quiet {pins:List (Addr×Obj)} {σ:St} {H:Hp} {s:Shared} (I:Inv X pins σ H s):interactive X.env=false:=by simp [interactive,I.ok.kind]
def d2z (te:TE):TS:=fun D σ H=>te σ H fun _ H1=>D.nx σ H1
theorem c3y (he:PE X e te) (hs:swapsWith e none pos.line X.env=pure false:=by rfl):PS X (.Expr e pos) (d2z te):=by
 intro pins s σ H D I h
 exact wpAny_Expr_any (thn (he pins s σ H _ I h) fun v s1 ⟨x,H1,I1,r1,q1⟩=>⟨σ,H1,I1,q1⟩) I.quiet hs
def tRet (te:TE):TS:=fun D σ H=>te σ H D.rt
theorem b5t (he:PE X e te):PS X (.Return (some e) pos) (tRet te):=by
 intro pins s σ H D I h
 exact wpAny_Return_some (thn (he pins s σ H _ I h) fun v s1 ⟨x,H1,I1,r1,q1⟩=>⟨x,σ,H1,I1,r1,q1⟩)
def tIfS (c:TT) (t u:TS):TS:=fun D σ H=>c σ H fun b H1=>if b=true then t D σ H1 else u D σ H1
theorem d4c {c:Expr} {a b:List Stmt} {tc:TT} (hc:PT X c tc) (ha:PSs X a t) (hb:PSs X b u):PS X (.If c a b pos) (tIfS tc t u):=by
 intro pins s σ H D I h
 refine wpAny_If (thn (hc pins s σ H _ I h) fun d s1 ⟨H1,I1,q1⟩=>?_)
 cases d with
 | true=>exact ha pins s1 σ H1 D I1 q1
 | false=>exact hb pins s1 σ H1 D I1 q1
end
abbrev TG:=V→St→Hp→(St→Hp→Prop)→Prop
abbrev TGs:=List V→St→Hp→(St→Hp→Prop)→Prop
def PG (X:Cx) (target:Expr) (t:TG):Prop :=
 ∀ (pins:List (Addr×Obj)) (s:Shared) (σ:St) (H:Hp) (v:V) (u:Value) (Q:St→Hp→Prop),Inv X pins σ H s→RelV v u→t v σ H Q →
  wpAny (model X.prog X.w) X.A (assign target X.env u) (fun _ s'=>∃ σ' H',Inv X pins σ' H' s'∧Q σ' H') X.xe s
def PGs (X:Cx) (ts:List Expr) (t:TGs):Prop :=
 ∀ (pins:List (Addr×Obj)) (s:Shared) (σ:St) (H:Hp) (vs:List V) (us:List Value) (Q:St→Hp→Prop),Inv X pins σ H s→Vals vs us→t vs σ H Q →
  wpAny (model X.prog X.w) X.A (assignInOrder ((assignEach ts X.env).map (·.2)) us) (fun _ s'=>∃ σ' H',Inv X pins σ' H' s'∧Q σ' H') X.xe s
abbrev d8r:=V→V→V→Hp→(Hp→Prop)→Prop
def PSet (X:Cx) (t:d8r):Prop :=
 ∀ (pins:List (Addr×Obj)) (s:Shared) (σ:St) (H:Hp) (o i v:V) (ov iv u:Value) (Q:Hp→Prop),Inv X pins σ H s→RelV o ov→RelV i iv→RelV v u→t o i v H Q →
  wpAny (model X.prog X.w) X.A (setItem ov iv u) (fun _ s'=>∃ H',Inv X pins σ H' s'∧Q H') X.xe s
section
variable {X:Cx} {pos:Pos}
def a6m (i:Nat):TG:=fun v σ H Q=>Q (σ.set i (some v)) H
theorem c4f {i:Nat} {x:Str} (hN:X.N.Nodup) (hi:X.N[i]?=some x) (hx:Loc X.env.scope x) (hf:X.fn x=true ∨ X.env.scope.names.lookup x=some .local:=by first | exact .inl rfl | exact .inr rfl | assumption):PG X (.Name x pos) (a6m i):=by
 intro pins s σ H v u Q I r h
 exact wpAny_assign_Name (a5t I hN hi hx r (fun s' I'=>⟨_,H,I',h⟩) hf)
def d5d:TGs:=fun vs σ H Q=>vs=[]∧Q σ H
def c0t (t:TG) (u:TGs):TGs:=fun vs σ H Q=>∃ v r,vs=v :: r∧t v σ H fun σ' H'=>u r σ' H' Q
theorem c4e:PGs X [] d5d:=by
 intro pins s σ H vs us Q I r h
 obtain ⟨e,h⟩:=h
 subst e
 cases r
 exact assignInOrder_nil ⟨σ,H,I,h⟩
theorem b9x {e:Expr} {es:List Expr} {t:TG} {u:TGs} (h1:PG X e t) (h2:PGs X es u)
  (hs:(assignEach (e :: es) X.env).map (·.2)=assign e X.env :: (assignEach es X.env).map (·.2):=by rfl):PGs X (e :: es) (c0t t u):=by
 intro pins s σ H vs us Q I r h
 obtain ⟨v,vr,e1,h⟩:=h
 subst e1
 cases r with
 | cons r rr =>
  rw [hs]
  refine assignInOrder_cons (thn (h1 pins s σ H _ _ _ I r h) fun _ s1 ⟨σ1,H1,I1,q1⟩=>?_)
  exact h2 pins s1 σ1 H1 _ _ Q I1 rr q1
def d1r (K:Γd) (n:Nat) (t:TGs):TG:=fun v σ H Q=>∃ a xs,v=.ref a∧SqT K H a xs∧xs.length=n∧t xs σ H Q
theorem c8g {es:List Expr} {k:Nat} {t:TGs} {n:Nat} (hc:X.calm=true) (h:PGs X es t)
  (hn:(assignEach es X.env).length=n:=by rfl) (hst:(assignEach es X.env).findIdx? (·.1)=none:=by rfl):PG X (.Tuple es k pos) (d1r X.K n t):=by
 intro pins s σ H v u Q I r hw
 obtain ⟨a,xs,e1,hq,hl,hw⟩:=hw
 subst e1
 cases r
 obtain ⟨its,rv,ht,hz⟩:=I.tuple hq
 refine assign_Tuple_tuple (I.ok.hd hc) ht (by simp [hn,← hl,rv.length]) hst fun h' hx=>?_
 have I1:Inv X pins σ H { s with heap:=h' }:=I.kept (t':=s.toks) fun b o e=>hx b o (Nat.ne_of_lt (Heap.lt_size e)) e
 exact h pins _ σ H xs _ Q I1 (by simpa using rv) hw
def gSub (to ti:TE) (t:d8r):TG:=fun v σ H Q=>to σ H fun o H1=>ti σ H1 fun i H2=>t o i v H2 fun H3=>Q σ H3
theorem c8h {o i:Expr} {to ti:TE} {t:d8r} (ho:PE X o to) (hi:PE X i ti) (hs:PSet X t)
  (ha:∀ v,assign (.Subscript o i pos) X.env v=(do
   let ov ← holding [v] (eval o X.env)
   let iv ← holding [v,ov] (eval i X.env)
   standAt pos
   holding [v,ov,iv] (setItem ov iv v)
   release [v,ov,iv] []):=by intro _; rfl):PG X (.Subscript o i pos) (gSub to ti t):=by
 intro pins s σ H v u Q I r h
 rw [ha]
 refine Γa (Γg (thn (ho pins s σ H _ I h) fun ov s1 ⟨x,H1,I1,r1,q1⟩=>?_))
 refine Γa (Γg (thn (hi pins s1 σ H1 _ I1 q1) fun iv s2 ⟨y,H2,I2,r2,q2⟩=>?_))
 refine Γa (wpAny_standAt (Γa (Γg (thn (hs pins s2 σ H2 x y v ov iv u _ I2 r1 r2 r q2) fun _ s3 ⟨H3,I3,q3⟩=>?_))))
 exact wpAny_release ⟨σ,H3,I3,q3⟩
def c1r (te:TE) (g:TG):TS:=fun D σ H=>te σ H fun x H1=>g x σ H1 D.nx
theorem b5u {tg e:Expr} {te:TE} {g:TG} (he:PE X e te) (hg:PG X tg g) (hs:swapsWithSole [tg] e pos.line X.env=pure false:=by rfl) (hw:swappedStores [tg] e X.env=pure none:=by rfl)
  (h1:(assignEach [tg] X.env).map (·.2)=[assign tg X.env]:=by rfl):PS X (.Assign [tg] e pos) (c1r te g):=by
 intro pins s σ H D I h
 refine wpAny_Assign_stores (thn (he pins s σ H _ I h) fun v s1 ⟨x,H1,I1,r1,q1⟩=>?_) hs hw
 rw [h1]
 exact thn (hg pins s1 σ H1 x v _ I1 r1 q1) fun _ s2 q=>q
theorem c8a {i:Nat} {x:Str} {e:Expr} {te:TE} {pos':Pos} (hN:X.N.Nodup) (hi:X.N[i]?=some x) (hx:Loc X.env.scope x) (he:PE X e te) (hs:swapsWith e (some (.Name x pos')) pos.line X.env=pure false:=by rfl) (hf:X.fn x=true ∨ X.env.scope.names.lookup x=some .local:=by first | exact .inl rfl | exact .inr rfl | assumption) :
  PS X (.Assign [.Name x pos'] e pos) (c1r te (a6m i)):=by
 intro pins s σ H D I h
 refine wpAny_Assign_Name (thn (he pins s σ H _ I h) fun v s1 ⟨y,H1,I1,r1,q1⟩=>?_) hs
 exact a5t I1 hN hi hx r1 (fun s2 I2=>⟨_,H1,I2,q1⟩) hf
def tPar (i j:Nat) (ta:TA):TS:=fun D σ H=>ta σ H fun vs H1=>∃ v w,vs=[v,w]∧D.nx ((σ.set i (some v)).set j (some w)) H1
theorem c8b {i j:Nat} {x y:Str} {a b:Expr} {ta:TA} {px py pt:Pos} {kt k2 pt2} (hc:X.calm=true) (hN:X.N.Nodup) (hi:X.N[i]?=some x) (hj:X.N[j]?=some y) (hij:i≠j)
  (hx:X.env.scope.names.lookup x=some .local) (hy:X.env.scope.names.lookup y=some .local) (ha:PA X [a,b] ta)
  (hw:swappedStores [.Tuple [.Name x px,.Name y py] kt pt] (.Tuple [a,b] k2 pt2) X.env=pure (some [x,y]))
  (hs:swapsWithSole [.Tuple [.Name x px,.Name y py] kt pt] (.Tuple [a,b] k2 pt2) pos.line X.env=pure false:=by rfl) :
  PS X (.Assign [.Tuple [.Name x px,.Name y py] kt pt] (.Tuple [a,b] k2 pt2) pos) (tPar i j ta):=by
 intro pins s σ H D I h
 rw [exec_Assign_arm]
 refine Γa (wpAny_standAt ?_)
 rw [hs]
 refine Γa (Γb ?_)
 rw [if_neg (by decide)]
 refine Γa (Tuple_ (thn (ha _ pins s σ H _ I h) fun us s1 ⟨vs,H1,I1,r1,q1⟩=>?_))
 obtain ⟨v,w,e1,q1⟩:=q1
 subst e1
 obtain ⟨u1,u2,rfl,rv,rw'⟩:∃ u1 u2,us=[u1,u2]∧RelV v u1∧RelV w u2:=by
  cases r1 with
  | cons p q =>
   cases q with
   | cons p' q' =>
    cases q'
    exact ⟨_,_,rfl,p,p'⟩
 refine wpAny_newObj_type ?_ (by show 2≤sizeLine; decide)
 have I2:Inv X pins σ H1 { s1 with heap:=s1.heap.push { cls:=.type "tuple",data:=.seq [u1,u2].toArray } }:=I1.kept (t':=s1.toks) fun b o e=>Γc _ e
 rw [hw]
 refine Γa (Γb ?_)
 show wpAny (model X.prog X.w) X.A (do rule "assign.swapped-stores"; let items ← unpackItems (.ref s1.heap.objs.size) 2 none; assignInOrder [fun v=>bindName X.env y v,fun v=>bindName X.env x v] items.reverse; pure Flow.next) _ _ _
 refine Γa (wpAny_rule (Γa (unpackItems_tuple (items:=#[u1,u2]) (I.ok.hd hc) (IsTup.new s1.heap _) fun h' hx'=>?_)))
 have I3:=I2.kept (h':=h') (t':=s1.toks) fun b o e=>hx' b o (Nat.ne_of_lt (Heap.lt_size e)) e
 show wpAny _ _ (assignInOrder [fun v=>bindName X.env y v,fun v=>bindName X.env x v] [u2,u1] >>= fun _=>pure Flow.next) _ _ _
 refine Γa (assignInOrder_cons (wpAny_bindName (a5t I3 hN hj (.inl hy) rw' (fun s2 I4=>?_) (.inr hy))))
 refine assignInOrder_cons (wpAny_bindName (a5t I4 hN hi (.inl hx) rv (fun s3 I5=>assignInOrder_nil (Γb ?_)) (.inr hx)))
 rw [List.set_comm _ _ (Ne.symm hij)] at I5
 exact ⟨_,H1,I5,q1⟩
end
section
variable {X:Cx} {pos:Pos}
def c1q (c:TT) (tb:TS):TS:=fun D σ H=>∃ W:Nat→St→Hp→Prop,(∃ m,W m σ H)∧∀ m σ H,W m σ H →
 c σ H fun b H1=>if b=true then ∃ N:St→Hp→Prop,(∀ σ' H',N σ' H'→∃ m',m' < m∧W m' σ' H')∧tb { D with nx:=N,ct:=N,bk:=D.nx } σ H1 else D.nx σ H1
theorem b9v {c:Expr} {body:List Stmt} {tc:TT} {tb:TS} (hp:PassesOwn (model X.prog X.w) X.A X.env X.xe) (hc:PT X c tc) (hb:PSs X body tb):PS X (.While c body [] pos) (c1q tc tb):=by
 intro pins s σ H D I h
 obtain ⟨W,⟨m0,w0⟩,turn⟩:=h
 refine wpAny_While (codeAny_whileLoop (fun n s'=>∃ σ' H',Inv X pins σ' H' s'∧W n σ' H') ?_ m0 ⟨σ,H,I,w0⟩)
 rintro n s1 ⟨σ1,H1,I1,w1⟩
 refine wpAny_passesOwn hp (thn (hc pins s1 σ1 H1 _ I1 (turn n σ1 H1 w1)) fun b s2 ⟨H2,I2,q2⟩=>?_)
 cases b with
 | true =>
  obtain ⟨N,hN,q2⟩:=q2
  rw [if_pos rfl]
  refine wpAny_passesOwn hp (thn (hb pins s2 σ1 H2 _ I2 q2) fun f s3 q3=>?_)
  cases f with
  | next =>
   obtain ⟨σ3,H3,I3,n3⟩:=q3
   obtain ⟨m',hm,w3⟩:=hN σ3 H3 n3
   exact ⟨m',hm,σ3,H3,I3,w3⟩
  | cont =>
   obtain ⟨σ3,H3,I3,n3⟩:=q3
   obtain ⟨m',hm,w3⟩:=hN σ3 H3 n3
   exact ⟨m',hm,σ3,H3,I3,w3⟩
  | brk=>exact q3
  | ret v=>exact q3
 | false =>
  rw [if_neg Bool.false_ne_true]
  exact wpAny_execs_nil ⟨σ1,H2,I2,q2⟩
end
structure It where
 go:Nat→Hp→Prop
 yld:Nat→Hp→V→Hp→Prop
 stop:Nat→Hp→Prop
def b1k (X:Cx) (pins:List (Addr×Obj)) (H:Hp) (b:Addr):Prop :=
 H b=none∧b≠X.env.locals∧b ∉ X.fs∧(b∈X.ex ∨ X.s₀.heap.objs.size≤b)∧(∀ x c,X.env.cells.lookup x=some c→c≠b)∧∀ p∈X.pn++pins,p.1≠b
theorem Inv.fpOk {X:Cx} {pins:List (Addr×Obj)} {σ:St} {H H':Hp} {s:Shared} {b:Addr} (I:Inv X pins σ H s) (hb:s.heap.objs.size≤b) (hn:H' b=none):b1k X pins H' b:=by
 refine ⟨hn,Nat.ne_of_gt (Nat.lt_of_lt_of_le I.lt hb),I.nofs hb,.inr (Nat.le_trans I.sz hb),fun x c e z=>?_,fun p hp z=>?_⟩
 ·obtain ⟨v,q⟩:=I.cell x c e
  exact absurd (Nat.lt_of_lt_of_le q.lt (by rw [z]; exact hb)) (Nat.lt_irrefl _)
 ·exact absurd (Nat.lt_of_lt_of_le (Heap.lt_size (I.pin p hp).1) (by rw [z]; exact hb)) (Nat.lt_irrefl _)
structure Turn (P:Program) (w:World) (K:Γd) (tg:Expr) (J:It) (fp:List Addr) (it:Addr) (tn:Nat→Heap→Prop):Prop where
 mem:it∈fp
 obj:∀ i h,tn i h→∀ b∈fp,∃ o,h.get? b=some o∧∀ v,o.data≠.cell v
 keep:∀ i h h',tn i h→(∀ b∈fp,∀ o,h.get? b=some o→h'.get? b=some o)→tn i h'
 item:∀ (X:Cx),X.prog=P→X.w=w→X.K=K→X.calm=true→∀ (i:Nat) (pins:List (Addr×Obj)) (s:Shared) (σ:St) (H:Hp) (E:Value→Shared→Prop),Inv X pins σ H s→(∀ b∈fp,b1k X pins H b)→tn i s.heap→J.go i H →
  wpAny (model P w) X.A (pyNext (.ref it)) (fun r s1=>∃ u,r=some u ∧
   wpAny (model P w) X.A (letOwnedTupleGo tg (.ref it) u) (fun _ s2=>∃ x H',Inv X pins σ H' s2∧RelV x u∧J.yld i H x H'∧tn (i + 1) s2.heap∧∀ b∈fp,H' b=none) E s1) E s
 done:∀ (X:Cx),X.prog=P→X.w=w→X.K=K→X.calm=true→∀ (i:Nat) (pins:List (Addr×Obj)) (s:Shared) (σ:St) (H:Hp) (E:Value→Shared→Prop),Inv X pins σ H s→(∀ b∈fp,b1k X pins H b)→tn i s.heap→J.stop i H →
  wpAny (model P w) X.A (pyNext (.ref it)) (fun r s1=>r=none∧Inv X pins σ H s1) E s
 self:∀ (A:Around) (i:Nat) (s:Shared) (Q:Value→Shared→Prop) (E:Value→Shared→Prop),tn i s.heap→Q (.ref it) s→wpAny (model P w) A (pyIter (.ref it)) Q E s
abbrev TI:=St→Hp→(It→Hp→Prop)→Prop
def PIE (X:Cx) (pins:List (Addr×Obj)) (σ:St) (tg:Expr) (R:It→Hp→Prop) (itv:Value) (s2:Shared):Prop :=
 ∃ (it:Addr) (fp:List Addr) (tn:Nat→Heap→Prop) (J:It) (H':Hp),itv=.ref it∧Inv X pins σ H' s2∧Turn X.prog X.w X.K tg J fp it tn∧tn 0 s2.heap∧(∀ b∈fp,b1k X pins H' b)∧R J H'
def PI (X:Cx) (tg iter:Expr) (wi:TI):Prop :=
 ∀ (pins:List (Addr×Obj)) (s:Shared) (σ:St) (H:Hp) (R:It→Hp→Prop),Inv X pins σ H s→wi σ H R →
  wpAny (model X.prog X.w) X.A (eval iter X.env) (fun v s1=>wpAny (model X.prog X.w) X.A (pyIter v) (PIE X pins σ tg R) X.xe s1) X.xe s
theorem c0s {M : Model} {A : Around} {E : Value → Shared → Prop} {s : Shared} {tg : Expr} {it : Addr} {u : Value} {o : Obj} {n : String} {vs : Array Value} {Q : Unit → Shared → Prop} (ho : s.heap.get? it = some o) (hc : o.cls = .type n) (hd : o.data = .fields vs)
    (hn : ["enumerate", "zip", "dict_itemiterator", "dict_reverseitemiterator", "odict_iterator", "itertools.zip_longest", "itertools.pairwise"].contains n = false) (hQ : Q () s) : wpAny M A (letOwnedTupleGo tg (.ref it) u) Q E s := by
  unfold letOwnedTupleGo
  cases tg <;> first
    | exact Γb hQ
    | (cases u <;> first
        | exact Γb hQ
        | (refine Γa (wpAny_load ho ?_)
           rw [hc, hd]
           show wpAny M A (if (["enumerate", "zip", "dict_itemiterator", "dict_reverseitemiterator", "odict_iterator", "itertools.zip_longest", "itertools.pairwise"].contains n && vs[0]? == some (rawInt _)) = true then _ else _) Q E s
           rw [if_neg (by intro h; rw [hn, Bool.false_and] at h; cases h)]
           exact Γb hQ))
def Itl (K:Γd) (a:Addr):It :=
 ⟨fun i H=>∃ xs x,SqL K H a xs∧xs[i]?=some x,fun i H x H'=>H'=H∧∀ xs,SqL K H a xs→xs[i]?=some x,fun i H=>∃ xs,SqL K H a xs∧xs.length≤i⟩
def Itt (K:Γd) (a:Addr):It :=
 ⟨fun i H=>∃ xs x,SqT K H a xs∧xs[i]?=some x,fun i H x H'=>H'=H∧∀ xs,SqT K H a xs→xs[i]?=some x,fun i H=>∃ xs,SqT K H a xs∧xs.length≤i⟩
def Itr (lo:Int) (n:Nat):It:=⟨fun i _=>i < n,fun i H x H'=>H'=H∧x=.int (lo + i),fun i _=>n≤i⟩
theorem b5d {P:Program} {w:World} {K:Γd} {tg:Expr} (a it:Addr):Turn P w K tg (Itl K a) [it] it (fun i h=>h.IsListIter it a i) where
 mem:=by simp
 obj:=fun i h st b hb=>by
  have e:b=it:=by simpa using hb
  subst e
  obtain ⟨o,e,c,d⟩:=st
  exact ⟨o,e,fun v z=>by rw [d] at z; cases z⟩
 keep:=fun i h h' st k=>st.at fun o e=>k it (by simp) o e
 item:=by
  intro X hP hw hK hc i pins s σ H E I hf st hg
  subst hP hw hK
  obtain ⟨xs,x,hq,hx⟩:=hg
  obtain ⟨its,rv,p,hz⟩:=I.list hq
  obtain ⟨u,hu,ru⟩:=rv.get hx
  obtain ⟨f0,f1,f2,f3,f4,f5⟩:=hf it (by simp)
  refine wpAny_pyNext_list_item st p.isList (x:=u) (by simpa using hu) fun h' st' sb=>?_
  have I1:Inv X pins σ H { s with heap:=h' }:=I.turned (t':=s.toks) (fun b o hb e=>(sb.2 b hb).trans e) f0 f1 f3 f4 f5
  obtain ⟨o,e,c,d⟩:=id st'
  exact ⟨u,rfl,c0s (s:={ s with heap:=h' }) e c d (by decide) ⟨x,H,I1,ru,⟨rfl,fun ys hy=>by rw [I.list_inj hy hq]; exact hx⟩,st',fun b hb=>(hf b hb).1⟩⟩
 done:=by
  intro X hP hw hK hc i pins s σ H E I hf st hg
  subst hP hw hK
  obtain ⟨xs,hq,hx⟩:=hg
  obtain ⟨its,rv,p,hz⟩:=I.list hq
  obtain ⟨f0,f1,f2,f3,f4,f5⟩:=hf it (by simp)
  have hl:=rv.length
  exact wpAny_pyNext_list_end (I.ok.hd hc) st p.isList (by simp; lia) fun h' eb=>⟨rfl,I.turned (t':=s.toks) (fun b o hb e=>eb b o hb e) f0 f1 f3 f4 f5⟩
 self:=fun _ _ _ _ _ st h=>wpAny_pyIter_listiter st h
theorem b3n {P:Program} {w:World} {K:Γd} {tg:Expr} (a it:Addr):Turn P w K tg (Itt K a) [it] it (fun i h=>h.IsTupleIter it a i) where
 mem:=by simp
 obj:=fun i h st b hb=>by
  have e:b=it:=by simpa using hb
  subst e
  obtain ⟨o,e,c,d⟩:=st
  exact ⟨o,e,fun v z=>by rw [d] at z; cases z⟩
 keep:=fun i h h' st k=>st.at fun o e=>k it (by simp) o e
 item:=by
  intro X hP hw hK hc i pins s σ H E I hf st hg
  subst hP hw hK
  obtain ⟨xs,x,hq,hx⟩:=hg
  obtain ⟨its,rv,p,hz⟩:=I.tuple hq
  obtain ⟨u,hu,ru⟩:=rv.get hx
  obtain ⟨f0,f1,f2,f3,f4,f5⟩:=hf it (by simp)
  refine wpAny_pyNext_tuple_item st (show s.heap.IsTuple a its.toArray from p) (x:=u) (by simpa using hu) fun h' st' sb=>?_
  have I1:Inv X pins σ H { s with heap:=h' }:=I.turned (t':=s.toks) (fun b o hb e=>(sb.2 b hb).trans e) f0 f1 f3 f4 f5
  obtain ⟨o,e,c,d⟩:=id st'
  exact ⟨u,rfl,c0s (s:={ s with heap:=h' }) e c d (by decide) ⟨x,H,I1,ru,⟨rfl,fun ys hy=>by rw [I.tuple_inj hy hq]; exact hx⟩,st',fun b hb=>(hf b hb).1⟩⟩
 done:=by
  intro X hP hw hK hc i pins s σ H E I hf st hg
  subst hP hw hK
  obtain ⟨xs,hq,hx⟩:=hg
  obtain ⟨its,rv,p,hz⟩:=I.tuple hq
  obtain ⟨f0,f1,f2,f3,f4,f5⟩:=hf it (by simp)
  have hl:=rv.length
  exact wpAny_pyNext_tuple_end (I.ok.hd hc) st (show s.heap.IsTuple a its.toArray from p) (by simp; lia) fun h' eb=>⟨rfl,I.turned (t':=s.toks) (fun b o hb e=>eb b o hb e) f0 f1 f3 f4 f5⟩
 self:=fun _ _ _ _ _ st h=>wpAny_pyIter_tupleiter st h
theorem b3o {P:Program} {w:World} {K:Γd} {tg:Expr} (it:Addr) (lo:Int) (n:Nat):Turn P w K tg (Itr lo n) [it] it (fun i h=>IsRangeIter h it (lo + (i:Nat) * 1) ((n:Int) - (i:Nat)) 1) where
 mem:=by simp
 obj:=fun i h st b hb=>by
  have e:b=it:=by simpa using hb
  subst e
  exact ⟨_,st,fun v z=>by
   have z':Data.fields _=Data.cell v:=z
   cases z'⟩
 keep:=fun i h h' st k=>k it (by simp) _ st
 item:=by
  intro X hP hw hK hc i pins s σ H E I hf st hg
  subst hP hw hK
  obtain ⟨f0,f1,f2,f3,f4,f5⟩:=hf it (by simp)
  have W:=Walks.range (prog:=X.prog) (w:=X.w) (I.ok.hd hc) it lo 1 n
  refine W.item i s _ _ hg st fun v h' tk hv st' kk=>?_
  obtain ⟨t,rfl⟩:=hv
  have I1:Inv X pins σ H { s with heap:=h',toks:=tk }:=I.turned (fun b o hb e=>kk b o (by simpa using hb) e) f0 f1 f3 f4 f5
  refine ⟨_,rfl,c0s (s:={ s with heap:=h',toks:=tk }) (n:="range_iterator") st' rfl rfl (by decide) ⟨.int (lo + i),H,I1,⟨t,?_⟩,⟨rfl,rfl⟩,st',fun b hb=>(hf b hb).1⟩⟩
  rw [Int.mul_one]
 done:=by
  intro X hP hw hK hc i pins s σ H E I hf st hg
  subst hP hw hK
  obtain ⟨f0,f1,f2,f3,f4,f5⟩:=hf it (by simp)
  exact wpAny_pyNext_range_end (I.ok.hd hc) st (by have:n≤i:=hg; lia) fun h' eb=>⟨rfl,I.turned (t':=s.toks) (fun b o hb e=>eb b o hb e) f0 f1 f3 f4 f5⟩
 self:=fun _ _ _ _ _ st h=>wpAny_pyIter_rangeiter st h
end L2
namespace L2
open PySem PySem.Spec PyProof.Rows
section
variable {X:Cx} {tg:Expr}
theorem b9o {pins:List (Addr×Obj)} {σ:St} {H:Hp} {s:Shared} {R:It→Hp→Prop} {E:Value→Shared→Prop} {lo hi:Int} {t u v:Tok} {tk:Nat} (I:Inv X pins σ H s) (h1:-(2 ^ 62)≤lo) (h2:lo < 2 ^ 62) (h3:-(2 ^ 62)≤hi) (h4:hi < 2 ^ 62)
  (q:R (Itr lo (hi - lo).toNat) H):wpAny (model X.prog X.w) X.A (pyIter (.ref s.heap.objs.size)) (PIE X pins σ tg R) E { s with heap:=s.heap.push { cls:=.type "range",data:=.fields #[.int lo t,.int hi u,.int 1 v] },toks:=tk }:=by
 refine wpAny_pyIter_range (IsRange.new ..) (small_one h1 h2 h3 h4) ?_
 have I1:Inv X pins σ H { s with heap:=s.heap.push { cls:=.type "range",data:=.fields #[.int lo t,.int hi u,.int 1 v] },toks:=tk }:=I.kept fun b o e=>Γc _ e
 refine ⟨(s.heap.push { cls:=.type "range",data:=.fields #[.int lo t,.int hi u,.int 1 v] }).objs.size,[(s.heap.push { cls:=.type "range",data:=.fields #[.int lo t,.int hi u,.int 1 v] }).objs.size],_,_,H,rfl,
  I1.kept (t':=tk) fun b o e=>Γc _ e,b3o _ lo (hi - lo).toNat,?_,fun b hb=>?_,q⟩
 ·have e1:lo + ((0:Nat):Int) * 1=lo:=by simp
  have e2:(((hi - lo).toNat:Nat):Int) - ((0:Nat):Int)=Builtin.Range.rangeSize lo hi 1:=by rw [rangeSize_one]; split <;> lia
  show IsRangeIter _ _ (lo + ((0:Nat):Int) * 1) ((((hi - lo).toNat:Nat):Int) - ((0:Nat):Int)) 1
  rw [e1,e2]
  exact Heap.get?_push_size _ rfl
 ·have e:b=(s.heap.push { cls:=.type "range",data:=.fields #[.int lo t,.int hi u,.int 1 v] }).objs.size:=by simpa using hb
  subst e
  exact I1.fpOk (Nat.le_refl _) (I1.hok.fresh (Nat.le_refl _))
def d5c (ta:TA):TI:=fun σ H R=>ta σ H fun vs H1=>∃ j:Int,vs=[.int j]∧-(2 ^ 62)≤j∧j < 2 ^ 62∧R (Itr 0 j.toNat) H1
def iRng2 (ta:TA):TI:=fun σ H R=>ta σ H fun vs H1=>∃ i j:Int,vs=[.int i,.int j]∧(-(2 ^ 62)≤i∧i < 2 ^ 62∧-(2 ^ 62)≤j∧j < 2 ^ 62)∧R (Itr i (j - i).toNat) H1
theorem b5x {a:Expr} {ta:TA} {p pos:Pos} (hg:Gl X "range") (hm:X.mg "range" = none) (ha:PA X [a] ta) (hs:starEach [a] X.env=[(false,eval a X.env)]:=by rfl):PI X tg (.Call (.Name "range" p) [a] [] pos) (d5c ta):=by
 intro pins s σ H R I h
 refine Call_ (a4o I hg hm boot_range (PyProof.Rows.callWith_type1 (thn (ha pos pins s σ H _ I h) fun us s1 ⟨vs,H1,I1,r1,q1⟩=>?_) hs rfl))
 obtain ⟨j,e,q1,q2,q⟩:=q1
 subst e
 cases r1 with
 | cons r rr =>
  cases rr
  obtain ⟨t,rfl⟩:=r
  exact call_range_1 (b9o I1 (by lia) (by lia) q1 q2 (by simpa using q))
def tFor (wi:TI) (g:TG) (tb:TS):TS:=fun D σ H=>wi σ H fun J H1=>∃ W:Nat→Nat→St→Hp→Prop,(∃ m,W 0 m σ H1)∧∀ i m σ H,W i m σ H →
 (J.stop i H∧D.nx σ H) ∨ (J.go i H∧∃ N:St→Hp→Prop,(∀ σ' H',N σ' H'→∃ m',m' < m∧W (i + 1) m' σ' H')∧∀ x H',J.yld i H x H'→g x σ H' fun σ2 H2=>tb { D with nx:=N,ct:=N,bk:=D.nx } σ2 H2)
def a6d (fp:List Addr) (h:Heap):List (Addr×Obj):=fp.filterMap fun b=>(h.get? b).map fun o=>(b,o)
theorem a2b {fp:List Addr} {h:Heap} {b:Addr} {o:Obj} (hb:b∈fp) (e:h.get? b=some o):(b,o)∈a6d fp h:=List.mem_filterMap.mpr ⟨b,hb,by rw [e]; rfl⟩
theorem b6e {fp:List Addr} {h:Heap} {p:Addr×Obj} (hp:p∈a6d fp h):p.1∈fp∧h.get? p.1=some p.2:=by
 obtain ⟨b,hb,e⟩:=List.mem_filterMap.mp hp
 cases q:h.get? b with
 | none=>rw [q] at e; cases e
 | some o =>
  rw [q] at e
  have e':(b,o)=p:=Option.some.inj e
  subst e'
  exact ⟨hb,q⟩
theorem Inv.pinned {pins:List (Addr×Obj)} {σ:St} {H:Hp} {s:Shared} {fp:List Addr} (I:Inv X pins σ H s) (hf:∀ b∈fp,b1k X pins H b) (ho:∀ b∈fp,∃ o,s.heap.get? b=some o∧∀ v,o.data≠.cell v):Inv X (pins++a6d fp s.heap) σ H s :=
 I.pins_of fun p hp=>(List.mem_append.mp hp).elim (fun z=>I.pin p (List.mem_append_right _ z)) fun z=>by
  obtain ⟨hb,e⟩:=b6e z
  obtain ⟨f0,f1,f2,_⟩:=hf p.1 hb
  obtain ⟨o,e',d⟩:=ho p.1 hb
  rw [e] at e'; cases e'
  exact ⟨e,f0,f1,f2,d⟩
theorem Inv.unpinned {pins pl:List (Addr×Obj)} {σ:St} {H:Hp} {s:Shared} (I:Inv X (pins++pl) σ H s):Inv X pins σ H s:=I.pins_of fun p hp=>I.pin p (List.mem_append_right _ (List.mem_append_left _ hp))
theorem c8c {iter:Expr} {body:List Stmt} {wi:TI} {g:TG} {tb:TS} {pos:Pos} (hp:PassesOwn (model X.prog X.w) X.A X.env X.xe) (hc:X.calm=true) (hi:PI X tg iter wi) (hg:PG X tg g) (hb:PSs X body tb)
  (hs:∀ x,foldedSetIterable iter X.env x=pure x:=by intro _; rfl):PS X (.For tg iter body [] pos) (tFor wi g tb):=by
 intro pins s σ H D I h
 refine wpAny_For (thn (hi pins s σ H _ I h) fun v s1 h1=>thn h1 fun itv s2 h2=>?_) hs
 obtain ⟨it,fp,tn,J,H2,e,I2,T,st2,f2,W,⟨m0,w0⟩,turn⟩:=h2
 subst e
 -- what stays true of the iterator's objects through the loop
 have stat:∀ {H':Hp},(∀ b∈fp,H' b=none)→∀ b∈fp,b1k X pins H' b:=fun hn b hb=>⟨hn b hb,(f2 b hb).2⟩
 refine codeAny_forLoop_any (fun n s'=>∃ i σ' H',Inv X pins σ' H' s'∧tn i s'.heap∧(∀ b∈fp,H' b=none)∧W i n σ' H') ?_ m0 ⟨0,σ,H2,I2,st2,fun b hb=>(f2 b hb).1,w0⟩
 rintro n s3 ⟨i,σ3,H3,I3,st3,fr3,w3⟩
 rcases turn i n σ3 H3 w3 with ⟨stop,qn⟩ | ⟨go,N,hN,step⟩
 ·refine wpAny_passesOwn hp (thn (T.done X rfl rfl rfl hc i pins s3 σ3 H3 X.xe I3 (stat fr3) st3 stop) fun r s4 ⟨hr,I4⟩=>?_)
  subst hr
  exact wpAny_execs_nil ⟨σ3,H3,I4,qn⟩
 ·refine wpAny_passesOwn hp (thn (T.item X rfl rfl rfl hc i pins s3 σ3 H3 X.xe I3 (stat fr3) st3 go) fun r s4 ⟨u,hr,h4⟩=>?_)
  subst hr
  refine wpAny_passesOwn hp (thn h4 fun _ s5 ⟨x,H5,I5,r5,y5,st5,fr5⟩=>?_)
  have I5':=I5.pinned (stat fr5) (T.obj _ _ st5)
  refine wpAny_passesOwn hp (thn (hg _ s5 σ3 H5 x u _ I5' r5 (step x H5 y5)) fun _ s6 ⟨σ6,H6,I6,q6⟩=>?_)
  refine wpAny_passesOwn hp (thn (hb _ s6 σ6 H6 _ I6 q6) fun f s7 q7=>?_)
  have again:∀ {σ7:St} {H7:Hp},Inv X (pins++a6d fp s5.heap) σ7 H7 s7→N σ7 H7→∃ m,m < n∧∃ i σ' H',Inv X pins σ' H' s7∧tn i s7.heap∧(∀ b∈fp,H' b=none)∧W i m σ' H':=fun {σ7 H7} I7 n7=>by
   obtain ⟨m',hm,w7⟩:=hN σ7 H7 n7
   refine ⟨m',hm,i + 1,σ7,H7,I7.unpinned,T.keep _ _ _ st5 fun b hb o e=>(I7.pin (b,o) (List.mem_append_right _ (List.mem_append_right _ (a2b hb e)))).1,fun b hb=>?_,w7⟩
   obtain ⟨o,e,d⟩:=T.obj _ _ st5 b hb
   exact (I7.pin (b,o) (List.mem_append_right _ (List.mem_append_right _ (a2b hb e)))).2.1
  cases f with
  | next=>obtain ⟨σ7,H7,I7,n7⟩:=q7; exact again I7 n7
  | cont=>obtain ⟨σ7,H7,I7,n7⟩:=q7; exact again I7 n7
  | brk=>obtain ⟨σ7,H7,I7,q7⟩:=q7; exact ⟨σ7,H7,I7.unpinned,q7⟩
  | ret v=>obtain ⟨x7,σ7,H7,I7,r7,q7⟩:=q7; exact ⟨x7,σ7,H7,I7.unpinned,r7,q7⟩
end
theorem while_by {c:TT} {tb:TS} {D:Ends} {σ:St} {H:Hp} (Pv:St→Hp→Prop) (μ:St→Hp→Nat) (h0:Pv σ H)
  (hs:∀ σ H,Pv σ H→c σ H fun b H1=>if b=true then tb { D with nx:=fun σ' H'=>Pv σ' H'∧μ σ' H' < μ σ H,ct:=fun σ' H'=>Pv σ' H'∧μ σ' H' < μ σ H,bk:=D.nx } σ H1 else D.nx σ H1)
  (mono:∀ σ H Q Q',(∀ b H1,Q b H1→Q' b H1)→c σ H Q→c σ H Q'):c1q c tb D σ H:=by
 refine ⟨fun m σ H=>m=μ σ H∧Pv σ H,⟨_,rfl,h0⟩,?_⟩
 rintro m σ H ⟨rfl,p⟩
 refine mono σ H _ _ (fun b H1 q=>?_) (hs σ H p)
 cases b with
 | true=>exact ⟨_,fun σ' H' ⟨p',l⟩=>⟨_,l,rfl,p'⟩,q⟩
 | false=>exact q
end L2
namespace L2
open PySem PySem.Spec PyProof.Rows
abbrev R2:=V→V→Hp→VK→Prop
def OpR (X:Cx) (f:Value→Value→Sem Value) (r:R2):Prop :=
 ∀ (pins:List (Addr×Obj)) (s:Shared) (σ:St) (H:Hp) (x y:V) (v u:Value) (Q:VK),Inv X pins σ H s→RelV x v→RelV y u→r x y H Q →
  wpAny (model X.prog X.w) X.A (f v u) (EP X pins σ Q) X.xe s
def UnR (X:Cx) (f:Value→Sem Value) (r:V→Hp→VK→Prop):Prop :=
 ∀ (pins:List (Addr×Obj)) (s:Shared) (σ:St) (H:Hp) (x:V) (v:Value) (Q:VK),Inv X pins σ H s→RelV x v→r x H Q →
  wpAny (model X.prog X.w) X.A (f v) (EP X pins σ Q) X.xe s
def a1k (X:Cx) (f:Value) (r:List V→Hp→VK→Prop):Prop :=
 ∀ (pins:List (Addr×Obj)) (s:Shared) (σ:St) (H:Hp) (xs:List V) (us:List Value) (Q:VK),Inv X pins σ H s→Vals xs us→r xs H Q →
  wpAny (model X.prog X.w) X.A (call f us) (EP X pins σ Q) X.xe s
def TruR (X:Cx) (r:V→Hp→(Bool→Hp→Prop)→Prop):Prop :=
 ∀ (pins:List (Addr×Obj)) (s:Shared) (σ:St) (H:Hp) (x:V) (v:Value) (Q:Bool→Hp→Prop),Inv X pins σ H s→RelV x v→r x H Q →
  wpAny (model X.prog X.w) X.A (truthy v) (TP X pins σ Q) X.xe s
def tOp (r:R2) (ta tb:TE):TE:=fun σ H Q=>ta σ H fun x H1=>tb σ H1 fun y H2=>r x y H2 Q
def tUn (r:V→Hp→VK→Prop) (ta:TE):TE:=fun σ H Q=>ta σ H fun x H1=>r x H1 Q
def rI (C:Int→Int→Prop) (g:Int→Int→V):R2:=fun x y H Q=>∃ i j,x=.int i∧y=.int j∧C i j∧Q (g i j) H
def rI0 (g:Int→Int→V):R2:=fun x y H Q=>∃ i j,x=.int i∧y=.int j∧Q (g i j) H
def rU (g:Int→V):V→Hp→VK→Prop:=fun x H Q=>∃ i,x=.int i∧Q (g i) H
section
variable {X:Cx} {a b c:Expr} {ta tb tc:TE} {pos:Pos}
theorem d7w (ha:PE X a ta) (hb:PE X b tb) {pins:List (Addr×Obj)} {s:Shared} {σ:St} {H:Hp} {R:V→V→Hp→Prop} (I:Inv X pins σ H s)
  (h:ta σ H fun x H1=>tb σ H1 fun y H2=>R x y H2) {Q:Value→Shared→Prop} {f:Value→Value→Sem Value}
  (hf:∀ v u s2 x y H2,Inv X pins σ H2 s2→RelV x v→RelV y u→R x y H2→wpAny (model X.prog X.w) X.A (f v u) Q X.xe s2) :
  wpAny (model X.prog X.w) X.A (eval a X.env) (fun v s₁=>wpAny (model X.prog X.w) X.A (eval b X.env) (fun u s₂=>wpAny (model X.prog X.w) X.A (f v u) Q X.xe s₂) X.xe s₁) X.xe s:=by
 refine thn (ha pins s σ H _ I h) fun v s1 ⟨x,H1,I1,r1,q1⟩=>?_
 refine thn (hb pins s1 σ H1 _ I1 q1) fun u s2 ⟨y,H2,I2,r2,q2⟩=>?_
 exact hf v u s2 x y H2 I2 r1 r2 q2
theorem c8k {op:Operator} {r:R2} (ho:OpR X (binaryOp op) r) (ha:PE X a ta) (hb:PE X b tb):PE X (.BinOp a op b pos) (tOp r ta tb):=by
 intro pins s σ H Q I h
 exact wpAny_BinOp (d7w ha hb I h fun v u s2 x y H2 I2 rx ry q=>ho pins s2 σ H2 x y v u Q I2 rx ry q)
theorem d4f {op:UnaryOp} {r:V→Hp→VK→Prop} (ho:UnR X (unaryOp op) r) (ha:PE X a ta):PE X (.UnaryOp op a pos) (tUn r ta):=by
 intro pins s σ H Q I h
 exact UnaryOp_ (thn (ha pins s σ H _ I h) fun v s1 ⟨x,H1,I1,r1,q1⟩=>ho pins s1 σ H1 x v Q I1 r1 q1)
theorem opI {f:Value→Value→Sem Value} {C:Int→Int→Prop} {g:Int→Int→Int}
  (rule:∀ (i j:Int) (t u:Tok) (s:Shared) (Q:Value→Shared→Prop) (E:Value→Shared→Prop),C i j→Q (.int (g i j) s.toks) { s with toks:=s.toks + 1 }→wpAny (model X.prog X.w) X.A (f (.int i t) (.int j u)) Q E s) :
  OpR X f (rI C fun i j=>.int (g i j)):=by
 intro pins s σ H x y v u Q I rx ry h
 obtain ⟨i,j,rfl,rfl,hc,q⟩:=h
 obtain ⟨t,rfl⟩:=rx
 obtain ⟨t',rfl⟩:=ry
 exact rule i j t t' s _ _ hc ⟨.int (g i j),H,I.tok _,⟨_,rfl⟩,q⟩
theorem opI0 {f:Value→Value→Sem Value} {g:Int→Int→Int}
  (rule:∀ (i j:Int) (t u:Tok) (s:Shared) (Q:Value→Shared→Prop) (E:Value→Shared→Prop),Q (.int (g i j) s.toks) { s with toks:=s.toks + 1 }→wpAny (model X.prog X.w) X.A (f (.int i t) (.int j u)) Q E s) :
  OpR X f (rI0 fun i j=>.int (g i j)):=by
 intro pins s σ H x y v u Q I rx ry h
 obtain ⟨i,j,rfl,rfl,q⟩:=h
 obtain ⟨t,rfl⟩:=rx
 obtain ⟨t',rfl⟩:=ry
 exact rule i j t t' s _ _ ⟨.int (g i j),H,I.tok _,⟨_,rfl⟩,q⟩
theorem d4q {f:Value→Value→Sem Value} {g:Int→Int→Bool}
  (rule:∀ (i j:Int) (t u:Tok) (s:Shared) (Q:Value→Shared→Prop) (E:Value→Shared→Prop),Q (.bool (g i j)) s→wpAny (model X.prog X.w) X.A (f (.int i t) (.int j u)) Q E s) :
  OpR X f (rI0 fun i j=>.bl (g i j)):=by
 intro pins s σ H x y v u Q I rx ry h
 obtain ⟨i,j,rfl,rfl,q⟩:=h
 obtain ⟨t,rfl⟩:=rx
 obtain ⟨t',rfl⟩:=ry
 exact rule i j t t' s _ _ ⟨.bl (g i j),H,I,rfl,q⟩
def CDiv (i j:Int):Prop:=0 < j∧j < 1073741824
def CPow (i j:Int):Prop:=0≤j∧j≤1000000∧i.natAbs < 2 ^ 64
def CMul (i j:Int):Prop:=(-(2 ^ 64) < i∧i < 2 ^ 64) ∨ (-(2 ^ 64) < j∧j < 2 ^ 64)
theorem CMul.ok {i j:Int} (h:CMul i j):IntMulOk i j:=by
 rcases h with ⟨h1,h2⟩ | ⟨h1,h2⟩
 ·exact .of_left (intBits_le_64 h1 h2)
 ·exact .of_right (intBits_le_64 h1 h2)
theorem c9a:OpR X (binaryOp .Add) (rI0 fun i j=>.int (i + j)):=opI0 fun _ _ _ _ _ _ _ q=>add_int q
theorem c8t:OpR X (binaryOp .Sub) (rI0 fun i j=>.int (i - j)):=opI0 fun _ _ _ _ _ _ _ q=>sub_int q
theorem c8w:OpR X (binaryOp .Mult) (rI CMul fun i j=>.int (i * j)):=opI fun _ _ _ _ _ _ _ hc q=>mul_int q hc.ok
theorem c4n:OpR X (binaryOp .FloorDiv) (rI CDiv fun i j=>.int (i / j)):=opI fun i j _ _ _ _ _ hc q=>by
 have h1:(0:Int) < j:=hc.1
 have h2:j < 1073741824:=hc.2
 exact floordiv_int (by lia) (by rw [Int.fdiv_eq_ediv_of_nonneg i (by lia)]; exact q) (.inl (PyProof.noPylong_small (by lia)))
theorem c8x:OpR X (binaryOp .Mod) (rI (fun _ j=>0 < j) fun i j=>.int (i % j)):=opI fun i j _ _ _ _ _ hc q=>by
 have h1:(0:Int) < j:=hc
 exact mod_int' (by lia) (by rw [Int.fmod_eq_emod_of_nonneg i (by lia)]; exact q)
theorem c8v:OpR X (binaryOp .Pow) (rI CPow fun i j=>.int (i ^ j.toNat)):=opI fun _ _ _ _ _ _ _ hc q=>pow_int_small hc.1 hc.2.1 hc.2.2 q
theorem unI {f:Value→Sem Value} {g:Int→Int}
  (rule:∀ (i:Int) (t:Tok) (s:Shared) (Q:Value→Shared→Prop) (E:Value→Shared→Prop),Q (.int (g i) s.toks) { s with toks:=s.toks + 1 }→wpAny (model X.prog X.w) X.A (f (.int i t)) Q E s) :
  UnR X f (rU fun i=>.int (g i)):=by
 intro pins s σ H x v Q I rx h
 obtain ⟨i,rfl,q⟩:=h
 obtain ⟨t,rfl⟩:=rx
 exact rule i t s _ _ ⟨.int (g i),H,I.tok _,⟨_,rfl⟩,q⟩
theorem c6r:UnR X (unaryOp .USub) (rU fun i=>.int (-i)):=unI fun _ _ _ _ _ q=>neg_int q
end
def scal:V→V→Bool
 | .non,.non=>true | .non,.int _=>true | .int _,.non=>true | .non,.bl _=>true | .bl _,.non=>true | .non,.str _=>true | .str _,.non=>true
 | .int _,.int _=>true | .bl _,.bl _=>true | .str _,.str _=>true | .byt _,.byt _=>true
 | .int _,.str _=>true | .str _,.int _=>true | .bl _,.str _=>true | .str _,.bl _=>true
 | _,_=>false
def rEq:R2:=fun x y H Q=>scal x y=true∧Q (.bl (decide (x=y))) H
def rNe:R2:=fun x y H Q=>scal x y=true∧Q (.bl (!decide (x=y))) H
theorem b7v {i j:Int}:decide (V.int i=V.int j)=(i == j):=by
 rw [Bool.eq_iff_iff]
 simp
theorem c2k {i j:Bool}:decide (V.bl i=V.bl j)=(i == j):=by
 rw [Bool.eq_iff_iff]
 simp
theorem b7u {i j:Str}:decide (V.str i=V.str j)=(i == j):=by
 rw [Bool.eq_iff_iff]
 simp
theorem b7w {i j:Array UInt8}:decide (V.byt i=V.byt j)=(i.toList == j.toList):=by
 rw [Bool.eq_iff_iff]
 cases i
 cases j
 simp
section
variable {X:Cx} {a b c:Expr} {ta tb tc:TE} {pos:Pos}
theorem a0v {pins:List (Addr×Obj)} {σ:St} {H:Hp} {s:Shared} {Q:VK} {k k':Bool} (I:Inv X pins σ H s) (q:Q (.bl k) H) (e:k=k'):EP X pins σ Q (.bool k') s:=by
 subst e
 exact ⟨.bl k,H,I,rfl,q⟩
theorem d4p:OpR X (compareOp .Eq) rEq:=by
 intro pins s σ H x y v u Q I rx ry h
 obtain ⟨hs,q⟩:=h
 cases x with
 | non =>
  cases rx
  cases y with
  | non=>cases ry; exact PySem.EqNone.eq_none_none (a0v I q (by simp))
  | bl j=>cases ry; exact PySem.EqNone.eq_none_bool (a0v I q (by simp))
  | int j=>obtain ⟨t',rfl⟩:=ry; exact PySem.EqNone.eq_none_int (a0v I q (by simp))
  | str j=>obtain ⟨t',rfl⟩:=ry; exact PySem.EqNone.eq_none_str (a0v I q (by simp))
  | _=>exact absurd (show false=true from hs) Bool.false_ne_true
 | bl i =>
  cases rx
  cases y with
  | non=>cases ry; exact PySem.EqNone.eq_bool_none (a0v I q (by simp))
  | bl j=>cases ry; exact eq_bool (a0v I q c2k)
  | str j=>obtain ⟨t',rfl⟩:=ry; exact PySem.EqMixed.eq_bool_str (a0v I q (by simp))
  | _=>exact absurd (show false=true from hs) Bool.false_ne_true
 | int i =>
  obtain ⟨t,rfl⟩:=rx
  cases y with
  | non=>cases ry; exact PySem.EqNone.eq_int_none (a0v I q (by simp))
  | int j=>obtain ⟨t',rfl⟩:=ry; exact eq_int (a0v I q b7v)
  | str j=>obtain ⟨t',rfl⟩:=ry; exact PySem.EqMixed.eq_int_str (a0v I q (by simp))
  | _=>exact absurd (show false=true from hs) Bool.false_ne_true
 | str i =>
  obtain ⟨t,rfl⟩:=rx
  cases y with
  | non=>cases ry; exact PySem.EqNone.eq_str_none (a0v I q (by simp))
  | bl j=>cases ry; exact PySem.EqMixed.eq_str_bool (a0v I q (by simp))
  | int j=>obtain ⟨t',rfl⟩:=ry; exact PySem.EqMixed.eq_str_int (a0v I q (by simp))
  | str j=>obtain ⟨t',rfl⟩:=ry; exact eq_str (a0v I q b7u)
  | _=>exact absurd (show false=true from hs) Bool.false_ne_true
 | byt i =>
  obtain ⟨t,rfl⟩:=rx
  cases y with
  | byt j=>obtain ⟨t',rfl⟩:=ry; exact PySem.W.eq_bytes (a0v I q b7w)
  | _=>exact absurd (show false=true from hs) Bool.false_ne_true
 | _=>cases y <;> exact absurd (show false=true from hs) Bool.false_ne_true
theorem d4l:OpR X (compareOp .NotEq) rNe:=by
 intro pins s σ H x y v u Q I rx ry h
 obtain ⟨hs,q⟩:=h
 cases x with
 | non =>
  cases rx
  cases y with
  | non=>cases ry; exact PySem.EqNone.ne_none_none (a0v I q (by simp))
  | bl j=>cases ry; exact PySem.EqNone.ne_none_bool (a0v I q (by simp))
  | int j=>obtain ⟨t',rfl⟩:=ry; exact PySem.EqNone.ne_none_int (a0v I q (by simp))
  | str j=>obtain ⟨t',rfl⟩:=ry; exact PySem.EqNone.ne_none_str (a0v I q (by simp))
  | _=>exact absurd (show false=true from hs) Bool.false_ne_true
 | bl i =>
  cases rx
  cases y with
  | non=>cases ry; exact PySem.EqNone.ne_bool_none (a0v I q (by simp))
  | bl j=>cases ry; exact ne_bool (a0v I q (congrArg not c2k))
  | str j=>obtain ⟨t',rfl⟩:=ry; exact PySem.EqMixed.ne_bool_str (a0v I q (by simp))
  | _=>exact absurd (show false=true from hs) Bool.false_ne_true
 | int i =>
  obtain ⟨t,rfl⟩:=rx
  cases y with
  | non=>cases ry; exact PySem.EqNone.ne_int_none (a0v I q (by simp))
  | int j=>obtain ⟨t',rfl⟩:=ry; exact ne_int (a0v I q (congrArg not b7v))
  | str j=>obtain ⟨t',rfl⟩:=ry; exact PySem.EqMixed.ne_int_str (a0v I q (by simp))
  | _=>exact absurd (show false=true from hs) Bool.false_ne_true
 | str i =>
  obtain ⟨t,rfl⟩:=rx
  cases y with
  | non=>cases ry; exact PySem.EqNone.ne_str_none (a0v I q (by simp))
  | bl j=>cases ry; exact PySem.EqMixed.ne_str_bool (a0v I q (by simp))
  | int j=>obtain ⟨t',rfl⟩:=ry; exact PySem.EqMixed.ne_str_int (a0v I q (by simp))
  | str j=>obtain ⟨t',rfl⟩:=ry; exact ne_str (a0v I q (congrArg not b7u))
  | _=>exact absurd (show false=true from hs) Bool.false_ne_true
 | byt i =>
  obtain ⟨t,rfl⟩:=rx
  cases y with
  | byt j=>obtain ⟨t',rfl⟩:=ry; exact PySem.W.ne_bytes (a0v I q (congrArg not b7w))
  | _=>exact absurd (show false=true from hs) Bool.false_ne_true
 | _=>cases y <;> exact absurd (show false=true from hs) Bool.false_ne_true
theorem d4m:OpR X (compareOp .Lt) (rI0 fun i j=>.bl (decide (i < j))):=d4q fun _ _ _ _ _ _ _ q=>lt_int q
theorem d4n:OpR X (compareOp .Gt) (rI0 fun i j=>.bl (decide (j < i))):=d4q fun _ _ _ _ _ _ _ q=>gt_int q
theorem d4o:OpR X (compareOp .GtE) (rI0 fun i j=>.bl (decide (j≤i))):=d4q fun _ _ _ _ _ _ _ q=>ge_int q
def d4x:HO→Bool
 | .lst _=>true
 | .ins _ _ _=>true
 | _=>false
theorem obj_there {pins:List (Addr×Obj)} {s:Shared} {σ:St} {H:Hp} {a:Addr} {o:HO} (I:Inv X pins σ H s) (h:H a=some o) (p:d4x o=true):∃ ob,s.heap.get? a=some ob∧ob.cls≠.type "tuple":=by
 cases o with
 | lst xs =>
  obtain ⟨_,its,n,_,e⟩:xs.length≤sizeLine∧∃ (its:List Value) (n:Nat),Vals xs its∧s.heap.get? a=some { cls:=.type "list",data:=.seq its.toArray n }:=I.hok a _ h
  exact ⟨_,e,(by show Value.type "list"≠.type "tuple"; nofun)⟩
 | ins C dx fs =>
  have x:=I.hok a _ h
  obtain ⟨_,_,_,e,_⟩:=x
  exact ⟨_,e,(by show Value.ref C≠.type "tuple"; exact fun z=>by cases z)⟩
 | _=>exact absurd (show false=true from p) Bool.false_ne_true
theorem nomark (b:Expr) {op:CmpOp} (h:op≠.In:=by decide) (h2:op≠.NotIn:=by decide):behindInMarks op b=false:=by
 have e1:(op == CmpOp.In)=false:=by cases op <;> first | rfl | exact absurd rfl h
 have e2:(op == CmpOp.NotIn)=false:=by cases op <;> first | rfl | exact absurd rfl h2
 cases b <;> simp [behindInMarks,e1,e2]
theorem c4h {op:CmpOp} {r:R2} (ho:OpR X (compareOp op) r) (ha:PE X a ta) (hb:PE X b tb) (hm:behindInMarks op b=false):PE X (.Compare a [op] [b] pos) (tOp r ta tb):=by
 intro pins s σ H Q I h
 exact wpAny_Compare1 (d7w ha hb I h fun v u s2 x y H2 I2 rx ry q=>ho pins s2 σ H2 x y v u Q I2 rx ry q) hm
def d2u (t:TE):TT:=fun σ H Q=>t σ H fun x H'=>∃ k,x=.bl k∧Q k H'
theorem c3u {op:CmpOp} {r:R2} (ho:OpR X (compareOp op) r) (ha:PE X a ta) (hb:PE X b tb) (hm:behindInMarks op b=false):PT X (.Compare a [op] [b] pos) (d2u (tOp r ta tb)):=by
 intro pins s σ H Q I h
 refine wpAny_isTrue_Compare1 (thn (ha pins s σ H _ I h) fun v s1 ⟨x,H1,I1,r1,q1⟩=>thn (hb pins s1 σ H1 _ I1 q1) fun u s2 ⟨y,H2,I2,r2,q2⟩ =>
  thn (ho pins s2 σ H2 x y v u _ I2 r1 r2 q2) fun c s3 ⟨z,H3,I3,r3,k,e,q3⟩=>?_) hm
 subst e
 cases r3
 exact wpAny_truthy_bool ⟨H3,I3,q3⟩
def d2q (K:Γd) (x:V) (H:Hp) (k:Bool):Prop :=
 match x with
 | .non=>k=false
 | .bl b=>k=b
 | .int i=>k=(i != 0)
 | .str y=>y.length≤sizeLine∧k=((y.length:Int) != 0)
 | .byt y=>y.size≤sizeLine∧k=((y.size:Int) != 0)
 | .ref p=>(∃ xs,SqL K H p xs∧k = !xs.isEmpty) ∨ (∃ xs,SqT K H p xs∧k = !xs.isEmpty) ∨ ∃ kvs,H p=some (.dK kvs)∧k = !kvs.isEmpty
 | _=>False
theorem b4c {κ:Type} {kvs:List (κ×V)} {vs:List (κ×Value)} (r:KV kvs vs):(!vs.isEmpty) = !kvs.isEmpty:=by
 cases r <;> rfl
theorem a7j {xs:List V} {its:List Value} (r:Vals xs its):(!its.toArray.isEmpty) = !xs.isEmpty:=by
 cases r <;> simp
theorem a9n:(sizeLine:Nat) < 2 ^ 63:=by rw [sizeLine_eq]; decide
theorem c1n:TruR X (fun x H Q=>∃ k,d2q X.K x H k∧Q k H):=by
 intro pins s σ H x v Q I rx h
 obtain ⟨k,e,q⟩:=h
 have hl:=a9n
 have hs:sizeLine=16777216:=sizeLine_eq
 cases x with
 | non =>
  cases rx
  have e':k=false:=e
  subst e'
  exact truthy_none ⟨H,I,q⟩
 | bl b =>
  cases rx
  have e':k=b:=e
  subst e'
  exact wpAny_truthy_bool ⟨H,I,q⟩
 | int i =>
  obtain ⟨t,rfl⟩:=rx
  have e':k=(i != 0):=e
  subst e'
  exact PySem.P.truthy_int ⟨H,I,q⟩
 | str y =>
  obtain ⟨t,rfl⟩:=rx
  obtain ⟨hy,e'⟩:y.length≤sizeLine∧k=((y.length:Int) != 0):=e
  subst e'
  exact PySem.P.truthy_str (by lia) ⟨H,I.tok _,q⟩
 | byt y =>
  obtain ⟨t,rfl⟩:=rx
  obtain ⟨hy,e'⟩:y.size≤sizeLine∧k=((y.size:Int) != 0):=e
  subst e'
  exact PySem.W.truthy_bytes (by lia) ⟨H,I.tok _,q⟩
 | ref p =>
  cases rx
  have e':(∃ xs,SqL X.K H p xs∧k = !xs.isEmpty) ∨ (∃ xs,SqT X.K H p xs∧k = !xs.isEmpty) ∨ ∃ kvs,H p=some (.dK kvs)∧k = !kvs.isEmpty:=e
  rcases e' with ⟨xs,hx,e'⟩ | ⟨xs,hx,e'⟩ | ⟨kvs,hx,e'⟩
  ·subst e'
   obtain ⟨its,r,pl,hz⟩:=I.list hx
   have hlen:=r.length
   exact wpAny_truthy_list pl.isList (by simp only [List.size_toArray]; lia) ⟨H,I.tok _,by rw [a7j r]; exact q⟩
  ·subst e'
   obtain ⟨its,r,pl,hz⟩:=I.tuple hx
   have hlen:=r.length
   exact truthy_tuple pl (by simp only [List.size_toArray]; lia) ⟨H,I.tok _,by rw [a7j r]; exact q⟩
  ·subst e'
   obtain ⟨hz,hS,vs,r,m⟩:kvs.length≤sizeLine∧(p == sysModules)=false∧∃ vs,KV kvs vs∧s.heap.DictOf (a0w X.prog X.w) p vs:=I.hok p _ hx
   have hlen:kvs.length=vs.length:=Paired.length r
   exact wpAny_truthy_dict hS m (by lia) ⟨H,I.tok _,by rw [b4c r]; exact q⟩
 | _=>exact (show False from e).elim
theorem b9s (ha:PE X a ta) (he:∀ whole,isTrue a X.env whole=(do let v ← whole; standAt a.pos; holding [v] (truthy v))) :
  PT X a (fun σ H Q=>ta σ H fun x H'=>∃ k,d2q X.K x H' k∧Q k H'):=by
 intro pins s σ H Q I h
 exact isTrue_plain (thn (ha pins s σ H _ I h) fun v s1 ⟨x,H1,I1,r1,q1⟩=>c1n pins s1 σ H1 x v Q I1 r1 q1) (he _)
theorem a3o {x:V} {us:List Value} (r:Vals [x] us):∃ u,us=[u]∧RelV x u:=by
 cases r with
 | cons r1 r2=>cases r2; exact ⟨_,rfl,r1⟩
theorem b5c {x y:V} {us:List Value} (r:Vals [x,y] us):∃ u w',us=[u,w']∧RelV x u∧RelV y w':=by
 cases r with
 | cons r1 r2 =>
  cases r2 with
  | cons r3 r4=>cases r4; exact ⟨_,_,rfl,r1,r3⟩
theorem c1e:a1k X (.builtin "abs") (fun xs H Q=>∃ i,xs=[.int i]∧Q (.int (if i < 0 then -i else i)) H):=by
 intro pins s σ H xs us Q I r h
 obtain ⟨i,rfl,q⟩:=h
 obtain ⟨u,rfl,t,rfl⟩:=a3o r
 exact call_abs_int fun u tk=>⟨.int (if i < 0 then -i else i),H,I.tok _,⟨_,rfl⟩,q⟩
theorem b8l (hc:X.calm=true):a1k X (.builtin "max") (fun xs H Q=>∃ i j,xs=[.int i,.int j]∧Q (.int (if j > i then j else i)) H):=by
 intro pins s σ H xs us Q I r h
 obtain ⟨i,j,rfl,q⟩:=h
 obtain ⟨u,w',rfl,⟨t,rfl⟩,⟨t',rfl⟩⟩:=b5c r
 refine max_two_ints (I.ok.hd hc) fun h' tk k=>⟨_,H,I.kept k,?_,q⟩
 by_cases hj:j > i
 ·rw [if_pos hj,if_pos hj]; exact ⟨_,rfl⟩
 ·rw [if_neg hj,if_neg hj]; exact ⟨_,rfl⟩
theorem b8k (hc:X.calm=true):a1k X (.builtin "min") (fun xs H Q=>∃ i j,xs=[.int i,.int j]∧Q (.int (if j < i then j else i)) H):=by
 intro pins s σ H xs us Q I r h
 obtain ⟨i,j,rfl,q⟩:=h
 obtain ⟨u,w',rfl,⟨t,rfl⟩,⟨t',rfl⟩⟩:=b5c r
 refine min_two_ints (I.ok.hd hc) fun h' tk k=>⟨_,H,I.kept k,?_,q⟩
 by_cases hj:j < i
 ·rw [if_pos hj,if_pos hj]; exact ⟨_,rfl⟩
 ·rw [if_neg hj,if_neg hj]; exact ⟨_,rfl⟩
theorem b0c:a1k X (.type "int") (fun xs H Q=>(∃ i,xs=[.int i]∧Q (.int i) H) ∨ ∃ k,xs=[.bl k]∧Q (.int (if k then 1 else 0)) H):=by
 intro pins s σ H xs us Q I r h
 rcases h with ⟨i,rfl,q⟩ | ⟨k,rfl,q⟩
 ·obtain ⟨u,rfl,t,rfl⟩:=a3o r
  exact call_int_int ⟨.int i,H,I,⟨_,rfl⟩,q⟩
 ·obtain ⟨u,rfl,r1⟩:=a3o r
  cases r1
  exact call_int_bool ⟨.int (if k then 1 else 0),H,I.tok _,⟨_,rfl⟩,q⟩
theorem a9z:a1k X (.type "str") (fun xs H Q=>∃ i,xs=[.int i]∧i.natAbs.log2 < 1920∧Q (.str (toString i)) H):=by
 intro pins s σ H xs us Q I r h
 obtain ⟨i,rfl,hz,q⟩:=h
 obtain ⟨u,rfl,t,rfl⟩:=a3o r
 exact PySem.P.str_of_int hz ⟨.str _,H,I.tok _,⟨_,rfl⟩,q⟩
end
end L2
namespace L2
open PySem PySem.Spec PyProof.Rows
structure ObjM (h:Heap) (x dx C:Addr) (mA:Str→Option Value):Prop where
 obj:h.get? x=some (PySem.W.instObj C dx)
 ns:h.Ns1 dx mA
 ne:dx≠x
theorem b6k {h:Heap} {dx:Addr} {mA:Str→Option Value} (n:h.Ns1 dx mA):∃ od,h.get? dx=some od∧∀ name,PySem.W.lookIn name od=some (mA name):=by
 obtain ⟨o,es,ep,ho,hd,hk,_,hm⟩:=n
 refine ⟨o,ho,fun name=>?_⟩
 have e:=hm name
 unfold nsFind findBy at e
 rw [← Array.find?_toList] at e
 unfold PySem.W.lookIn
 rw [hd]
 dsimp only
 split
 ·rename_i y q
  rw [q] at e
  exact congrArg some e
 ·rename_i q
  rw [q] at e
  have a:es.toList.any (·.refKey)=false:=by
   rw [List.any_eq_false]
   intro y hy
   obtain ⟨z,t,hkey⟩:=hk y (Array.mem_toList_iff.mp hy)
   simp [DictEntry.refKey,hkey]
  have a':¬ es.toList.any (·.refKey)=true:=by rw [a]; exact Bool.false_ne_true
  rw [if_neg a']
  exact congrArg some e
theorem ObjM.look {h:Heap} {x dx C:Addr} {mA:Str→Option Value} (I:ObjM h x dx C mA):∃ od,PySem.W.InstAt h x (PySem.W.instObj C dx) C (some od)∧∀ name,PySem.W.lookIn name od=some (mA name) :=
 let ⟨od,ho,hl⟩:=b6k I.ns
 ⟨od,⟨I.obj,rfl,rfl,ho⟩,hl⟩
section
variable {prog:Program} {w:World} {A:Around} {E:Value→Shared→Prop} {s:Shared} {K:Γd} {x dx C f:Addr} {mA:Str→Option Value} {name:Str} {v:Value}
end
theorem RelO.some_of {v:V} {o:Option Value} (r:RelO (some v) o):∃ u,o=some u∧RelV v u:=by
 cases o with
 | none=>exact (show False from r).elim
 | some u=>exact ⟨u,rfl,r⟩
section
variable {P:Program} {w:World} {H H':Hp} {h h':Heap} {a C dx:Addr} {fs fs':List (Str×V)}
theorem c5h (hok:HOk P w H h) (e:H a=some (.ins C dx fs)):∃ mA,ObjM h a dx C mA∧(∀ f,RelO (fs.lookup f) (mA f))∧PySem.Within mA (fs.map (·.1))∧fs.length≤1000∧H dx=some (.own a):=by
 obtain ⟨d,z,ne,ob,mA,n,r,q⟩:=(show ObjOk P w H h a (.ins C dx fs) from hok a _ e)
 exact ⟨mA,⟨ob,n,ne⟩,r,q,z,d⟩
end
structure Cls (K:Γd) (C:Addr):Prop where
 pg:PySem.W.plainGet K C Str.empty=true
 hd:PySem.W.hasDictIn K C=true
 po:PySem.W.plainOver K C=true
 sa:PySem.W.findIn K (.ref C) "__setattr__" = some (some (.builtin "object.__setattr__"))
theorem Cls.get {K:Γd} {C:Addr} (c:Cls K C) (f:Str):PySem.W.plainGet K C f=true:=c.pg
structure Con (K:Γd) (C:Addr) (f:Str) (v:V) (u:Value):Prop where
 at_:PySem.W.findIn K (.ref C) f=some (some u)
 rel:RelV v u
 get:PySem.W.specialIn K u "__get__" = some none
 cp:PySem.W.copiedNames.contains f=false
structure Meth (K:Γd) (C:Addr) (m:Str) (f:Addr):Prop where
 at_:PySem.W.findIn K (.ref C) m=some (some (.ref f))
 fn:PySem.W.isFn K (.ref f)=true
 kp:PySem.W.keepIn K (.ref f)=true
section
variable {X:Cx} {pins:List (Addr×Obj)} {σ:St} {H:Hp} {s:Shared} {a C dx:Addr} {fs:List (Str×V)} {f:Str} {v:V} {A:Around} {E:Value→Shared→Prop}
theorem Inv.made (I:Inv X pins σ H s):Inv X pins σ (upd (upd H s.heap.objs.size (.own (s.heap.objs.size + 1))) (s.heap.objs.size + 1) (.ins C s.heap.objs.size []))
  { s with heap:=(s.heap.push PySem.W.emptyDict).push (PySem.W.instObj C s.heap.objs.size) }:=by
 have e1:(s.heap.push PySem.W.emptyDict).get? s.heap.objs.size=some PySem.W.emptyDict:=Heap.get?_push_size s.heap rfl
 have e2:((s.heap.push PySem.W.emptyDict).push (PySem.W.instObj C s.heap.objs.size)).get? (s.heap.objs.size + 1)=some (PySem.W.instObj C s.heap.objs.size):=by
  have:=Heap.get?_push_size (s.heap.push PySem.W.emptyDict) (o:=PySem.W.instObj C s.heap.objs.size) rfl
  rwa [Heap.size_push] at this
 have e3:(s.heap.push PySem.W.emptyDict).Ns s.heap.objs.size (fun _=>none):=⟨PySem.W.emptyDict,#[],_,e1,rfl,(fun e he=>absurd he (by simp)),fun _=>rfl⟩
 have I1:=I.laid (a:=s.heap.objs.size) (o:=.own (s.heap.objs.size + 1)) (h':=s.heap.push PySem.W.emptyDict) (t':=s.toks) (fun b u q=>Γc _ q) (Nat.le_refl _) ⟨_,e1⟩
 refine I1.laid (a:=s.heap.objs.size + 1) (o:=.ins C s.heap.objs.size []) (t':=s.toks) (fun b u q=>Γc _ q) (Nat.le_of_eq (Heap.size_push _ _)) ?_
 have ne:s.heap.objs.size≠s.heap.objs.size + 1:=Nat.ne_of_lt (Nat.lt_succ_self _)
 refine ⟨by rw [a0e ne,a0f],Nat.zero_le _,ne,e2,fun _=>none,(Heap.Ns1.of_empty e3).at fun o q=>Γc _ q,fun _=>True.intro,fun y hy=>absurd rfl hy⟩
end
section
variable {X:Cx} {o e value:Expr} {f:Str} {pos pos' tpos:Pos} {ta tv:TE}
end
section
variable {X:Cx} {pins:List (Addr×Obj)} {σ:St} {H:Hp} {s:Shared} {A:Around} {E:Value→Shared→Prop} {Q:Value→Shared→Prop} {c:Value} {b:Bool}
inductive TyOf (K:Γd) (H:Hp):V→Value→Prop where
 | non:TyOf K H .non (.type "NoneType")
 | bl (x:Bool):TyOf K H (.bl x) (.type "bool")
 | int (i:Int):TyOf K H (.int i) (.type "int")
 | str (x:Str):TyOf K H (.str x) (.type "str")
 | flt (x:UInt64):TyOf K H (.flt x) (.type "float")
 | lst {a:Addr} {xs:List V} (e:H a=some (.lst xs)):TyOf K H (.ref a) (.type "list")
 | frz {a:Addr} {o:Obj} {xs:List V} (e:H a=some (.frz o (.lst xs))):TyOf K H (.ref a) (.type "list")
 | tup {a:Addr} {xs:List V} (e:H a=some (.tup xs)):TyOf K H (.ref a) (.type "tuple")
 | dK {a:Addr} {kvs:List (Key×V)} (e:H a=some (.dK kvs)):TyOf K H (.ref a) (.type "dict")
 | dT {a:Addr} {kvs:List (List Key×V)} (e:H a=some (.dT kvs)):TyOf K H (.ref a) (.type "dict")
 | ins {a C dx:Addr} {fs:List (Str×V)} (e:H a=some (.ins C dx fs)) (cl:Cls K C) (ha:PySem.W.findIn K (.ref C) "__class__" = some (some (.builtin "object.__class__")))
   (hn:PySem.W.specialIn K (.builtin "object.__class__") "__get__" = some (some (.builtin "getset_descriptor.__get__"))) (htk:PySem.W.takesIn K (.builtin "object.__class__")=some true)
   (hm:PySem.W.mroIn K C (.type "object")=some true):TyOf K H (.ref a) (.ref C)
theorem b6w {x:V} {u t:Value} (I:Inv X pins σ H s) (rx:RelV x u) (ty:TyOf X.K H x t) (e:PySem.W.kitOne X.K t c=some b) (h:∀ tk,Q (.bool b) { s with toks:=tk }) :
  wpAny (model X.prog X.w) A (call (.builtin "isinstance") [u,c]) Q E s:=by
 cases ty with
 | non=>cases (show u=Value.none from rx); exact PySem.W.kia_one PySem.W.kitx_none I.kIn True.intro e (fun z=>nomatch z) h
 | bl y=>cases (show u=Value.bool y from rx); exact PySem.W.kia_one PySem.W.kitx_bool I.kIn True.intro e (fun z=>nomatch z) h
 | int i=>obtain ⟨t,q⟩:=(show ∃ t,u=Value.int i t from rx); cases q; exact PySem.W.kia_one PySem.W.kitx_int I.kIn True.intro e (fun z=>nomatch z) h
 | str y=>obtain ⟨t,q⟩:=(show ∃ t,u=Value.str y t from rx); cases q; exact PySem.W.kia_one PySem.W.kitx_str I.kIn True.intro e (fun z=>nomatch z) h
 | flt y=>obtain ⟨t,q⟩:=(show ∃ t,u=Value.float y t from rx); cases q; exact PySem.W.kia_one PySem.W.kitx_float I.kIn True.intro e (fun z=>nomatch z) h
 | @lst a xs ea =>
  cases (show u=Value.ref a from rx)
  obtain ⟨_,_,n,_,h1⟩:=(show ObjOk X.prog X.w H s.heap a (.lst xs) from I.hok a _ ea)
  exact PySem.W.kia_one PySem.W.kitx_list I.kIn ⟨_,h1,rfl⟩ e (fun z=>nomatch z) h
 | @frz a ob xs ea =>
  cases (show u=Value.ref a from rx)
  obtain ⟨_,_,_,n,_,h1⟩:=(show ObjOk X.prog X.w H s.heap a (.frz ob (.lst xs)) from I.hok a _ ea)
  exact PySem.W.kia_one PySem.W.kitx_list I.kIn ⟨_,h1,rfl⟩ e (fun z=>nomatch z) h
 | @tup a xs ea =>
  cases (show u=Value.ref a from rx)
  obtain ⟨_,_,_,p⟩:=(show ObjOk X.prog X.w H s.heap a (.tup xs) from I.hok a _ ea)
  obtain ⟨o,h1,h2,_⟩:=p
  exact PySem.W.kia_one PySem.W.kitx_tuple I.kIn ⟨o,h1,h2⟩ e (fun z=>nomatch z) h
 | @dK a kvs ea =>
  cases (show u=Value.ref a from rx)
  obtain ⟨_,_,vs,_,p⟩:=(show ObjOk X.prog X.w H s.heap a (.dK kvs) from I.hok a _ ea)
  obtain ⟨o,es,ep,h1,h2,_⟩:=p
  exact PySem.W.kia_one PySem.W.kitx_dict I.kIn ⟨o,h1,h2.1⟩ e (fun z=>nomatch z) h
 | @dT a kvs ea =>
  cases (show u=Value.ref a from rx)
  obtain ⟨_,_,xs,_,o,es,ep,h1,h2,_⟩:=(show ObjOk X.prog X.w H s.heap a (.dT kvs) from I.hok a _ ea)
  exact PySem.W.kia_one PySem.W.kitx_dict I.kIn ⟨o,h1,h2.1⟩ e (fun z=>nomatch z) h
 | @ins a C dx fs ea cl ha hn htk hm =>
  cases (show u=Value.ref a from rx)
  obtain ⟨mA,O,_⟩:=c5h I.hok ea
  obtain ⟨od,J,_⟩:=O.look
  exact PySem.W.kia_one (PySem.W.kitx_own (cl.get _) cl.hd ha hn htk hm) I.kIn J e (fun z=>nomatch z) h
end
end L2
namespace L2
open PySem PySem.Spec PyProof.Rows
structure Room (k:Nat) (A:Around):Prop where
 hd:A.handled=none
 dp:A.depth + 3 * k + 5 < recursionLimit
 un:A.units + 16 * k + 200 < cLine
 gd:A.guards=some []
theorem Room.deeper {k:Nat} {A:Around} (r:Room (k + 1) A) (env:Env):Room k (A.deeper env) :=
 ⟨r.hd,by have:=r.dp; show A.depth + 1 + 3 * k + 5 < _; lia,by have:=r.un; show A.units + 3 + 16 * k + 200 < _; lia,r.gd⟩
theorem Room.in1 {k:Nat} {A:Around} (r:Room (k + 1) A):Room k A.in1 :=
 ⟨r.hd,by have:=r.dp; show A.depth + 3 * k + 5 < _; lia,by have:=r.un; show A.units + 1 + 16 * k + 200 < _; lia,r.gd⟩
theorem Room.depth {k:Nat} {A:Around} (r:Room k A):A.depth < recursionLimit:=by have:=r.dp; lia
theorem Room.units {k:Nat} {A:Around} (r:Room k A):A.units + 64 < cLine:=by have:=r.un; lia
def tNil:TA:=fun _ H Q=>Q [] H
def b9b (ta:TE) (tr:TA):TA:=fun σ H Q=>ta σ H fun x H1=>tr σ H1 fun xs H2=>Q (x :: xs) H2
section
variable {X:Cx} {e:Expr} {es:List Expr} {te:TE} {t:TA} {pos:Pos}
theorem a1p:PA X [] tNil:=fun _ _ _ _ H Q I h=>Calls.spliced_nil ⟨[],H,I,.nil,h⟩
theorem a0p (ha:PE X e te) (hr:PA X es t) (hs:starEach (e :: es) X.env=(false,eval e X.env) :: starEach es X.env:=by rfl):PA X (e :: es) (b9b te t):=by
 intro pos pins s σ H Q I h
 rw [hs]
 show wpAny _ _ (spliced ((false,eval e X.env) :: backTo pos (starEach es X.env))) _ _ s
 refine Calls.spliced_cons (thn (ha pins s σ H _ I h) fun u s1 ⟨x,H1,I1,r1,q1⟩=>?_)
 exact thn (hr pos pins s1 σ H1 _ I1 q1) fun us s2 ⟨xs,H2,I2,r2,q2⟩=>⟨x :: xs,H2,I2,.cons r1 r2,q2⟩
def tTup (t:TA):TE:=fun σ H Q=>t σ H fun xs H1=>xs.length≤sizeLine∧∀ p,H1 p=none→Q (.ref p) (upd H1 p (.tup xs))
def tLst (t:TA):TE:=fun σ H Q=>t σ H fun xs H1=>xs.length≤sizeLine∧∀ p,H1 p=none→Q (.ref p) (upd H1 p (.lst xs))
theorem c8i {x1} (h:PA X es t):PE X (.Tuple es x1 pos) (tTup t):=by
 intro pins s σ H Q I hq
 refine wpAny_Tuple_spliced (thn (h pos pins s σ H _ I hq) fun us s1 ⟨xs,H1,I1,r,z,q⟩=>⟨by rw [← r.length]; exact z,?_⟩)
 have hf:H1 s1.heap.objs.size=none:=I1.hok.fresh (Nat.le_refl _)
 refine ⟨.ref s1.heap.objs.size,upd H1 s1.heap.objs.size (.tup xs),I1.laid (t':=s1.toks) (fun b u e=>Γc _ e) (Nat.le_refl _) ?_,rfl,q _ hf⟩
 exact ⟨z,us,r,⟨_,Heap.get?_push_size _ rfl,rfl,_,rfl⟩⟩
theorem c2b (h:PA X es t):PE X (.List es pos) (tLst t):=by
 intro pins s σ H Q I hq
 refine wpAny_List_spliced (thn (h pos pins s σ H _ I hq) fun us s1 ⟨xs,H1,I1,r,z,q⟩=>⟨by rw [← r.length]; exact z,?_⟩)
 have hf:H1 s1.heap.objs.size=none:=I1.hok.fresh (Nat.le_refl _)
 refine ⟨.ref s1.heap.objs.size,upd H1 s1.heap.objs.size (.lst xs),I1.laid (t':=s1.toks) (fun b u e=>Γc _ e) (Nat.le_refl _) ?_,rfl,q _ hf⟩
 exact ⟨z,us,0,r,Heap.get?_push_size _ rfl⟩
end
abbrev Sp:=List V→Hp→VK→XK→Prop
abbrev CXT:=List Env→Hp→Shared→XK→Value→Shared→Prop
structure Env0 (P:Program) (w:World) (K:Γd) (mg:Str→Option Value) (base:Heap) (A:Around) (outer:List Env) (s:Shared) (H:Hp):Prop where
 frames:A.frames=some outer
 mod:Mod K mg base
 bs:∀ b o,base.get? b=some o→s.heap.get? b=some o∧H b=none
 bsz:base.objs.size≤s.heap.objs.size
 funs:s.heap.FunFrames base outer
 frf:∀ b∈frs outer,H b=none
 hok:HOk P w H s.heap
 bare:AllBare s.gens
def CE (outer:List Env) (P:Program) (w:World) (H:Hp) (s:Shared) (Q:VK) (u:Value) (s':Shared):Prop :=
 ∃ v H',s'.os=s.os∧AllBare s'.gens∧Un (frs outer) [] H H' s.heap s'.heap∧HOk P w H' s'.heap∧RelV v u∧Q v H'
def CR (CX:CXT) (outer:List Env) (P:Program) (w:World) (H:Hp) (s:Shared) (Q:VK) (E:XK) (r:Result) (s':Shared):Prop :=
 match r with
 | .ok (.ret u)=>CE outer P w H s Q u s'
 | .ok _=>False
 | .error e=>CX outer H s E e s'
structure FnOk (P:Program) (w:World) (K:Γd) (mg:Str→Option Value) (base:Heap) (CX:CXT) (k:Nat) (f:Addr) (fd:FuncData) (ps:List Str) (sp:Sp):Prop where
 len:∀ vs H Q E,sp vs H Q E→vs.length=ps.length
 run:∀ (A:Around) (outer:List Env) (s:Shared) (H:Hp) (args:Args) (us:List Value) (vs:List V) (Q:VK) (E:XK),Room k A→Env0 P w K mg base A outer s H→BindsTo s fd args (ps.zip us)→Vals vs us→sp vs H Q E →
  codeAny (model P w) A (.call (.ref f) args) (CR CX outer P w H s Q E) s
theorem Env0.in1 {P:Program} {w:World} {K:Γd} {mg:Str→Option Value} {base:Heap} {A:Around} {outer:List Env} {s:Shared} {H:Hp} (e:Env0 P w K mg base A outer s H) :
  Env0 P w K mg base A.in1 outer s H:=⟨e.frames,e.mod,e.bs,e.bsz,e.funs,e.frf,e.hok,e.bare⟩
section
variable {X:Cx} {pins:List (Addr×Obj)} {σ:St} {H:Hp} {s s':Shared}
theorem Inv.env0 (I:Inv X pins σ H s):Env0 X.prog X.w X.K X.mg X.base X.A X.stack s H :=
 ⟨I.ok.frames,I.ok.mod,I.bs,Nat.le_trans I.ok.bsz I.sz,I.stack,I.stkFree,I.hok,I.bare⟩
theorem Inv.after {Q:VK} {u:Value} (I:Inv X pins σ H s) (h:CE X.stack X.prog X.w H s Q u s'):EP X pins σ Q u s':=by
 obtain ⟨v,H',os,bare,un,hok,r,q⟩:=h
 obtain ⟨hh,g,d,t,os'⟩:=s'
 obtain rfl:os'=s.os:=os
 exact ⟨v,H',I.call (h':=hh) (g':=g) (d':=d) (t':=t) (ch:=[]) un hok bare (fun b z=>absurd z (by simp)),r,q⟩
end
def d3b (sp:Sp) (dvs:List V) (E:XK) (t:TA):TE:=fun σ H Q=>t σ H fun vs H1=>sp (vs++dvs) H1 Q E
def Binds (K:Γd) (fd:FuncData) (ps:List Str) (ds:List Value):Prop :=
 ∀ (s:Shared) (us:List Value),K.In s.heap→(us++ds).length=ps.length→BindsTo s fd ⟨us,[]⟩ (ps.zip (us++ds))
theorem Binds.all {K:Γd} {fd:FuncData} {ps:List Str} (h:∀ us:List Value,us.length=ps.length→bindArgs fd ⟨us,[]⟩=pure (ps.zip us)):Binds K fd ps []:=fun s us _ hl=>by
 rw [List.append_nil] at hl ⊢
 exact .of_eq (h us hl)
def b8s (CX:CXT) (X:Cx) (E:XK):Prop:=∀ (pins:List (Addr×Obj)) (σ:St) (H:Hp) (s:Shared) (e:Value) (s':Shared),Inv X pins σ H s→CX X.stack H s E e s'→X.xe e s'
section
variable {X:Cx} {CX:CXT} {k:Nat} {f C:Addr} {fd:FuncData} {ps:List Str} {sp:Sp} {dvs:List V} {ds:List Value} {E:XK} {x m:Str} {p pos apos:Pos} {e o:Expr} {es:List Expr} {ta:TE} {t:TA}
theorem c7j {pins:List (Addr×Obj)} {σ:St} {H:Hp} {s:Shared} {Q:VK} {us:List Value} {vs:List V} (F:FnOk X.prog X.w X.K X.mg X.base CX k f fd ps sp) (hr:Room k X.A) (hb:Binds X.K fd ps ds) (hd:Vals dvs ds) (hx:b8s CX X E)
  (I:Inv X pins σ H s) (r:Vals vs us) (h:sp (vs++dvs) H Q E):wpAny (model X.prog X.w) X.A (call (.ref f) us) (EP X pins σ Q) X.xe s:=by
 have r2:Vals (vs++dvs) (us++ds):=r.append hd
 have hl:(us++ds).length=ps.length:=by rw [← r2.length]; exact F.len _ _ _ _ h
 refine wpAny_call (codeAny_mono (F.run X.A X.stack s H ⟨us,[]⟩ (us++ds) (vs++dvs) Q E hr I.env0 (hb s us I.kIn hl) r2 h) fun r s' hq=>?_)
 cases r with
 | error e=>exact hx pins σ H s e s' I hq
 | ok fl =>
  cases fl with
  | ret u=>exact I.after hq
  | next=>exact False.elim hq
  | brk=>exact False.elim hq
  | cont=>exact False.elim hq
theorem c4i (F:FnOk X.prog X.w X.K X.mg X.base CX k f fd ps sp) (hr:Room k X.A) (hg:Gl X x) (hm:X.mg x=some (.ref f)) (hk:PySem.W.keepIn X.K (.ref f)=true) (hb:Binds X.K fd ps ds) (hd:Vals dvs ds) (hx:b8s CX X E)
  (ha:PA X (e :: es) t) (hdb:(x == ("__debug__":Str))=false:=by decide) (he:starEach (e :: es) X.env=(false,eval e X.env) :: starEach es X.env:=by rfl) (hpl:(backTo pos (starEach es X.env)).any (·.1)=false:=by rfl) :
  PE X (.Call (.Name x p) (e :: es) [] pos) (d3b sp dvs E t):=by
 intro pins s σ H Q I h
 refine wpAny_Call_Name_kw (c5b I hg hm ?_ hdb)
 refine PySem.W.callWith_K (h₀:=X.base) I.ok.mod.kin hk (thn (ha pos pins s σ H _ I h) fun us s1 ⟨vs,H1,I1,r,q⟩=>⟨I1.kIn,?_⟩) he hpl
 exact c7j F hr hb hd hx I1 r q
structure Mk (K:Γd) (C f:Addr):Prop where
 makes:PySem.W.makesIn K C=true
 init:PySem.W.findIn K (.ref C) "__init__" = some (some (.ref f))
 fn:PySem.W.isFn K (.ref f)=true
 kp:PySem.W.keepIn K (.ref C)=true
end
section
variable {X:Cx} {CX:CXT} {k:Nat} {f C:Addr} {fd:FuncData} {ps ks:List Str} {sp:Sp} {E:XK} {x m:Str} {p pos apos kpos:Pos} {e o:Expr} {es:List Expr} {kws:List Keyword} {te ta:TE} {t tk:TA} {nm:Option Str}
structure KBinds (K:Γd) (fd:FuncData) (ps ks:List Str) (g:List Value→List Value→List Value) (gV:List V→List V→List V):Prop where
 to:∀ (s:Shared) (us ws:List Value),K.In s.heap→(g us ws).length=ps.length→BindsTo s fd ⟨us,ks.zip ws⟩ (ps.zip (g us ws))
 rel:∀ {vs:List V} {us:List Value} {zs:List V} {ws:List Value},Vals vs us→Vals zs ws→Vals (gV vs zs) (g us ws)
variable {g:List Value→List Value→List Value} {gV:List V→List V→List V}
end
structure FnScope (N P:List Str) (sc:Scope):Prop where
 kind:sc.kind=.function
 co:sc.isCoroutine=false
 gen:sc.isGenerator=false
 nd:N.Nodup
 pre:N.take P.length=P
 par:∀ x∈P,sc.names.lookup x=some .local ∨ sc.names.lookup x=some .cell
 nofree:∀ y∈sc.names,y.2≠.free
theorem b0d {kindOf:Str→Option NameKind} {x:Str}:∀ {binds:List (Str×Value)} {m:Str→Option Value},(∀ v,(x,v) ∉ binds)→bindL kindOf binds m x=m x
 | [],_,_=>rfl
 | (n,v) :: r,m,h=>by
  unfold bindL
  rw [b0d fun w hw=>h w (List.mem_cons_of_mem _ hw)]
  split
  ·have:x≠n:=by rintro rfl; exact h v List.mem_cons_self
   simp [this]
  ·rfl
theorem b0f {kindOf:Str→Option NameKind} {x:Str}:∀ {binds:List (Str×Value)} {m:Str→Option Value},(∀ v,(x,v) ∉ binds)→bindC kindOf binds m x=m x
 | [],_,_=>rfl
 | (n,v) :: r,m,h=>by
  unfold bindC
  rw [b0f fun w hw=>h w (List.mem_cons_of_mem _ hw)]
  split
  ·rfl
  ·have:x≠n:=by rintro rfl; exact h v List.mem_cons_self
   simp [this]
theorem b0e {kindOf:Str→Option NameKind} {x:Str} {v:Value}:∀ {P:List Str} {vs:List Value} {i:Nat} {m:Str→Option Value},P.Nodup→P[i]?=some x→vs[i]?=some v→kindOf x=some .local →
  bindL kindOf (P.zip vs) m x=some v
 | [],_,_,_,_,h,_,_=>by simp at h
 | _ :: _,[],_,_,_,_,h,_=>by simp at h
 | p :: P,w :: vs,0,m,nd,h1,h2,hk=>by
  simp at h1 h2; subst h1; subst h2
  show bindL kindOf ((p,w) :: P.zip vs) m p=_
  unfold bindL
  rw [b0d fun v hv=>(List.nodup_cons.mp nd).1 (List.of_mem_zip hv).1,if_pos hk]
  simp
 | p :: P,w :: vs,i + 1,m,nd,h1,h2,hk=>by
  show bindL kindOf ((p,w) :: P.zip vs) m x=_
  unfold bindL
  exact b0e (i:=i) (List.nodup_cons.mp nd).2 (by simpa using h1) (by simpa using h2) hk
theorem b0g {kindOf:Str→Option NameKind} {x:Str} {v:Value}:∀ {P:List Str} {vs:List Value} {i:Nat} {m:Str→Option Value},P.Nodup→P[i]?=some x→vs[i]?=some v→kindOf x≠some .local →
  bindC kindOf (P.zip vs) m x=some v
 | [],_,_,_,_,h,_,_=>by simp at h
 | _ :: _,[],_,_,_,_,h,_=>by simp at h
 | p :: P,w :: vs,0,m,nd,h1,h2,hk=>by
  simp at h1 h2; subst h1; subst h2
  show bindC kindOf ((p,w) :: P.zip vs) m p=_
  unfold bindC
  rw [b0f fun v hv=>(List.nodup_cons.mp nd).1 (List.of_mem_zip hv).1,if_neg hk]
  simp
 | p :: P,w :: vs,i + 1,m,nd,h1,h2,hk=>by
  show bindC kindOf ((p,w) :: P.zip vs) m x=_
  unfold bindC
  exact b0g (i:=i) (List.nodup_cons.mp nd).2 (by simpa using h1) (by simpa using h2) hk
def start (N:List Str) (vs:List V):St:=vs.map some++List.replicate (N.length - vs.length) none
def c5x (CX:CXT) (P:Program) (w:World) (K:Γd) (mg:Str→Option Value) (base:Heap) (N:List Str) (qual:Str) (scope:Scope) (f:Addr) (cd:Value) (A:Around) (outer:List Env) (s:Shared) (H:Hp) (E:XK):Cx where
 prog:=P
 w:=w
 K:=K
 mg:=mg
 base:=base
 A:=A.deeper (envOfC qual scope s.heap.objs.size f cd)
 N:=N
 s₀:=s
 H₀:=H
 env:=envOfC qual scope s.heap.objs.size f cd
 outer:=outer
 stack:=envOfC qual scope s.heap.objs.size f cd :: outer
 ex:=[]
 calm:=true
 fn:=fun _=>true
 pn:=[]
 xe:=fun e s'=>wpAny (model P w) (A.deeper (envOfC qual scope s.heap.objs.size f cd)) (leaving (envOfC qual scope s.heap.objs.size f cd) e) (fun _ s''=>CX outer H s E e s'') (fun e' s''=>CX outer H s E e' s'') s'
theorem b3k {sc:Scope} {n:Nat} {x:Str} (h:sc.names.lookup x=some .cell):∃ c,(cellsFrom n sc.names []).lookup x=some c:=by
 have q:=PySem.W.cellsFrom_some sc.names n [] (.inl h)
 exact Option.isSome_iff_exists.mp q
theorem b6y {CX:CXT} {P:Program} {w:World} {K:Γd} {mg:Str→Option Value} {base:Heap} {N ps:List Str} {qual:Str} {scope:Scope} {f:Addr} {cd:Value} {A:Around} {outer:List Env} {s s1:Shared} {H:Hp} {E:XK} {us:List Value} {vs:List V}
  (S:FnScope N ps scope) (hd:A.handled=none) (e0:Env0 P w K mg base A outer s H) (hl:vs.length=ps.length) (r:Vals vs us)
  (x:InCallC s s.heap.objs.size (bindL (envOfC qual scope s.heap.objs.size f cd).kindOf (ps.zip us) fun _=>none) (cellsFrom (s.heap.objs.size + 1) scope.names []) (bindC (envOfC qual scope s.heap.objs.size f cd).kindOf (ps.zip us) fun _=>none) s1) :
  Inv (c5x CX P w K mg base N qual scope f cd A outer s H E) [] (start N vs) H s1:=by
 have hpl:ps.length≤N.length:=by have:=congrArg List.length S.pre; rw [List.length_take] at this; lia
 obtain ⟨h1,tk,rfl,hk⟩:=x.done
 have noA:∀ b:Addr,b ∉ (c5x CX P w K mg base N qual scope f cd A outer s H E).ex:=fun b z=>absurd (show b∈([]:List Addr) from z) (by simp)
 refine ⟨⟨e0.mod,S.kind,rfl,rfl,Nat.le_refl _,fun y z c h1 h2=>?_,fun y hy=>?_,fun y c _ h=>?_,fun _=>hd,Around.frames_deeper e0.frames,.inr ⟨rfl,rfl⟩,fun b z=>absurd z (noA b),e0.bs,e0.bsz,fun b _ _=>noA b,fun b z=>absurd z (noA b),e0.funs,e0.frf⟩,
  rfl,e0.bare,Un.kept hk,⟨_,x.toInCall.ns,fun i y v h1 h2 h3=>?_⟩,fun y c h=>⟨_,x.cell y c h⟩,e0.hok.fresh (Nat.le_refl _),fun y c h=>?_,fun p hp=>absurd (show p∈([]:List (Addr×Obj)) from hp) (by simp),e0.hok.kept hk,?_⟩
 ·exact name_of_addr x.apart (PySem.mem_of_lookup h1) (PySem.mem_of_lookup h2)
 ·have hy:scope.names.lookup y=some .cell ∨ scope.names.lookup y=some .free:=hy
  rcases hy with hy | hy
  ·exact b3k hy
  ·exact absurd rfl (S.nofree _ (PySem.mem_of_lookup hy))
 ·exact Nat.le_of_lt (x.above y c (PySem.mem_of_lookup h))
 ·have hi:i < vs.length:=by
   unfold start at h2
   by_cases hi:i < vs.length
   ·exact hi
   ·rw [List.getElem?_append_right (by simpa using hi)] at h2
    rw [List.getElem?_replicate] at h2
    split at h2 <;> cases h2
  have ha:vs[i]?=some v:=by
   unfold start at h2
   rw [List.getElem?_append_left (by simpa using hi),List.getElem?_map] at h2
   cases e:vs[i]? with
   | none=>rw [e] at h2; cases h2
   | some a=>rw [e] at h2; cases h2; rfl
  obtain ⟨u,hu,rv⟩:=r.get ha
  have hp:ps[i]?=some y:=by
   rw [← S.pre,List.getElem?_take_of_lt (by lia)]; exact h1
  have ndP:ps.Nodup:=by rw [← S.pre]; exact S.nd.sublist (List.take_sublist _ _)
  refine ⟨u,rv,?_⟩
  rcases S.par y (List.mem_of_getElem? hp) with k | k
  ·exact .inl ⟨k,b0e ndP hp hu k⟩
  ·obtain ⟨c,e⟩:=b3k (n:=s.heap.objs.size + 1) k
   refine .inr ⟨.inl k,c,e,?_⟩
   have q:=x.cell y c e
   rw [b0g ndP hp hu (by show scope.names.lookup y≠_; rw [k]; decide)] at q
   exact q
 ·exact e0.hok.fresh (Nat.le_of_lt (x.above y c (PySem.mem_of_lookup h)))
 ·unfold start
  show _=N.length
  rw [List.length_append,List.length_map,List.length_replicate]
  lia
theorem d5p {CX:CXT} {P:Program} {w:World} {K:Γd} {mg:Str→Option Value} {base:Heap} {k:Nat} {f:Addr} {name qual:Str} {params:Arguments} {body:List Stmt} {scope:Scope} {dV kV doc pm cdv ct oc:Value} {an od:Option Addr}
  {osl:Array (Option Value)} {N ps:List Str} {sp:Sp} (lk:K.lookup f=some ⟨oc,od,.func (PySem.W.fnOf name qual params body scope dV kV doc pm an cdv ct),osl⟩) (hcd:PySem.W.codeIn K cdv qual=true) (S:FnScope N ps scope)
  (len:∀ vs H Q E,sp vs H Q E→vs.length=ps.length)
  (hbody:∀ (A:Around) (outer:List Env) (s:Shared) (H:Hp) (vs:List V) (Q:VK) (E:XK),Room k (A.deeper (envOfC qual scope s.heap.objs.size f cdv))→sp vs H Q E →
   ∃ t,PSs (c5x CX P w K mg base N qual scope f cdv A outer s H E) body t∧t { nx:=fun _ H'=>Q .non H',rt:=Q } (start N vs) H) :
  FnOk P w K mg base CX (k + 1) f (PySem.W.fnOf name qual params body scope dV kV doc pm an cdv ct) ps sp:=by
 refine ⟨len,fun A outer s H args us vs Q E hr e0 hb r hsp=>?_⟩
 have hl:=len _ _ _ _ hsp
 have KX:K.In s.heap:=e0.mod.kin.keeps fun b o e=>(e0.bs b o e).1
 have lim:s.heap.NoLimit:=e0.mod.nolimit.keeps fun b o e=>(e0.bs b o e).1
 have hkind:∀ y∈ps.zip us,scope.names.lookup y.1=some .local ∨ (scope.names.lookup y.1=some .cell∧((cellsFrom (s.heap.objs.size + 1) scope.names []).lookup y.1).isSome=true):=fun ⟨n,v⟩ hy=>by
  rcases S.par n (List.of_mem_zip hy).1 with q | q
  ·exact .inl q
  ·exact .inr ⟨q,PySem.W.cellsFrom_some _ _ _ (.inl q)⟩
 refine codeAny_call_function hr.depth (KX _ _ lk) rfl S.co S.gen rfl (PySem.W.codeRec_of KX hcd) (hb _ _ _ _ ?_)
 refine wpAny_newFunctionEnv_cells S.kind hkind fun env he s1 x=>?_
 subst he
 refine ⟨lim.keeps x.toInCall.keep,codeAny_func ?_⟩
 obtain ⟨t,ht,hq⟩:=hbody A outer s H vs Q E (hr.deeper _) hsp
 have I:Inv (c5x CX P w K mg base N qual scope f cdv A outer s H E) [] (start N vs) H s1:=b6y S hr.hd e0 hl r x
 refine wpAny_mono (ht [] s1 (start N vs) H _ I hq) (fun fl s' hs=>?_) fun e s' hs=>hs
 have fin:∀ {σ':St} {H':Hp} {v:V} {u:Value},Inv (c5x CX P w K mg base N qual scope f cdv A outer s H E) [] σ' H' s'→RelV v u→Q v H'→CE outer P w H s Q u s' :=
  fun {σ' H' v u} J rv q=>⟨v,H',J.os,J.bare,J.base,J.hok,rv,q⟩
 cases fl with
 | ret u =>
  obtain ⟨v,σ',H',J,rv,q⟩:=hs
  exact fin J rv q
 | next =>
  obtain ⟨σ',H',J,q⟩:=hs
  exact fin (v:=V.non) (u:=Value.none) J rfl q
 | brk =>
  obtain ⟨_,_,_,q⟩:=hs
  exact False.elim q
 | cont =>
  obtain ⟨_,_,_,q⟩:=hs
  exact False.elim q
end L2
namespace L2
open PySem PySem.Spec PyProof.Rows
section
variable {X:Cx} {x:Str} {p pos:Pos} {e:Expr} {es:List Expr} {t:TA} {id T:String} {r:List V→Hp→VK→Prop}
def tCB (r:List V→Hp→VK→Prop) (t:TA):TE:=fun σ H Q=>t σ H fun vs H1=>r vs H1 Q
theorem a4k (hc:a1k X (.builtin id) r) (hg:Gl X x) (hm:X.mg x=none) (hv:bootBuiltins x=some (.builtin id)) (ha:PA X (e :: es) t) (hn:x≠"__name__":=by decide) (hdb:(x == ("__debug__":Str))=false:=by decide)
  (he:starEach (e :: es) X.env=(false,eval e X.env) :: starEach es X.env:=by rfl) (hpl:(backTo pos (starEach es X.env)).any (·.1)=false:=by rfl):PE X (.Call (.Name x p) (e :: es) [] pos) (tCB r t):=by
 intro pins s σ H Q I h
 refine wpAny_Call_Name_kw (a4o I hg hm hv ?_ hn hdb)
 exact PyProof.Rows.callWith_builtin1 (thn (ha pos pins s σ H _ I h) fun us s1 ⟨vs,H1,I1,r1,q1⟩=>hc pins s1 σ H1 vs us Q I1 r1 q1) he hpl
theorem a4j (hc:a1k X (.type T) r) (hg:Gl X x) (hm:X.mg x=none) (hv:bootBuiltins x=some (.type T)) (ha:PA X (e :: es) t) (hn:x≠"__name__":=by decide) (hdb:(x == ("__debug__":Str))=false:=by decide)
  (he:starEach (e :: es) X.env=(false,eval e X.env) :: starEach es X.env:=by rfl) (hpl:(backTo pos (starEach es X.env)).any (·.1)=false:=by rfl):PE X (.Call (.Name x p) (e :: es) [] pos) (tCB r t):=by
 intro pins s σ H Q I h
 refine wpAny_Call_Name_kw (a4o I hg hm hv ?_ hn hdb)
 exact PyProof.Rows.callWith_type1 (thn (ha pos pins s σ H _ I h) fun us s1 ⟨vs,H1,I1,r1,q1⟩=>hc pins s1 σ H1 vs us Q I1 r1 q1) he hpl
end
end L2
namespace HT
open PySem PyProof.Rows
def lexLt:List Int→List Int→Bool
 | [],[]=>false
 | [],_ :: _=>true
 | _ :: _,[]=>false
 | x :: xs,y :: ys=>if x=y then lexLt xs ys else decide (x < y)
theorem b4a (x y:Int) (xs ys:List Int):lexLt (x :: xs) (y :: ys)=if x=y then lexLt xs ys else decide (x < y):=rfl
theorem a8m:lexLt [] []=false:=rfl
theorem a6x (y:Int) (ys:List Int):lexLt [] (y :: ys)=true:=rfl
theorem a6y (x:Int) (xs:List Int):lexLt (x :: xs) []=false:=rfl
theorem c0x (A:Around) (s:Shared) (a:Int) (t:Tok) (c:Int) (u:Tok):∃ e,SeqAt.EqAt A s (.int a t) (.int c u) e∧(e=true↔a=c) :=
 ⟨(a == c),SeqAt.EqAt.int_int a t c u,by simp⟩
theorem b9l (A:Around) (s:Shared) (a:Int) (t:Tok) (c:Int) (u:Tok) (prog:Program) (w:World) (E:Value→Shared→Prop) (Q:Value→Shared→Prop) (h:Q (.bool (decide (a < c))) s) :
  wpAny (model prog w) A (richCompare .Lt (.int a t) (.int c u)) Q E s :=
 (PyProof.Rows.lt_int h:wpAny (model prog w) A (compareOp .Lt (.int a t) (.int c u)) Q E s)
section
open PySem.SeqAt
open PySem.AutoSeq1 (wpAny_loadPart')
open PySem.MeetsSeq PySem.MeetsSeq2 PySem.MeetsSeq3
theorem a7u (l b:Addr) (items items2:Array Value) (n n2:Nat) (dd dd2:Option Addr) (sl sl2:Array (Option Value)) (ns ms:List Int) (hi:IntsAre items.toList ns) (hj:IntsAre items2.toList ms) :
  Meets (Builtin.«tuple.__lt__» ⟨[.ref l,.ref b],[]⟩)
   (fun _ R s=>s.heap.get? l=some { cls:=.type "tuple",dict:=dd,data:=.seq items n,slots:=sl }∧s.heap.get? b=some { cls:=.type "tuple",dict:=dd2,data:=.seq items2 n2,slots:=sl2 } ∧
    R (.ok (.ret (.bool (lexLt ns ms)))) s) :=
 .of_wp fun prog w A R s h=>by
  obtain ⟨hp,g,d,tk,os⟩:=s; obtain ⟨hl,hb,h⟩:=h
  have f2:=AutoSeq1.sub_tuple_tuple
  have z1:items.size=ns.length:=by rw [← hi.length]; simp
  have z2:items2.size=ms.length:=by rw [← hj.length]; simp
  wp_walk using wpAny_loadPart' hl,wpAny_loadPart' hb,wpAny_forIn_list _ (fun rest b s'=>b.1=none∧s'=⟨hp,g,d,tk,os⟩∧∃ (vs ws:List Value) (ns' ms':List Int),rest=vs.zip ws ∧
   IntsAre vs ns'∧IntsAre ws ms'∧ns'.length + items2.size=ms'.length + items.size∧R (.ok (.ret (.bool (lexLt ns' ms')))) ⟨hp,g,d,tk,os⟩) _
  case turn =>
   rintro ⟨y,x⟩ rest b s' ⟨hb',rfl,vs,ws,ns',ms',hz,hvi,hwi,hlen,hR⟩
   cases hvi with
   | nil=>rw [List.zip_nil_left] at hz; cases hz
   | cons a t hvi' =>
    cases hwi with
    | nil=>rw [List.zip_nil_right] at hz; cases hz
    | cons c u hwi' =>
     rw [List.zip_cons_cons] at hz
     injection hz with hyx hrest
     injection hyx with hy hx
     subst hy hx
     rw [b4a] at hR
     simp only [List.length_cons] at hlen
     obtain ⟨e,he,hiff⟩:=c0x A.in1 ⟨hp,g,d,tk,os⟩ a t c u
     refine Γa (he prog w _ _ ?_)
     cases e with
     | true =>
      rw [if_pos (hiff.mp rfl)] at hR
      wp_walk
      exact ⟨rfl,rfl,_,_,_,_,hrest,hvi',hwi',by lia,hR⟩
     | false =>
      rw [if_neg (fun q=>absurd (hiff.mpr q) Bool.false_ne_true)] at hR
      have hri:=b9l A.in1 ⟨hp,g,d,tk,os⟩ a t c u prog w
      wp_walk using hri
      exact ⟨_,rfl,by simpa using hR⟩
  case fin =>
   rintro ⟨b1,b2⟩ s' ⟨hb',rfl,vs,ws,ns',ms',hz,hvi,hwi,hlen,hR⟩
   simp only at hb'
   subst hb'
   have hv:lexLt ns' ms'=decide (items.size < items2.size):=by
    cases hvi with
    | nil =>
     cases hwi with
     | nil =>
      simp only [List.length_nil] at hlen
      rw [a8m]
      exact (decide_eq_false (by lia)).symm
     | cons c u hw =>
      simp only [List.length_nil,List.length_cons] at hlen
      rw [a6x]
      exact (decide_eq_true (by lia)).symm
    | cons a t hv =>
     cases hwi with
     | nil =>
      simp only [List.length_nil,List.length_cons] at hlen
      rw [a6y]
      exact (decide_eq_false (by lia)).symm
     | cons c u hw =>
      rw [List.zip_cons_cons] at hz
      cases hz
   rw [hv] at hR
   wp_walk
   exact ⟨_,rfl,by simpa [Builtin.Tuple.tupleCompareSizes] using hR⟩
  case h =>
   exact ⟨rfl,rfl,items.toList,items2.toList,ns,ms,rfl,hi,hj,by lia,h⟩
end
section
variable {prog:Program} {w:World} {A:Around} {E:Value→Shared→Prop} {s:Shared}
theorem lt_tupInts {l b:Addr} {items items2:Array Value} {ns ms:List Int} {Q:Value→Shared→Prop} (hl:IsTup s.heap l items) (hb:IsTup s.heap b items2) (hi:IntsAre items.toList ns) (hj:IntsAre items2.toList ms)
  (hu:A.units < cLine) (h:Q (.bool (lexLt ns ms)) s):wpAny (model prog w) A (compareOp .Lt (.ref l) (.ref b)) Q E s:=by
 obtain ⟨⟨cls,dd,data,sl⟩,ho,hc,n,hd⟩:=id hl
 obtain ⟨⟨cls2,dd2,data2,sl2⟩,ho2,hc2,n2,hd2⟩:=id hb
 simp only at hc hd hc2 hd2
 subst hc hd hc2 hd2
 exact richCompare_meets_room (op:=.Lt) ⟨_,ho,rfl⟩ ⟨_,ho2,rfl⟩ PySem.F.slot_tuple_lt PySem.F.entry_tuple_lt (PySem.F.args_tuple_lt_2 _ _) (a7u l b items items2 n n2 dd dd2 sl sl2 ns ms hi hj)
  ⟨ho,ho2,show Value.bool (lexLt ns ms)≠Value.notImplemented∧Q (.bool (lexLt ns ms)) s from ⟨(fun x=>nomatch x),h⟩⟩ hu
theorem cat_tup {t b:Addr} {vs ws:List Value} {Q:Value→Shared→Prop} (ht:IsTup s.heap t vs.toArray) (hb:IsTup s.heap b ws.toArray) (hv:vs≠[])
  (h1:ws=[]→Q (.ref t) s) (h2:ws≠[]→Q (.ref s.heap.objs.size) { s with heap:=s.heap.push { cls:=.type "tuple",data:=.seq (vs++ws).toArray } })
  (hsz:vs.length + ws.length≤sizeLine):wpAny (model prog w) A (binaryOp .Add (.ref t) (.ref b)) Q E s:=by
 obtain ⟨⟨cls,dd,data,sl⟩,ho,hc,n,hd⟩:=id ht
 obtain ⟨⟨cls2,dd2,data2,sl2⟩,ho2,hc2,n2,hd2⟩:=id hb
 simp only at hc hd hc2 hd2
 subst hc hd hc2 hd2
 have e:vs.toArray++ws.toArray=(vs++ws).toArray:=by simp
 by_cases hw:ws=[]
 ·exact concat_meets ⟨_,ho,rfl⟩ ⟨_,ho2,rfl⟩ noFill_tuple_add seq_tuple_add PySem.F.slot_tuple_add PySem.F.entry_tuple_add (PySem.F.args_tuple_add_2 _ _)
   (tuple_addW1 t b vs.toArray ws.toArray n n2 dd dd2 sl sl2 (by simpa using hv) (by simp [hw])) ⟨ho,ho2,h1 hw⟩
 ·refine concat_meets ⟨_,ho,rfl⟩ ⟨_,ho2,rfl⟩ noFill_tuple_add seq_tuple_add PySem.F.slot_tuple_add PySem.F.entry_tuple_add (PySem.F.args_tuple_add_2 _ _)
   (tuple_addW2 t b vs.toArray ws.toArray n n2 dd dd2 sl sl2 (by simpa using hv) (by simpa using hw) (by rw [List.size_toArray,List.size_toArray]; exact hsz)) ⟨ho,ho2,?_⟩
  rw [e]
  exact h2 hw
def sIx (n d:Nat):Option Int→Nat
 | none=>d
 | some v=>if v < 0 then (v + (n:Int)).toNat else min v.toNat n
theorem c7h (n d:Nat) (hd:d≤n) (o:Option Int):sIx n d o≤n:=by
 cases o with
 | none=>exact hd
 | some v =>
  show (if v < 0 then (v + (n:Int)).toNat else min v.toNat n)≤n
  by_cases hv:v < 0
  ·rw [if_pos hv]; lia
  ·rw [if_neg hv]; exact Nat.min_le_right _ _
theorem b8j (v:Int) (n d:Nat):(if v < 0 then max (v + (n:Int)) 0 else min v (n:Int))=((sIx n d (some v):Nat):Int):=by
 show (if v < 0 then max (v + (n:Int)) 0 else min v (n:Int))=(((if v < 0 then (v + (n:Int)).toNat else min v.toNat n):Nat):Int)
 by_cases hv:v < 0
 ·simp only [if_pos hv]; lia
 ·simp only [if_neg hv]; lia
theorem b4o (lo hi:Option Int) (n:Nat):Builtin.Slice.sliceAdjust lo hi 1 (n:Int)=(((sIx n 0 lo:Nat):Int),((sIx n n hi:Nat):Int)):=by
 have h1:¬ ((1:Int) < 0):=by lia
 unfold Builtin.Slice.sliceAdjust
 simp only [h1,if_false]
 refine Prod.ext ?_ ?_
 ·cases lo with
  | none=>rfl
  | some v=>exact b8j v n 0
 ·cases hi with
  | none=>rfl
  | some v=>exact b8j v n n
theorem b3u (i j:Nat):Builtin.Slice.slicePlaces (i:Int) (j:Int) 1=j - i:=by
 unfold Builtin.Slice.slicePlaces
 have h1:(1:Int) > 0:=by lia
 simp only [h1,if_true,Int.ediv_one]
 split <;> lia
theorem a7d {v:Value} {o:Option Int} {Q:Option Int→Shared→Prop} (p:IsPart v o) (h:Q o s):wpAny (model prog w) A (Builtin.Slice.slicePartIndex v) Q E s:=by
 cases p with
 | none=>exact slicePart_none h
 | int i t=>exact slicePart_int h
theorem sliceApplied_gen {sl:Addr} {vl vu:Value} {lo hi:Option Int} {n:Nat} {Q:Int×Int×Nat→Shared→Prop} (hs:s.heap.IsSliceOf sl vl vu .none) (pl:IsPart vl lo) (pu:IsPart vu hi)
  (h:Q (((sIx n 0 lo:Nat):Int),1,sIx n n hi - sIx n 0 lo) s):wpAny (model prog w) A (Builtin.Slice.sliceApplied (.ref sl) (pure (n:Int))) Q E s:=by
 obtain ⟨os,hos,hcs,hds⟩:=id hs
 unfold Builtin.Slice.sliceApplied Builtin.Slice.sliceFields
 refine Γa (Γa (wpAny_field hos hds (x:=vl) rfl (Γa (wpAny_field hos hds (x:=vu) rfl (Γa (wpAny_field hos hds (x:=.none) rfl (Γb ?_)))))))
 refine Γa (slicePart_none ?_)
 show wpAny _ _ (if ((1:Int) == 0)=true then _ else _) _ _ s
 rw [if_neg (by decide)]
 refine Γa (a7d pl (Γa (a7d pu (Γa (Γb ?_)))))
 show wpAny _ _ (match Builtin.Slice.sliceAdjust lo hi 1 (n:Int) with | (lo,hi)=>pure (lo,(1:Int),Builtin.Slice.slicePlaces lo hi 1)) _ _ s
 rw [b4o lo hi n]
 show wpAny _ _ (pure (((sIx n 0 lo:Nat):Int),(1:Int),Builtin.Slice.slicePlaces ((sIx n 0 lo:Nat):Int) ((sIx n n hi:Nat):Int) 1)) _ _ s
 rw [b3u]
 exact Γb h
theorem b9w (xs:Array Value) (i k:Nat):((List.range k).filterMap fun (m:Nat)=>xs[((i:Int) + (m:Int) * 1).toNat]?).toArray=((xs.toList.drop i).take k).toArray:=by
 have e:(fun (m:Nat)=>xs[((i:Int) + (m:Int) * 1).toNat]?)=fun m=>xs[i + m]?:=by
  funext m
  have:((i:Int) + (m:Int) * 1).toNat=i + m:=by lia
  rw [this]
 rw [e]
 have:=pick_run xs i k
 rw [List.filterMap_map] at this
 have e2:((fun x=>xs[x]?) ∘ fun x=>i + x)=fun m=>xs[i + m]?:=rfl
 rw [e2] at this
 rw [this]
theorem getItem_tuple_cut {t sl:Addr} {items:Array Value} {vl vu:Value} {lo hi:Option Int} {Q:Value→Shared→Prop} (ht:IsTup s.heap t items) (hs:s.heap.IsSliceOf sl vl vu .none) (pl:IsPart vl lo) (pu:IsPart vu hi)
  (hw:¬ (sIx items.size 0 lo=0∧sIx items.size items.size hi=items.size))
  (h:Q (.ref s.heap.objs.size) { s with heap:=s.heap.push { cls:=.type "tuple",data:=.seq ((items.toList.drop (sIx items.size 0 lo)).take (sIx items.size items.size hi - sIx items.size 0 lo)).toArray } })
  (hsz:items.size≤sizeLine):wpAny (model prog w) A (getItem (.ref t) (.ref sl)) Q E s:=by
 have htake:sizeOk (.seq ((items.toList.drop (sIx items.size 0 lo)).take (sIx items.size items.size hi - sIx items.size 0 lo)).toArray):=by
  show ((items.toList.drop (sIx items.size 0 lo)).take (sIx items.size items.size hi - sIx items.size 0 lo)).toArray.size≤sizeLine
  rw [List.size_toArray,List.length_take,List.length_drop,Array.length_toList]
  lia
 have hj:sIx items.size items.size hi≤items.size:=c7h _ _ (Nat.le_refl _) hi
 obtain ⟨os,hos,hcs,hds⟩:=id hs
 have hTs:s.TypeIs (.ref sl) "slice":=⟨os,hos,hcs⟩
 unfold getItem
 try with_reducible refine Γg ?_
 first | refine Γa (Γb ?_) | skip
 refine Γa (wpAny_sequenceKey ht.typeIs (by decide) ?_)
 refine Γa (wpAny_callSpecial?_slot (name:=Γe "__getitem__") ht.typeIs PyProof.Rows.slot_tuple_getitem
  (wpAny_call_entry PyProof.Rows.slot_tuple_getitem ht.typeIs entry_tuple_getitem ?_ (args_tuple_getitem _ _)))
 show wpAny _ _ (Builtin.Tuple.tupleItemsOf (.ref t) >>= _) _ _ s
 refine Γa (tupleItemsOf_ ht ?_)
 refine Γa (wpAny_typeOf hTs ?_)
 rw [if_pos (by decide)]
 refine Γa (sliceApplied_gen hs pl pu ?_)
 have hno:¬ ((((sIx items.size 0 lo:Nat):Int) == 0 && (1:Int) == 1 && (sIx items.size items.size hi - sIx items.size 0 lo) == items.size)=true):=by
  intro q
  rw [Bool.and_eq_true,Bool.and_eq_true] at q
  have q1:((sIx items.size 0 lo:Nat):Int)=0:=eq_of_beq q.1.1
  have q2:sIx items.size items.size hi - sIx items.size 0 lo=items.size:=eq_of_beq q.2
  exact hw ⟨by lia,by lia⟩
 show wpAny _ _ (if (((sIx items.size 0 lo:Nat):Int) == 0 && (1:Int) == 1 && (sIx items.size items.size hi - sIx items.size 0 lo) == items.size)=true then _ else _) _ _ s
 rw [if_neg hno,b9w]
 first
  | exact Γa (m:=Builtin.Tuple.tupleExact _) (wpAny_newObj_type (Γb ⟨_,rfl,Γb h⟩) htake)
  | exact Γa (m:=Builtin.Tuple.tupleExact _) (wpAny_newObj_type (Γa (Γb (Γb ⟨_,rfl,Γb h⟩))) htake)
  | exact Γa (Γa (m:=Builtin.Tuple.tupleExact _) (wpAny_newObj_type (Γb (Γb ⟨_,rfl,Γb h⟩)) htake))
  | exact Γa (Γa (m:=Builtin.Tuple.tupleExact _) (wpAny_newObj_type (Γb ⟨_,rfl,Γb h⟩) htake))
end
end HT
namespace L2
open PySem PySem.Spec PyProof.Rows
abbrev TO:=St→Hp→(Option Int→Hp→Prop)→Prop
def PO (X:Cx) (e:Option Expr) (t:TO):Prop :=
 ∀ (pins:List (Addr×Obj)) (s:Shared) (σ:St) (H:Hp) (Q:Option Int→Hp→Prop),Inv X pins σ H s→t σ H Q →
  wpAny (model X.prog X.w) X.A (evalPart e X.env) (fun u s'=>∃ o H',Inv X pins σ H' s'∧IsPart u o∧Q o H') X.xe s
def c2z:TO:=fun _ H Q=>Q none H
def d2v (t:TE):TO:=fun σ H Q=>t σ H fun x H1=>∃ i,x=.int i∧Q (some i) H1
theorem a7l {ns:List Int}:∀ {us:List Value},Vals (ns.map V.int) us→IntsAre us ns:=by
 induction ns with
 | nil=>intro us r; rw [List.map_nil] at r; cases r; exact .nil
 | cons n ns ih =>
  intro us r
  rw [List.map_cons] at r
  cases r with
  | cons r1 r2 =>
   obtain ⟨t,e⟩:=r1
   subst e
   exact .cons n t (ih r2)
section
variable {X:Cx} {e:Expr} {te:TE} {lo hi:Option Expr} {tl th:TO} {pos p2:Pos}
theorem c4c:PO X none c2z:=by
 intro pins s σ H Q I h
 rw [evalPart_none]
 exact Γb ⟨none,H,I,.none,h⟩
theorem c4b (h:PE X e te):PO X (some e) (d2v te):=by
 intro pins s σ H Q I hw
 rw [evalPart_some]
 refine thn (h pins s σ H _ I hw) fun u s1 ⟨x,H1,I1,r1,q1⟩=>?_
 obtain ⟨i,rfl,q⟩:=q1
 obtain ⟨t,rfl⟩:=r1
 exact ⟨some i,H1,I1,.int i t,q⟩
def SlR (X:Cx) (r:V→Option Int→Option Int→Hp→VK→Prop):Prop :=
 ∀ (pins:List (Addr×Obj)) (s:Shared) (σ:St) (H:Hp) (x:V) (v vl vu:Value) (lo hi:Option Int) (sl:Addr) (Q:VK),Inv X pins σ H s→RelV x v→s.heap.IsSliceOf sl vl vu .none→IsPart vl lo→IsPart vu hi→r x lo hi H Q →
  ∃ T id,typeLookup (.type T) "__getitem__" = pure (some (.builtin id))∧s.TypeIs v T∧wpAny (model X.prog X.w) X.A (getItem v (.ref sl)) (EP X pins σ Q) X.xe s
def tSl (r:V→Option Int→Option Int→Hp→VK→Prop) (te:TE) (tl th:TO):TE:=fun σ H Q=>te σ H fun x H1=>tl σ H1 fun l H2=>th σ H2 fun u H3=>r x l u H3 Q
theorem b1y {r:V→Option Int→Option Int→Hp→VK→Prop} (hr:SlR X r) (he:PE X e te) (hl:PO X lo tl) (hu:PO X hi th):PE X (.Subscript e (.Slice lo hi none p2) pos) (tSl r te tl th):=by
 intro pins s σ H Q I h
 refine Subscript_ (thn (he pins s σ H _ I h) fun v s1 ⟨x,H1,I1,r1,q1⟩=>?_)
 refine wpAny_Slice (thn (hl pins s1 σ H1 _ I1 q1) fun vl s2 ⟨l,H2,I2,pl,q2⟩=>thn (hu pins s2 σ H2 _ I2 q2) fun vu s3 ⟨u,H3,I3,pu,q3⟩=>?_)
 rw [evalPart_none]
 refine Γb ?_
 have I4:Inv X pins σ H3 { s3 with heap:=s3.heap.push { cls:=.type "slice",data:=.fields #[vl,vu,.none] } }:=I3.kept (t':=s3.toks) fun b ob q=>Γc _ q
 obtain ⟨T,id,hT,ht,hg⟩:=hr pins { s3 with heap:=s3.heap.push { cls:=.type "slice",data:=.fields #[vl,vu,.none] } } σ H3 x v vl vu l u s3.heap.objs.size Q I4 r1 (Heap.IsSliceOf.new ..) pl pu q3
 show wpAny (model X.prog X.w) X.A (subscriptTail e (.Slice lo hi none p2) v (.ref s3.heap.objs.size)) (EP X pins σ Q) X.xe { s3 with heap:=s3.heap.push { cls:=.type "slice",data:=.fields #[vl,vu,.none] } }
 exact tail_any (ops:=[.ref s3.heap.objs.size,v]) ht hT hg (by with_unfolding_all rfl)
def c2l (xs:List V) (lo hi:Option Int):List V:=(xs.drop (HT.sIx xs.length 0 lo)).take (HT.sIx xs.length xs.length hi - HT.sIx xs.length 0 lo)
theorem a6q (xs:List V) (lo hi:Option Int):(c2l xs lo hi).length≤xs.length:=by
 unfold c2l
 rw [List.length_take,List.length_drop]
 lia
def rSlT (K:Γd):V→Option Int→Option Int→Hp→VK→Prop:=fun x lo hi H Q=>∃ a xs,x=.ref a∧SqT K H a xs ∧
 ¬ (HT.sIx xs.length 0 lo=0∧HT.sIx xs.length xs.length hi=xs.length)∧∀ p,H p=none→Q (.ref p) (upd H p (.tup (c2l xs lo hi)))
theorem c7e:SlR X (rSlT X.K):=by
 intro pins s σ H x v vl vu lo hi sl Q I rx hs pl pu h
 obtain ⟨a,xs,rfl,hx,hw,q⟩:=h
 cases rx
 obtain ⟨its,r,ht,hz⟩:=I.tuple hx
 have hlen:its.toArray.size=xs.length:=by rw [List.size_toArray]; exact r.length.symm
 refine ⟨"tuple",_,PyProof.Rows.slot_tuple_getitem.lookup,ht.typeIs,?_⟩
 refine HT.getItem_tuple_cut ht hs pl pu (by rw [hlen]; exact hw) ?_ (by rw [hlen]; exact hz)
 rw [hlen]
 refine ⟨.ref s.heap.objs.size,_,I.laid (t':=s.toks) (o:=.tup (c2l xs lo hi)) (fun b ob q=>Γc _ q) (Nat.le_refl _) ?_,rfl,q _ (I.hok.fresh (Nat.le_refl _))⟩
 exact ⟨Nat.le_trans (a6q xs lo hi) hz,_,(r.drop (HT.sIx xs.length 0 lo)).take (HT.sIx xs.length xs.length hi - HT.sIx xs.length 0 lo),IsTup.new _ _⟩
def rLtT (K:Γd):R2:=fun x y H Q=>∃ a b ns ms,x=.ref a∧y=.ref b∧SqT K H a (ns.map V.int)∧SqT K H b (ms.map V.int)∧Q (.bl (HT.lexLt ns ms)) H
theorem c8y (hu:X.A.units < cLine):OpR X (compareOp .Lt) (rLtT X.K):=by
 intro pins s σ H x y v u Q I rx ry h
 obtain ⟨a,b,ns,ms,rfl,rfl,ha,hb,q⟩:=h
 cases rx
 cases ry
 obtain ⟨its,r1,p1,_⟩:=I.tuple ha
 obtain ⟨its2,r2,p2,_⟩:=I.tuple hb
 have i1:IntsAre its.toArray.toList ns:=a7l r1
 have i2:IntsAre its2.toArray.toList ms:=a7l r2
 exact HT.lt_tupInts p1 p2 i1 i2 hu ⟨.bl (HT.lexLt ns ms),H,I,rfl,q⟩
def d3t (K:Γd):R2:=fun x y H Q=>∃ a b xs ys,x=.ref a∧y=.ref b∧SqT K H a xs∧SqT K H b ys∧xs≠[]∧xs.length + ys.length≤sizeLine ∧
 (ys=[]→Q (.ref a) H)∧(ys≠[]→∀ p,H p=none→Q (.ref p) (upd H p (.tup (xs++ys))))
theorem Vals.nil_iff {xs:List V} {us:List Value} (r:Vals xs us):us=[]↔xs=[]:=by
 cases r with
 | nil=>simp
 | cons _ _=>simp
theorem c4o:OpR X (binaryOp .Add) (d3t X.K):=by
 intro pins s σ H x y v u Q I rx ry h
 obtain ⟨a,b,xs,ys,rfl,rfl,ha,hb,hx,hz,q1,q2⟩:=h
 cases rx
 cases ry
 obtain ⟨its,r1,p1,_⟩:=I.tuple ha
 obtain ⟨its2,r2,p2,_⟩:=I.tuple hb
 refine HT.cat_tup p1 p2 (fun z=>hx (r1.nil_iff.mp z)) (fun z=>⟨.ref a,H,I,rfl,q1 (r2.nil_iff.mp z)⟩) (fun z=>?_) (by rw [← r1.length,← r2.length]; exact hz)
 refine ⟨.ref s.heap.objs.size,_,I.laid (t':=s.toks) (o:=.tup (xs++ys)) (fun b ob q=>Γc _ q) (Nat.le_refl _) ?_,rfl,q2 (fun w=>z (r2.nil_iff.mpr w)) _ (I.hok.fresh (Nat.le_refl _))⟩
 exact ⟨by rw [List.length_append]; exact hz,_,r1.append r2,IsTup.new _ _⟩
end
end L2
namespace L2
open PySem PySem.Spec PyProof.Rows
def ixN (n:Nat) (i:Int):Option Nat:=if 0≤i then (if i < n then some i.toNat else none) else if -(n:Int)≤i then some (i + n).toNat else none
def atI {α:Type} (xs:List α) (i:Int):Option α:=(ixN xs.length i).bind fun j=>xs[j]?
theorem b6r {n:Nat} {i:Int} {j:Nat} (h:ixN n i=some j):seqIndex? i n=some j∧j < n∧-(n:Int)≤i∧i < n:=by
 unfold ixN at h
 by_cases h0:0≤i
 ·rw [if_pos h0] at h
  by_cases h1:i < n
  ·rw [if_pos h1] at h
   have e:i.toNat=j:=Option.some.inj h
   exact ⟨by rw [seqIndex_of h0 h1,e],by lia,by lia,h1⟩
  ·rw [if_neg h1] at h; cases h
 ·rw [if_neg h0] at h
  by_cases h1:-(n:Int)≤i
  ·rw [if_pos h1] at h
   have e:(i + n).toNat=j:=Option.some.inj h
   exact ⟨by rw [seqIndex_neg (by lia) h1,e],by lia,h1,by lia⟩
  ·rw [if_neg h1] at h; cases h
theorem b8o {α:Type} {xs:List α} {i:Int} {v:α} (h:atI xs i=some v):∃ j,seqIndex? i xs.length=some j∧xs[j]?=some v∧j < xs.length∧-(xs.length:Int)≤i∧i < xs.length:=by
 unfold atI at h
 cases e:ixN xs.length i with
 | none=>rw [e] at h; cases h
 | some j =>
  rw [e] at h
  obtain ⟨h1,h2,h3,h4⟩:=b6r e
  exact ⟨j,h1,h,h2,h3,h4⟩
def b8r (b:Expr):Prop:=∀ o i,subscripted b false o i=operate [o,i] (getItem o i)
def IxR (X:Cx) (r:R2):Prop :=
 ∀ (value slice:Expr) (pins:List (Addr×Obj)) (s:Shared) (σ:St) (H:Hp) (x y:V) (v u:Value) (Q:VK),Inv X pins σ H s→RelV x v→RelV y u→r x y H Q →
  subscripted slice false v u=operate [v,u] (getItem v u)→wpAny (model X.prog X.w) X.A (subscriptTail value slice v u) (EP X pins σ Q) X.xe s
def MtR (X:Cx) (id:String) (r:V→List V→Hp→VK→Prop):Prop :=
 ∀ (pins:List (Addr×Obj)) (s:Shared) (σ:St) (H:Hp) (x:V) (xs:List V) (v:Value) (us:List Value) (Q:VK),Inv X pins σ H s→RelV x v→Vals xs us→r x xs H Q →
  wpAny (model X.prog X.w) X.A (call (.builtin id) (v :: us)) (EP X pins σ Q) X.xe s
section
variable {X:Cx} {a b:Expr} {ta tb:TE} {pos:Pos}
theorem c8o {r:R2} (hr:IxR X r) (ha:PE X a ta) (hb:PE X b tb) (hs:b8r b):PE X (.Subscript a b pos) (tOp r ta tb):=by
 intro pins s σ H Q I h
 exact Subscript_ (d7w ha hb I h fun v u s2 x y H2 I2 rx ry q=>hr a b pins s2 σ H2 x y v u Q I2 rx ry q (hs _ _))
def rIxL (K:Γd):R2:=fun x y H Q=>∃ p xs i v,x=.ref p∧y=.int i∧SqL K H p xs∧atI xs i=some v∧Q v H
def rIxT (K:Γd):R2:=fun x y H Q=>∃ p xs i v,x=.ref p∧y=.int i∧SqT K H p xs∧atI xs i=some v∧Q v H
theorem c5e:IxR X (rIxL X.K):=by
 intro value slice pins s σ H x y v u Q I rx ry h hs
 obtain ⟨p,xs,i,z,rfl,rfl,hq,he,q⟩:=h
 cases rx
 obtain ⟨t,rfl⟩:=ry
 obtain ⟨its,r,pl,hz⟩:=I.list hq
 obtain ⟨j,h1,h2,h3,h4,h5⟩:=b8o he
 obtain ⟨w,ew,rw'⟩:=r.get h2
 have hl:=r.length
 have hn:=a9n
 have fin:EP X pins σ Q w s:=⟨z,H,I,rw',q⟩
 by_cases h0:0≤i
 ·have hj:i.toNat=j:=by
   rw [seqIndex_of h0 h5] at h1
   exact Option.some.inj h1
  exact item_listR pl.isList h0 (by lia) (by rw [hj]; simpa using ew) fin hs
 ·have hj:(i + (its.toArray.size:Int)).toNat=j:=by
   rw [seqIndex_neg (by lia) h4] at h1
   rw [List.size_toArray,← hl]
   exact Option.some.inj h1
  exact subscriptTail_builtinR (x:=w) pl.isList.typeIs slot_list_getitem.lookup
   (wpAny_getItem_list_neg (Q:=fun r s'=>r=w∧EP X pins σ Q r s') pl.isList (by lia) (by rw [List.size_toArray] <;> lia) (by lia) (by rw [hj]; simpa using ew) ⟨rfl,fin⟩) hs
theorem c9v:IxR X (rIxT X.K):=by
 intro value slice pins s σ H x y v u Q I rx ry h hs
 obtain ⟨p,xs,i,z,rfl,rfl,hq,he,q⟩:=h
 cases rx
 obtain ⟨t,rfl⟩:=ry
 obtain ⟨its,r,pl,hz⟩:=I.tuple hq
 obtain ⟨j,h1,h2,h3,h4,h5⟩:=b8o he
 obtain ⟨w,ew,rw'⟩:=r.get h2
 have hl:=r.length
 have hn:=a9n
 have fin:EP X pins σ Q w s:=⟨z,H,I,rw',q⟩
 exact subscriptTail_builtinR (x:=w) pl.typeIs slot_tuple_getitem.lookup
  (getItem_tuple (j:=j) (Q:=fun r s'=>r=w∧EP X pins σ Q r s') pl (by lia) (by lia) (by rw [List.size_toArray,← hl]; exact h1) (by simpa using ew) ⟨rfl,fin⟩) hs
theorem b3y (its:List Value) (n j:Nat) (u:Value):Obj.mapSeq (·.setIfInBounds j u) { cls:=.type "list",data:=.seq its.toArray n } = { cls:=.type "list",data:=.seq (its.set j u).toArray n }:=by
 simp [Obj.mapSeq]
theorem Inv.lst {pins:List (Addr×Obj)} {σ:St} {H:Hp} {s:Shared} {p:Addr} {xs:List V} (I:Inv X pins σ H s) (h:H p=some (.lst xs)) :
  ∃ (its:List Value) (n:Nat),Vals xs its∧s.heap.get? p=some { cls:=.type "list",data:=.seq its.toArray n }∧xs.length≤sizeLine:=by
 obtain ⟨z,its,n,r,e⟩:=I.hok p _ h
 exact ⟨its,n,r,e,z⟩
theorem Inv.lstUpd {pins:List (Addr×Obj)} {σ:St} {H:Hp} {s:Shared} {p:Addr} {xs ys:List V} {its its':List Value} {n n':Nat} {f:Obj→Obj} (I:Inv X pins σ H s) (h:H p=some (.lst xs))
  (ho:s.heap.get? p=some { cls:=.type "list",data:=.seq its.toArray n }) (hf:f { cls:=.type "list",data:=.seq its.toArray n } = { cls:=.type "list",data:=.seq its'.toArray n' }) (r:Vals ys its') (hz:ys.length≤sizeLine) (t:Nat) :
  Inv X pins σ (upd H p (.lst ys)) { s with heap:=s.heap.update p f,toks:=t }:=by
 have e:(s.heap.update p f).get? p=some { cls:=.type "list",data:=.seq its'.toArray n' }:=by
  rw [Heap.get?_update_self f ho (by rw [hf] <;> rfl),hf]
 refine I.write (x:=p) (e:=p) (by rw [h]; trivial) (.inl rfl) (fun b u hb q=>(Γf _ _ (Ne.symm hb)).trans q) ⟨_,e⟩ ?_
 exact ⟨hz,its',n',r,e⟩
def d3r:V→V→V→Hp→(Hp→Prop)→Prop:=fun o i v H Q=>∃ p xs k j,o=.ref p∧i=.int k∧H p=some (.lst xs)∧ixN xs.length k=some j∧Q (upd H p (.lst (xs.set j v)))
theorem b9h:PSet X d3r:=by
 intro pins s σ H o i v ov iv u Q I ro ri rv h
 obtain ⟨p,xs,k,j,rfl,rfl,hp,hj,q⟩:=h
 cases ro
 obtain ⟨t,rfl⟩:=ri
 obtain ⟨its,n,r,ho,hz⟩:=I.lst hp
 obtain ⟨h1,h2,h3,h4⟩:=b6r hj
 have hl:=r.length
 have hn:=a9n
 have I':Inv X pins σ (upd H p (.lst (xs.set j v))) { s with heap:=s.heap.update p (Obj.mapSeq (·.setIfInBounds j u)) } :=
  I.lstUpd hp ho (b3y its n j u) (r.set rv j) (by rw [List.length_set]; exact hz) s.toks
 by_cases h0:0≤k
 ·have hk:k.toNat=j:=by
   rw [seqIndex_of h0 h4] at h1
   exact Option.some.inj h1
  exact PySem.W.ki_setAt ho h0 (by lia) (by rw [List.size_toArray,← hl]; exact h4) (by rw [hk]; exact ⟨_,I',q⟩)
 ·have hk:(k + (its.toArray.size:Int)).toNat=j:=by
   rw [seqIndex_neg (by lia) h3] at h1
   rw [List.size_toArray,← hl]
   exact Option.some.inj h1
  exact PySem.W.ki_setBack ho (by lia) (by rw [List.size_toArray,← hl]; exact h3) (by lia) (by rw [hk]; exact ⟨_,I',q⟩)
theorem a9a (lo hi:Option Int) (n:Nat):(sliceBounds lo hi none n).1=((HT.sIx n 0 lo:Nat):Int)∧(sliceBounds lo hi none n).2.1=((HT.sIx n n hi:Nat):Int)∧(sliceBounds lo hi none n).2.2=1:=by
 refine ⟨?_,?_,rfl⟩
 ·cases lo with
  | none=>simp [sliceBounds,HT.sIx]
  | some i =>
   simp only [sliceBounds,HT.sIx,Option.getD_none,show (1:Int) > 0 by decide,if_true]
   by_cases h:i < 0
   ·simp only [h,if_true] <;> lia
   ·simp only [h,if_false] <;> lia
 ·cases hi with
  | none=>simp [sliceBounds,HT.sIx]
  | some i =>
   simp only [sliceBounds,HT.sIx,Option.getD_none,show (1:Int) > 0 by decide,if_true]
   by_cases h:i < 0
   ·simp only [h,if_true] <;> lia
   ·simp only [h,if_false] <;> lia
theorem a7x (its:List Value) (lo hi:Option Int):slicePick its.toArray lo hi none=((its.drop (HT.sIx its.length 0 lo)).take (HT.sIx its.length its.length hi - HT.sIx its.length 0 lo)).toArray:=by
 obtain ⟨h1,h2,h3⟩:=a9a lo hi its.toArray.size
 unfold slicePick
 rw [h1,h2,h3]
 simp only [sliceRange_one,pick_run,List.size_toArray] <;> rfl
def rSlL (K:Γd):V→Option Int→Option Int→Hp→VK→Prop:=fun x lo hi H Q=>∃ a xs,x=.ref a∧SqL K H a xs∧∀ p,H p=none→Q (.ref p) (upd H p (.lst (c2l xs lo hi)))
theorem c3i:SlR X (rSlL X.K):=by
 intro pins s σ H x v vl vu lo hi sl Q I rx hs pl pu h
 obtain ⟨a,xs,rfl,hx,q⟩:=h
 cases rx
 obtain ⟨its,r,ht,hz⟩:=I.list hx
 have hlen:=r.length
 refine ⟨"list",_,slot_list_getitem.lookup,ht.isList.typeIs,?_⟩
 refine wpAny_getItem_list_slice ht.isList hs pl pu .none (by simp) ?_ (by rw [List.size_toArray] <;> lia)
 rw [a7x,← hlen]
 refine ⟨.ref s.heap.objs.size,_,I.laid (t':=s.toks) (o:=.lst (c2l xs lo hi)) (fun b ob q=>Γc _ q) (Nat.le_refl _) ?_,rfl,q _ (I.hok.fresh (Nat.le_refl _))⟩
 exact ⟨Nat.le_trans (a6q xs lo hi) hz,_,0,(r.drop (HT.sIx xs.length 0 lo)).take (HT.sIx xs.length xs.length hi - HT.sIx xs.length 0 lo),Heap.get?_push_size _ rfl⟩
theorem b0b:a1k X (.builtin "len") (fun xs H Q=>∃ p ys,xs=[.ref p]∧(SqL X.K H p ys ∨ SqT X.K H p ys)∧Q (.int ys.length) H):=by
 intro pins s σ H xs us Q I r h
 obtain ⟨p,ys,rfl,hq,q⟩:=h
 obtain ⟨u,rfl,rx⟩:=a3o r
 cases rx
 have hn:=a9n
 rcases hq with hq | hq
 ·obtain ⟨its,r',pl,hz⟩:=I.list hq
  have hlen:=r'.length
  exact Calls.call_len_list pl.isList (by simp only [List.size_toArray] <;> lia) ⟨.int ys.length,H,I.tok _,⟨s.toks + 1,by rw [List.size_toArray,hlen]⟩,q⟩
 ·obtain ⟨its,r',pl,hz⟩:=I.tuple hq
  have hlen:=r'.length
  exact len_tuple pl (by simp only [List.size_toArray] <;> lia) ⟨.int ys.length,H,I.tok _,⟨s.toks + 1,by rw [List.size_toArray,hlen]⟩,q⟩
theorem b0a:a1k X (.type "list") (fun xs H Q=>∃ p ys,xs=[.ref p]∧(SqL X.K H p ys ∨ SqT X.K H p ys)∧∀ l,H l=none→Q (.ref l) (upd H l (.lst ys))):=by
 intro pins s σ H xs us Q I r h
 obtain ⟨p,ys,rfl,hq,q⟩:=h
 obtain ⟨u,rfl,rx⟩:=a3o r
 cases rx
 have fin:∀ (its:List Value),Vals ys its→ys.length≤sizeLine→∀ (h':Heap) (c':Nat),(∀ b o',s.heap.get? b=some o'→h'.get? b=some o') →
   h'.get? s.heap.objs.size=some { cls:=.type "list",dict:=none,data:=.seq its.toArray c',slots:=#[] }→EP X pins σ Q (.ref s.heap.objs.size) { s with heap:=h' }:=fun its r' hz h' c' kp e =>
  ⟨.ref s.heap.objs.size,_,I.laid (t':=s.toks) kp (Nat.le_refl _) (show ObjOk X.prog X.w _ h' _ (.lst ys) from ⟨hz,its,c',r',e⟩),rfl,q _ (I.hok.fresh (Nat.le_refl _))⟩
 rcases hq with hq | hq
 ·obtain ⟨its,r',pl,hz⟩:=I.list hq
  have hlen:=r'.length
  obtain ⟨o,ho,hc,n,hd⟩:=pl.isList
  exact call_list_seq p (.inl rfl) ho hc hd (fun h' c' kp e=>fin its r' hz h' c' kp e) (by simp only [List.size_toArray] <;> lia)
 ·obtain ⟨its,r',pl,hz⟩:=I.tuple hq
  have hlen:=r'.length
  obtain ⟨o,ho,hc,n,hd⟩:=pl
  exact call_list_seq p (.inr rfl) ho hc hd (fun h' c' kp e=>fin its r' hz h' c' kp e) (by simp only [List.size_toArray] <;> lia)
theorem a3a:a1k X (.type "tuple") (fun xs H Q=>∃ p ys,xs=[.ref p]∧((SqL X.K H p ys∧∀ l,H l=none→Q (.ref l) (upd H l (.tup ys))) ∨ (SqT X.K H p ys∧Q (.ref p) H))):=by
 intro pins s σ H xs us Q I r h
 obtain ⟨p,ys,rfl,h⟩:=h
 obtain ⟨u,rfl,rx⟩:=a3o r
 cases rx
 rcases h with ⟨hq,q⟩ | ⟨hq,q⟩
 ·obtain ⟨its,r',pl,hz⟩:=I.list hq
  have hlen:=r'.length
  refine call_tuple_list pl.isList (fun h' kp=>?_) (by simp only [List.size_toArray] <;> lia)
  have I1:Inv X pins σ H { s with heap:=h' }:=I.kept (t':=s.toks) kp
  have I2:Inv X pins σ (upd H h'.objs.size (.tup ys)) { s with heap:=h'.push { cls:=.type "tuple",data:=.seq its.toArray } } :=
   I1.laid (t':=s.toks) (fun b o e=>Γc _ e) (Nat.le_refl _) (show ObjOk X.prog X.w _ _ _ (.tup ys) from ⟨hz,its,r',IsTup.new _ _⟩)
  exact ⟨.ref h'.objs.size,_,I2,rfl,q _ (I1.hok.fresh (Nat.le_refl _))⟩
 ·obtain ⟨its,r',pl,hz⟩:=I.tuple hq
  exact call_tuple_same pl ⟨.ref p,H,I,rfl,q⟩
def tyV (K:Γd) (T:String) (x:V) (H:Hp):Prop:=match x with
 | .str _=>T = "str"
 | .int _=>T = "int"
 | .ref p=>(T = "list"∧∃ xs,SqL K H p xs) ∨ (T = "tuple"∧∃ o,K.lookup p=some o∧o.cls=.type "tuple"∧o.dict=none) ∨
   (T = "dict"∧((∃ kvs,H p=some (.dK kvs)) ∨ ∃ kvs,H p=some (.dT kvs))) ∨ (T = "set"∧∃ S n,H p=some (.set S n))
 | _=>False
theorem c6s {pins:List (Addr×Obj)} {σ:St} {H:Hp} {s:Shared} {T:String} {x:V} {v:Value} (I:Inv X pins σ H s) (r:RelV x v) (ty:tyV X.K T x H) :
  s.TypeIs v T∧∀ a,v=.ref a→∃ ob,s.heap.get? a=some ob∧ob.dict=none:=by
 cases x with
 | str z =>
  obtain ⟨t,rfl⟩:=r
  cases (show T = "str" from ty)
  exact ⟨typeIs_str s z t,fun _ e=>nomatch e⟩
 | int i =>
  obtain ⟨t,rfl⟩:=r
  cases (show T = "int" from ty)
  exact ⟨typeIs_int s i t,fun _ e=>nomatch e⟩
 | ref p =>
  cases r
  rcases ty with ⟨rfl,xs,hq⟩ | ⟨rfl,o,hk,hc,hd⟩ | ⟨rfl,hk⟩ | ⟨rfl,S,n,hk⟩
  ·obtain ⟨its,_,pl,_⟩:=I.list hq
   refine ⟨pl.isList.typeIs,fun a e=>?_⟩
   cases e
   obtain ⟨o,n,e,c,hd,_⟩:=pl
   exact ⟨o,e,hd⟩
  ·refine ⟨⟨o,I.kIn p o hk,hc⟩,fun a e=>?_⟩
   cases e
   exact ⟨o,I.kIn _ o hk,hd⟩
  ·have z:∃ o,s.heap.get? p=some o∧o.ExactDict:=by
    rcases hk with ⟨kvs,hk⟩ | ⟨kvs,hk⟩
    ·obtain ⟨_,_,_,_,o,_,_,e,ex,_⟩:=I.hok p _ hk
     exact ⟨o,e,ex⟩
    ·obtain ⟨_,_,_,_,o,_,_,e,ex,_⟩:=I.hok p _ hk
     exact ⟨o,e,ex⟩
   obtain ⟨o,e,ex⟩:=z
   refine ⟨⟨o,e,ex.1⟩,fun a e2=>?_⟩
   cases e2
   exact ⟨o,e,ex.2.1⟩
  ·obtain ⟨o,_,_,_,e,ex,_⟩:=I.hok p _ hk
   refine ⟨⟨o,e,ex.1⟩,fun a e2=>?_⟩
   cases e2
   exact ⟨o,e,ex.2.1⟩
 | _=>exact False.elim ty
def tBM (K:Γd) (T:String) (r:V→List V→Hp→VK→Prop) (to:TE) (t:TA):TE:=fun σ H Q=>to σ H fun x H1=>tyV K T x H1∧t σ H1 fun xs H2=>r x xs H2 Q
variable {o e:Expr} {es:List Expr} {to:TE} {t:TA} {name:Str} {apos cpos:Pos} {T id:String} {r:V→List V→Hp→VK→Prop}
theorem c8r (pa:PlainAttrs T) (slot:Slot T name id) (hty:typeOf (.builtin id)=pure (.type "method_descriptor")) (hm:MtR X id r) (ho:PE X o to) (ha:PA X (e :: es) t)
  (hbase:attributeBase o name X.env (eval o X.env)=eval o X.env:=by rfl)
  (hfew:((backTo cpos (starEach (e :: es) X.env)).all (fun x=>!x.1) && (backToKw cpos (keywordEach [] X.env)).all (fun x=>x.1.isSome)
   && decide ((e :: es).length + ([]:List Keyword).length + (if ([]:List Keyword).isEmpty then 0 else 1) < 30))=true:=by rfl)
  (hline:(apos.endLine == cpos.line)=true:=by rfl) (hs:starEach (e :: es) X.env=(false,eval e X.env) :: starEach es X.env:=by rfl) (hplain:(backTo cpos (starEach es X.env)).any (·.1)=false:=by rfl) :
  PE X (.Call (.Attribute o name apos) (e :: es) [] cpos) (tBM X.K T r to t):=by
 intro pins s σ H Q I h
 refine wpAny_Call_method_late hbase hfew hline rfl (thn (ho pins s σ H _ I h) fun v s1 ⟨x,H1,I1,r1,ty,q1⟩=>?_)
 obtain ⟨h1,h2⟩:=c6s I1 r1 ty
 refine ⟨T,id,pa,slot,hty,h1,h2,?_⟩
 have hA:=ha cpos pins s1 σ H1 _ I1 q1
 rw [hs] at hA ⊢
 refine Calls.callWith_builtin (by show (false || (backTo cpos (starEach es X.env)).any (·.1))=false; rw [hplain] <;> rfl) (Calls.evalArgs_plain ?_)
 exact thn hA fun us s2 ⟨vs,H2,I2,r2,q2⟩=>hm pins s2 σ H2 x vs v us Q I2 r1 r2 q2
/- xs.append(e),list.index on a module's tuple .. are MtR facts of 06m -/
end
end L2
namespace L2
open PySem PySem.Spec PyProof.Rows
def MtM (X:Cx) (id:String) (r:V→List V→Hp→VK→Prop):Prop :=
 ∀ (pins:List (Addr×Obj)) (s:Shared) (σ:St) (H:Hp) (x:V) (xs:List V) (v:Value) (us:List Value) (Q:VK),Inv X pins σ H s→RelV x v→Vals xs us→r x xs H Q →
  wpAny (model X.prog X.w) X.A (call (.builtin id) (v :: us)) (EP X pins σ Q) X.xe s
theorem Vals.one:∀ {x:V} {us:List Value},Vals [x] us→∃ u,us=[u]∧RelV x u
 | _,_,.cons r .nil=>⟨_,rfl,r⟩
theorem Vals.two:∀ {x y:V} {us:List Value},Vals [x,y] us→∃ u v,us=[u,v]∧RelV x u∧RelV y v
 | _,_,_,.cons r (.cons q .nil)=>⟨_,_,rfl,r,q⟩
theorem Vals.dropLast {xs:List V} {us:List Value} (h:Vals xs us):Vals xs.dropLast us.dropLast:=by
 induction h with
 | nil=>exact .nil
 | cons r t ih =>
  cases t with
  | nil=>exact .nil
  | cons q t'=>exact .cons r ih
theorem Vals.eraseIdx:∀ {xs:List V} {us:List Value} (i:Nat),Vals xs us→Vals (xs.eraseIdx i) (us.eraseIdx i)
 | _,_,_,.nil=>.nil
 | _,_,0,.cons _ t=>t
 | _,_,i + 1,.cons r t=>.cons r (Vals.eraseIdx i t)
theorem Vals.reverse {xs:List V} {us:List Value} (h:Vals xs us):Vals xs.reverse us.reverse:=by
 induction h with
 | nil=>exact .nil
 | cons r t ih=>rw [List.reverse_cons,List.reverse_cons]; exact Vals.append ih (.cons r .nil)
theorem Vals.rep {xs:List V} {us:List Value} (h:Vals xs us):∀ k:Nat,Vals (List.replicate k xs).flatten (List.replicate k us).flatten
 | 0=>.nil
 | k + 1=>by
  rw [List.replicate_succ,List.replicate_succ,List.flatten_cons,List.flatten_cons]
  exact Vals.append h (Vals.rep h k)
theorem a9r (its:List Value):∀ (k:Nat) (acc:List Value),
  List.foldl (fun x1 x2=>x1++x2) acc.toArray (List.replicate k its.toArray)=(acc++(List.replicate k its).flatten).toArray
 | 0,acc=>by simp
 | k + 1,acc=>by
  have e:acc.toArray++its.toArray=(acc++its).toArray:=by simp
  have e2:(acc++its)++(List.replicate k its).flatten=acc++(List.replicate (k + 1) its).flatten:=by
   rw [List.replicate_succ,List.flatten_cons,List.append_assoc]
  rw [← e2,← a9r its k (acc++its),← e,List.replicate_succ,List.foldl_cons]
section
variable {X:Cx} {pins:List (Addr×Obj)} {σ:St} {H:Hp} {s:Shared} {l b:Addr} {xs ys zs:List V}
theorem Inv.lset {its its':List Value} {n:Nat} {f:Array Value→Array Value} {t':Nat} (I:Inv X pins σ H s) (hH:H l=some (.lst xs))
  (e:s.heap.get? l=some { cls:=.type "list",data:=.seq its.toArray n }) (hf:f its.toArray=its'.toArray) (hv:Vals ys its') (hz:ys.length≤sizeLine) :
  Inv X pins σ (upd H l (.lst ys)) { s with heap:=s.heap.update l (Obj.mapSeq f),toks:=t' }:=by
 have q:=PySem.IsL.update e f
 rw [hf] at q
 refine I.write (x:=l) (e:=l) (by rw [hH]; exact trivial) (.inl rfl) (fun b' u hb hu=>(Γf s.heap (Obj.mapSeq f) (Ne.symm hb)).trans hu) ⟨_,q⟩ ?_
 exact ⟨hz,its',_,hv,q⟩
theorem Inv.lnew {its:List Value} {t':Nat} (I:Inv X pins σ H s) (hv:Vals ys its) (hz:ys.length≤sizeLine) :
  Inv X pins σ (upd H s.heap.objs.size (.lst ys)) { s with heap:=s.heap.push { cls:=.type "list",data:=.seq its.toArray },toks:=t' } :=
 I.laid (fun _ _ q=>Γc _ q) (Nat.le_refl _) ⟨hz,its,0,hv,Heap.get?_push_size _ rfl⟩
theorem Inv.fresh (I:Inv X pins σ H s):H s.heap.objs.size=none:=I.hok.fresh (Nat.le_refl _)
theorem Inv.lstM (I:Inv X pins σ H s) (hH:H l=some (.lst xs)):xs.length≤sizeLine∧∃ (its:List Value) (n:Nat),Vals xs its∧xs.length=its.length∧s.heap.get? l=some { cls:=.type "list",data:=.seq its.toArray n }:=by
 obtain ⟨z,its,n,r,e⟩:=I.hok l _ hH
 exact ⟨z,its,n,r,r.length,e⟩
theorem c0e {n:Nat} (h:n≤sizeLine):Builtin.List.listTooLong n=false:=by
 unfold Builtin.List.listTooLong
 exact decide_eq_false (by lia)
end
section
variable {X:Cx}
def c3s:V→List V→Hp→VK→Prop:=fun x vs H Q=>∃ l xs y,x=.ref l∧vs=[y]∧H l=some (.lst xs)∧xs.length < sizeLine∧Q .non (upd H l (.lst (xs++[y])))
theorem a9k:MtM X "list.append" c3s:=by
 intro pins s σ H x vs v us Q I rx rv h
 obtain ⟨l,xs,y,rfl,rfl,hH,hz,q⟩:=h
 cases rx
 obtain ⟨u,rfl,ru⟩:=rv.one
 obtain ⟨z,its,n,r,hl,e⟩:=I.lstM hH
 refine call_meets F.slot_list_append ⟨_,e,rfl⟩ F.entry_list_append (F.args_list_append_2 _ _) (PySem.list_append l its.toArray n u (by rw [List.size_toArray]; lia)) ⟨e,?_⟩
 refine ⟨.non,_,I.lset (its':=its++[u]) hH e (by simp) (r.append (.cons ru .nil)) ?_,rfl,q⟩
 rw [List.length_append,List.length_singleton]
 lia
def rCat:R2:=fun x y H Q=>∃ l b xs zs,x=.ref l∧y=.ref b∧H l=some (.lst xs)∧H b=some (.lst zs)∧xs.length + zs.length≤sizeLine∧∀ p,H p=none→Q (.ref p) (upd H p (.lst (xs++zs)))
theorem c8z:OpR X (binaryOp .Add) rCat:=by
 intro pins s σ H x y v u Q I rx ry h
 obtain ⟨l,b,xs,zs,rfl,rfl,hH,hB,hz,q⟩:=h
 cases rx
 cases ry
 obtain ⟨z,its,n,r,hl,e⟩:=I.lstM hH
 obtain ⟨z2,its2,n2,r2,hl2,e2⟩:=I.lstM hB
 refine PySem.P.add_list e e2 ?_ (by rw [List.size_toArray,List.size_toArray]; lia)
 have ea:its.toArray++its2.toArray=(its++its2).toArray:=by simp
 rw [ea]
 exact ⟨.ref _,_,I.lnew (t':=s.toks) (r.append r2) (by rw [List.length_append]; lia),rfl,q _ I.fresh⟩
def rRep:R2:=fun x y H Q=>∃ l k xs,x=.ref l∧y=.int k∧H l=some (.lst xs)∧-(2 ^ 63)≤k∧k < 2 ^ 63∧xs.length * k.toNat≤sizeLine ∧
 ∀ p,H p=none→Q (.ref p) (upd H p (.lst (List.replicate k.toNat xs).flatten))
theorem c4y {α:Type} (xs:List α) (k:Nat):(List.replicate k xs).flatten.length=k * xs.length:=by
 induction k with
 | zero=>simp
 | succ k ih=>rw [List.replicate_succ,List.flatten_cons,List.length_append,ih,Nat.succ_mul,Nat.add_comm]
theorem c8u:OpR X (binaryOp .Mult) rRep:=by
 intro pins s σ H x y v u Q I rx ry h
 obtain ⟨l,k,xs,rfl,rfl,hH,h1,h2,hz,q⟩:=h
 cases rx
 obtain ⟨t,rfl⟩:=ry
 obtain ⟨z,its,n,r,hl,e⟩:=I.lstM hH
 have hlen:its.toArray.size * k.toNat≤sizeLine:=by rw [List.size_toArray,← hl]; exact hz
 have hcap:¬ its.toArray.size * k.toNat > (2 ^ 63 - 1) / 8:=by
  have:(sizeLine:Nat)≤(2 ^ 63 - 1) / 8:=by decide
  lia
 have hfit:¬ (!Builtin.List.listFitsIndex k)=true:=by
  rw [fitsIndex_both h1 h2]
  exact Bool.false_ne_true
 have hlong:¬ Builtin.List.listTooLong (its.toArray.size * k.toNat)=true:=by
  rw [c0e hlen]
  exact Bool.false_ne_true
 have hnew:List.foldl (fun x1 x2=>x1++x2) #[] (List.replicate (if its.toArray.isEmpty=true then 0 else k.toNat) its.toArray)=(List.replicate k.toNat its).flatten.toArray:=by
  have f0:∀ m:Nat,List.foldl (fun x1 x2=>x1++x2) #[] (List.replicate m its.toArray)=(List.replicate m its).flatten.toArray:=fun m=>by
   have:=a9r its m []
   rw [List.nil_append] at this
   exact this
  rw [f0]
  cases its with
  | nil=>simp
  | cons a r'=>rw [if_neg (by simp)]
 refine wpAny_binaryOp_repeat_ref (T:="list") (U:="int") (by decide) ⟨_,e,rfl⟩ (fun s'=>typeIs_int s' k t) noFill_list_mul F.fills_int_mul F.slot_int_rmul repeat_list F.slot_int_index.lookup
  (call_meets F.slot_int_rmul (typeIs_int s k t) F.entry_int_rmul (F.args_int_rmul_2 _ _) (int___rmul___int_list k t l its.toArray n)
   ⟨e,rfl,⟨_,e,rfl⟩,call_meets F.slot_list_mul ⟨_,e,rfl⟩ F.entry_list_mul (F.args_list_mul_2 _ _) (AutoListH.list___mul___list_int_3 l its.toArray n k t hfit hcap hlong) ⟨e,?_⟩⟩)
 rw [hnew]
 exact ⟨.ref _,_,I.lnew (t':=s.toks) (r.rep k.toNat) (by rw [c4y,Nat.mul_comm]; exact hz),rfl,q _ I.fresh⟩
end
section
variable {prog:Program} {w:World} {A:Around} {E:Value→Shared→Prop} {s:Shared}
set_option maxRecDepth 100000 in
end
section
variable {X:Cx}
end
end L2
namespace Att
open PySem PySem.W PySem.Calls PyProof.Rows
theorem a6k {P:Params} {h:Heap}:∀ (ns:List Int) (vs:List Value),WellAll P h vs (ns.map WData.int)→IntsAre vs ns:=by
 intro ns
 induction ns with
 | nil =>
  intro vs w
  rw [List.map_nil] at w
  cases w
  exact .nil
 | cons n ns ih =>
  intro vs w
  rw [List.map_cons] at w
  cases w with
  | cons a b =>
   cases a
   exact .cons _ _ (ih _ b)
theorem b5j {l:OpenLaw} {n:Nat} (hn:l.most=some n) {P:Params} {h:Heap} {args:List WData} {vals:List Value}
  (hpre:l.row.toRowW.claim.pre args=true) (hwl:WellAll P h vals args) :
  ∃ a vs ns,vals=[Value.ref a]∧args=[WData.list (ns.map WData.int)]∧h.get? a=some { cls:=.type "list",data:=.seq vs.toArray }∧IntsAre vs ns∧ns.length≤n:=by
 have hsh:WShape.hasAll [] args [.list .int]=true:=(pre_splitW hpre).1
 have hc:l.pre.holds [] { args:=args } = true:=(pre_splitW hpre).2
 obtain ⟨d,r,rfl,h1,h2⟩:=hasAllW_cons hsh
 obtain rfl:=hasAllW_nil h2
 obtain ⟨xs,rfl,h3⟩:=hasW_list h1
 obtain ⟨ns,rfl⟩:=items_int h3
 have hlen:ns.length≤n:=by
  unfold OpenLaw.pre at hc
  have h4:(WTm.not (.lt (.lit (.int (n:Int))) (.len (.arg 0)))).holds [] { args:=[.list (ns.map .int)] } = true:=by
   have h4:=(holds_andW hc).1
   rw [hn] at h4
   exact h4
  have h5:=condW_of h4 (w_not (w_lt w_lit (w_len_list (w_arg rfl))))
  rw [List.length_map] at h5
  refine Nat.le_of_not_lt fun q=>?_
  have q':(n:Int) < ((ns.length:Nat):Int):=by lia
  first
   | (rw [decide_eq_true q'] at h5; exact absurd h5 (by decide))
   | (simp at h5; lia)
 cases hwl with
 | cons w1 w2 =>
  cases w2
  cases w1 with
  | list ho hall=>exact ⟨_,_,ns,rfl,rfl,ho,a6k ns _ hall,hlen⟩
theorem b5w (l:OpenLaw) (args:List WData):l.row.toRowW.claim.post args (.bool true) args=true :=
 postW_of (r:=l.row.toRowW) (X:=(true == true))
  (show WShape.has [] (.bool true) .bool=true by first | rfl | decide | simp [WShape.has,WShape.arms,WShape.armsAll])
  (show (WTm.eq .res (.lit (.bool true))).value [] { args:=args,res:=some (.bool true),after:=args } = some (.bool (true == true)) from w_eq_bool (w_res rfl) w_lit) rfl
theorem attach_call {l:OpenLaw} {n:Nat} {q:Program} {loose:List Str} {XP:(Str→Option Value)→Heap→Prop} {YP:World→Heap→Prop} {d:DefRec}
  (hn:l.most=some n) (hdf:d.params.defaults=[])
  (call:∀ (w:World) (s₀ s₁:Shared) (mg mb:Str→Option Value) (fa:Addr) (o:Obj) (pm cd doc:Value) (a:Addr) (vs:List Value) (ns:List Int),
   Ground q loose [] XP w s₀ mg mb s₁.heap→YP w s₁.heap →
   s₁.heap.get? fa=some o→o.data=.func (docDef d.name d.params d.body d.scope pm cd doc)→s₁.heap.CodeRec cd d.name→mg d.name=some (.ref fa) →
   s₁.heap.get? a=some { cls:=.type "list",data:=.seq vs.toArray }→IntsAre vs ns→ns.length≤n→s₁.gens = #[] →
   codeAny (model l.prog w) callerA (.call (.ref fa) ⟨[.ref a],[]⟩) (fun r s'=>r=.ok (.ret (.bool true))∧OldK s₁.heap s'.heap∧s'.os=s₁.os∧AllBare s'.gens) s₁) :
  WalkO q loose XP YP l.row.toRowW d [] (fun f vs=>PySem.call f vs):=by
 intro w s₀ s₁ mg mb G Y fa o pm cd doc dV kV ho hd hcd hD hmg hg args vals as hpre hlay hrd hwl hlo
 obtain rfl:dV=.none:=Dflts.none hD hdf
 obtain rfl:kV=.none:=Dflts.noKw hD
 obtain ⟨a,vs,ns,rfl,rfl,hobj,hints,hlen⟩:=b5j hn hpre hwl
 refine enter_call (codeAny_mono (call w s₀ s₁ mg mb fa o pm cd doc a vs ns G Y ho (fd_plain hd) hcd hmg hobj hints hlen hg) fun r s' hq=>?_)
 obtain ⟨rfl,h2,h3,h4⟩:=hq
 exact ⟨.inl ⟨.bool true,.bool true,[],rfl,fun _=>rfl,.bool true,b5w l _,fun _=>⟨List.Pairwise.nil,fun _ hm=>(nomatch hm)⟩⟩,h2,h3,h4⟩
section
variable {prog:Program} {w:World} {A:Around} {E:Value→Shared→Prop} {s:Shared} {K:Frag}
theorem d7o {R:Result→Shared→Prop} {name qual:Str} {params:Arguments} {body:List Stmt} {scope:Scope} {dV kV doc pm cdv ct oc:Value} {an od:Option Addr} {osl:Array (Option Value)} {f:Addr} {args:Args} {binds:List (Str×Value)}
  (X:K.In s.heap) (hlim:s.heap.NoLimit) (ho:K.lookup f=some ⟨oc,od,.func (fnOf name qual params body scope dV kV doc pm an cdv ct),osl⟩) (hcd:codeIn K cdv qual=true) (hroom:A.depth < recursionLimit)
  (hbind:BindsTo s (fnOf name qual params body scope dV kV doc pm an cdv ct) args binds)
  (hkind:(binds.all fun y=>scope.names.lookup y.1 == some .local || scope.names.lookup y.1 == some .cell)=true)
  (h:∀ s₁,InCallC s s.heap.objs.size (bindL (envOfC qual scope s.heap.objs.size f cdv).kindOf binds fun _=>none) (cellsFrom (s.heap.objs.size + 1) scope.names [])
    (bindC (envOfC qual scope s.heap.objs.size f cdv).kindOf binds fun _=>none) s₁ →
   wpAny (model prog w) (A.deeper (envOfC qual scope s.heap.objs.size f cdv)) (execs body (envOfC qual scope s.heap.objs.size f cdv))
    (fun fl s'=>R (.ok (.ret (match fl with | .ret v=>v | _=>.none))) s')
    (fun e s'=>wpAny (model prog w) (A.deeper (envOfC qual scope s.heap.objs.size f cdv)) (leaving (envOfC qual scope s.heap.objs.size f cdv) e) (fun _ s''=>R (.error e) s'') (fun e' s''=>R (.error e') s'') s') s₁)
  (hco:scope.isCoroutine=false) (hgen:scope.isGenerator=false) (hk:scope.kind=.function):codeAny (model prog w) A (.call (.ref f) args) R s:=by
 refine codeAny_call_function hroom (X _ _ ho) rfl hco hgen rfl (codeRec_of X hcd) (hbind _ _ _ _ ?_)
 refine wpAny_newFunctionEnv_cells hk (kindsX hkind _) fun env he s₁ x=>?_
 subst he
 exact ⟨hlim.keeps x.toInCall.keep,codeAny_func (h s₁ x)⟩
def ledger (h:Heap) (L d:Addr):List (Addr×Obj):=(List.range h.objs.size).filterMap fun a=>if a=L ∨ a=d then none else (h.get? a).map fun o=>(a,o)
end
end Att
namespace L2
open PySem PySem.Spec PyProof.Rows
theorem a8x:∀ {vs:List Value} {ns:List Int},IntsAre vs ns→Vals (ns.map V.int) vs
 | _,_,.nil=>.nil
 | _,_,.cons n t h=>.cons ⟨t,rfl⟩ (a8x h)
def d1d (H:Hp):Prop:=∀ b,H b=none ∨ ∃ o xs,H b=some (.frz o (.lst xs))
theorem b2n {P:Program} {w:World} {K:Γd} {mg mb:Str→Option Value} {CX:CXT} {k:Nat} {fa a:Addr} {fd:FuncData} {x:Str} {sp:Sp} {s₁:Shared} {vs:List Value} {ns:List Int}
  (KX:K.In s₁.heap) (hns:s₁.heap.Ns mainGlobals mg) (hb:s₁.heap.Ns builtinsNs mb) (hbb:∀ x:Str,x≠"__name__"→mb x=bootBuiltins x) (hlim:s₁.heap.NoLimit) (hg:s₁.gens = #[])
  (ha:s₁.heap.get? a=some { cls:=.type "list",data:=.seq vs.toArray }) (hi:IntsAre vs ns) (hl:ns.length≤sizeLine) (hr:Room k callerA)
  (F:∀ base:Heap,K.In base→base.Ns mainGlobals mg→FnOk P w K mg base CX k fa fd [x] sp) (hbind:∀ (s:Shared) (u:Value),BindsTo s fd ⟨[u],[]⟩ [(x,u)])
  (hsp:∀ H:Hp,d1d H→SqL K H a (ns.map V.int)→sp [.ref a] H (fun v _=>v=.bl true) fun _ _ _=>False)
  (hCX:∀ H e s',CX [] H s₁ (fun _ _ _=>False) e s'→False) :
  codeAny (model P w) callerA (.call (.ref fa) ⟨[.ref a],[]⟩) (fun r s'=>r=.ok (.ret (.bool true))∧OldK s₁.heap s'.heap∧s'.os=s₁.os∧AllBare s'.gens) s₁:=by
 have rv:=a8x hi
 have lenV:=hi.length
 -- from an abstract heap in which nothing but the script may be tracked
 have core:∀ H:Hp,d1d H→SqL K H a (ns.map V.int)→HOk P w H s₁.heap→(∀ b,H b≠none→b=a)→(H a≠none→K.lookup a=none) →
   codeAny (model P w) callerA (.call (.ref fa) ⟨[.ref a],[]⟩) (fun r s'=>r=.ok (.ret (.bool true))∧OldK s₁.heap s'.heap∧s'.os=s₁.os∧AllBare s'.gens) s₁:=by
  intro H hO hS hok hA hK
  have base_of:∀ {b:Addr} {o:Obj},s₁.heap.get? b=some o→H b=none→(c0q s₁.heap H).get? b=some o:=fun e n=>c0p e n
  have noA:∀ {b:Addr} {o:Obj} {es:Array DictEntry} {ep:Nat},s₁.heap.get? b=some o→o.data=.dict es ep→H b=none:=fun {b o es ep} e d=>by
   cases q:H b with
   | none=>rfl
   | some u =>
    have e':b=a:=hA b (by rw [q]; simp)
    subst e'
    rw [ha] at e; cases e
    have d':Data.seq vs.toArray _=Data.dict es ep:=d
    cases d'
  have nsK:∀ {b:Addr} {m:Str→Option Value},s₁.heap.Ns b m→(c0q s₁.heap H).Ns b m:=fun {b m} ⟨o,es,ep,e,d,r⟩=>⟨o,es,ep,base_of e (noA e d),d,r⟩
  have hKb:K.In (c0q s₁.heap H):=fun b o e=>base_of (KX b o e) (by
   cases q:H b with
   | none=>rfl
   | some u =>
    have e':b=a:=hA b (by rw [q]; simp)
    subst e'
    rw [hK (by rw [q]; simp)] at e; cases e)
  have hM:Mod K mg (c0q s₁.heap H):=⟨hKb,nsK hns,⟨mb,nsK hb,hbb⟩,let ⟨mc,h1,h2⟩:=hlim; ⟨mc,nsK h1,h2⟩⟩
  have e0:Env0 P w K mg (c0q s₁.heap H) callerA [] s₁ H:=⟨rfl,hM,fun b o e=>c4q e,Nat.le_of_eq (b7b _ _),trivial,fun b hb=>absurd (show b∈([]:List Addr) from hb) (by simp),hok,.of_eq hg⟩
  refine codeAny_mono ((F _ hKb (nsK hns)).run callerA [] s₁ H ⟨[.ref a],[]⟩ [.ref a] [.ref a] _ _ hr e0 (hbind s₁ (.ref a)) (.cons rfl .nil) (hsp H hO hS)) fun r s' h=>?_
  cases r with
  | error e=>exact (hCX H e s' h).elim
  | ok fl =>
   cases fl with
   | next=>exact False.elim h
   | brk=>exact False.elim h
   | cont=>exact False.elim h
   | ret u =>
    obtain ⟨v,H',os,bare,un,hok',r',q⟩:=h
    have q':v=.bl true:=q
    subst q'
    obtain rfl:u=Value.bool true:=r'
    refine ⟨rfl,OldK.of_keep fun b o e=>?_,os,bare⟩
    cases q:H b with
    | none=>exact un.keep b o e q (by intro z; exact absurd (show b∈([]:List Addr) from z) (by simp)) (by simp)
    | some u =>
     rcases hO b with z | ⟨ob,xs,z⟩
     ·rw [q] at z; cases z
     ·have z2:=un.frzs b ob _ z
      obtain ⟨e1,_⟩:=hok b _ z
      obtain ⟨e2,_⟩:=hok' b _ z2
      rw [e] at e1; cases e1
      exact e2
 cases hk:K.lookup a with
 | some o =>
  -- the script is one of the module's own objects
  have e:=KX a o hk
  rw [ha] at e
  cases e
  refine core (fun _=>none) (fun _=>.inl rfl) (.inr ⟨_,vs.toArray,_,hk,rfl,rfl,rfl,by rw [List.size_toArray,lenV]; exact hl,by simpa using rv⟩) (fun b u z=>by have z':(none:Option HO)=some u:=z; cases z') (fun b z=>absurd rfl z) fun z=>absurd rfl z
 | none =>
  refine core (fun b=>if b=a then some (.frz { cls:=.type "list",data:=.seq vs.toArray } (.lst (ns.map V.int))) else none) (fun b=>?_) (.inl (.inr ⟨{ cls:=.type "list",data:=.seq vs.toArray },if_pos rfl⟩)) (fun b u z=>?_) (fun b z=>?_) fun _=>hk
  ·by_cases hb:b=a
   ·exact .inr ⟨_,_,if_pos hb⟩
   ·exact .inl (if_neg hb)
  ·by_cases hb:b=a
   ·have z':=(if_pos hb).symm.trans z
    cases z'
    subst hb
    exact ⟨ha,by rw [List.length_map]; exact hl,vs,_,rv,ha⟩
   ·have z':=(if_neg hb).symm.trans z
    cases z'
  ·by_cases hb:b=a
   ·exact hb
   ·exact absurd (if_neg hb) z
end L2
namespace L2
open PySem PySem.Spec PyProof.Rows
abbrev KOf {K:Γd} {h:Heap} (_:K.In h):Γd:=K
theorem walk_of {l:PySem.W.OpenLaw} {n k:Nat} {q:Program} {loose:List Str} {XP:(Str→Option Value)→Heap→Prop} {YP:World→Heap→Prop} {d:DefRec} {K:Params→Γd} {CX:World→CXT} {sp:World→Sp} {x:Str}
  (hn:l.most=some n) (hn2:n≤sizeLine) (hdf:d.params.defaults=[]) (hr:Room k callerA)
  (hY:∀ (w:World) (h:Heap),YP w h→(K w.params).In h)
  (F:∀ (w:World) (mg:Str→Option Value) (fa:Addr) (h:Heap),(K w.params).In h→h.Ns mainGlobals mg→mg d.name=some (.ref fa) →
   ∃ fd:FuncData,(∀ (s:Shared) (u:Value),BindsTo s fd ⟨[u],[]⟩ [(x,u)]) ∧
    ∀ base:Heap,(K w.params).In base→base.Ns mainGlobals mg→FnOk l.prog w (K w.params) mg base (CX w) k fa fd [x] (sp w))
  (hsp:∀ (w:World) (H:Hp) (a:Addr) (ns:List Int),ns.length≤n→d1d H→SqL (K w.params) H a (ns.map V.int)→sp w [.ref a] H (fun v _=>v=.bl true) fun _ _ _=>False)
  (hCX:∀ (w:World) (H:Hp) (s:Shared) (e:Value) (s':Shared),CX w [] H s (fun _ _ _=>False) e s'→False) :
  PySem.W.WalkO q loose XP YP l.row.toRowW d [] (fun f vs=>PySem.call f vs):=by
 refine Att.attach_call hn hdf fun w s₀ s₁ mg mb fa o pm cd doc a vs ns G Y ho hd hcd hmg hobj hints hlen hg=>?_
 have KX:=hY w _ Y
 obtain ⟨fd,hb,hF⟩:=F w mg fa _ KX G.T.g hmg
 exact b2n KX G.T.g G.T.b G.T.builtins G.T.nolimit hg hobj hints (Nat.le_trans hlen hn2) hr hF hb (fun H hO hS=>hsp w H a ns hlen hO hS) fun H e s'=>hCX w H s₁ e s'
end L2
/- THE LAST THEOREM (shape; LID, My.* are yours):
   My.Adr: a structure of the addresses that your layer names (classes, functions); My.Txt K t: a structure (Prop) of the equations over K;
   My.txt_mk : {K} {implicit addresses ..} (e1 : nsIn K mainGlobals "law" = some (some (.ref f))) (e2 : K.lookup f = some ⟨oc, od, .func (fnOf "law" "law" params body scope dV kV doc pm an cdv ct), sl⟩) (e3 : codeIn K cdv "law" = true) .. : ∃ t, My.Txt K t
set_option maxRecDepth 100000 in
set_option maxHeartbeats 0 in
theorem PySem.Challenge.cw_LID_holds:PySem.Challenge.rw_LID.Holds:=by
 w_on; o_law; k_head; (case hw=>w_witness2)
 k_fill
 refine L2.walk_of (l:=PySem.Challenge.rw_LID) (n:=63) (k:=40) (x:="script") (CX:=fun w=>..) (sp:=fun _=>My.sp_law) rfl (by decide) rfl ⟨rfl,by decide,by decide⟩ (fun w h Y=>PySem.W.kIn_of Y) ?F ?S ?C
 case F =>
  intro w mg fa h KX G hmg
  have T:∃ t,My.Txt (L2.KOf KX) t:=by
   dsimp only [L2.KOf]                          -- K must stand as «<heap const> w.params» for k_is
   refine' My.txt_mk ?e1 ?e2 ?e3 ..
   (case e1=>PySem.W.k_is)                    -- in the order: a name -> its address -> its object -> its parts
   (case e2=>PySem.W.k_is)
   ..
  obtain ⟨t,T⟩:=T
  have e0:=hmg.symm.trans (PySem.W.mg_of KX G T.law)
  cases e0                                       -- fa is the law's own address
  exact ⟨_,fun s u=>.of_eq rfl,fun base kb nb=>My.law_fn T kb nb⟩     -- if «.of_eq rfl» comes too early: refine' ⟨_,?b,fun base kb nb=>My.law_fn T kb nb⟩; exact fun s u=>.of_eq rfl
 case S=>exact fun w H a ns hl hO hS=>..
 case C=>exact ..
(the tactic k_is has no namespace: write k_is) -/
namespace L2
open PySem PySem.Spec PyProof.Rows
def a5l (s:Stmt):Arguments:=match s with
 | .FunctionDef _ a _ _ _ _ _ _ _ _=>a
 | _=>{ posonlyargs:=[],args:=[],vararg:=none,kwonlyargs:=[],kw_defaults:=[],kwarg:=none,defaults:=[] }
def a2f (s:Stmt):List Stmt:=match s with
 | .FunctionDef _ _ b _ _ _ _ _ _ _=>b
 | _=>[]
def a0s (s:Stmt):Scope:=match s with
 | .FunctionDef _ _ _ _ _ _ sc _ _ _=>sc
 | _=>{ kind:=.function,names:=[],isGenerator:=false,isCoroutine:=false }
abbrev CX0:CXT:=fun _ _ _ _ _ _=>False
abbrev E0:XK:=fun _ _ _=>False
theorem d4h {X:Cx}:b8s CX0 X E0:=fun _ _ _ _ _ _ _ h=>h.elim
structure Fun (K:Γd) (x qual:Str) (st:Stmt) (f:Addr) (fd:FuncData):Prop where
 ex:∃ (oc:Value) (od:Option Addr) (kV doc pm:Value) (an:Option Addr) (cdv ct:Value) (osl:Array (Option Value)),
  fd=PySem.W.fnOf x qual (a5l st) (a2f st) (a0s st) .none kV doc pm an cdv ct∧K.lookup f=some ⟨oc,od,.func fd,osl⟩∧PySem.W.codeIn K cdv qual=true
 kp:PySem.W.keepIn K (.ref f)=true
section
variable {P:Program} {w:World} {K:Γd} {mg:Str→Option Value} {base:Heap}
theorem Fun.ok {x qual:Str} {st:Stmt} {f:Addr} {fd:FuncData} {N ps:List Str} {k:Nat} {sp:Sp} (F:Fun K x qual st f fd) (S:FnScope N ps (a0s st)) (len:∀ vs H Q E,sp vs H Q E→vs.length=ps.length)
  (hbody:∀ (cdv:Value) (A:Around) (outer:List Env) (s:Shared) (H:Hp) (vs:List V) (Q:VK) (E:XK),Room k (A.deeper (envOfC qual (a0s st) s.heap.objs.size f cdv))→sp vs H Q E →
   ∃ t,PSs (c5x CX0 P w K mg base N qual (a0s st) f cdv A outer s H E).nox (a2f st) t∧t { nx:=fun _ H'=>Q .non H',rt:=Q } (start N vs) H):FnOk P w K mg base CX0 (k + 1) f fd ps sp:=by
 obtain ⟨oc,od,kV,doc,pm,an,cdv,ct,osl,rfl,lk,hcd⟩:=F.ex
 refine d5p lk hcd S len fun A outer s H vs Q E hr hsp=>?_
 obtain ⟨t,h,q⟩:=hbody cdv A outer s H vs Q E hr hsp
 exact ⟨t,h.nox,q⟩
theorem Fun.binds {x qual:Str} {st:Stmt} {f:Addr} {fd:FuncData} {ps:List Str} (F:Fun K x qual st f fd)
  (h:∀ (kV doc pm:Value) (an:Option Addr) (cdv ct:Value) (us:List Value),us.length=ps.length→bindArgs (PySem.W.fnOf x qual (a5l st) (a2f st) (a0s st) .none kV doc pm an cdv ct) ⟨us,[]⟩=pure (ps.zip us)):Binds K fd ps []:=by
 obtain ⟨oc,od,kV,doc,pm,an,cdv,ct,osl,rfl,lk,hcd⟩:=F.ex
 exact .all (h kV doc pm an cdv ct)
theorem d0d {x qual:Str} {st:Stmt} {f:Addr} {oc:Value} {od an:Option Addr} {osl:Array (Option Value)} {kV doc pm cdv ct:Value} (l:K.lookup f=some ⟨oc,od,.func (PySem.W.fnOf x qual (a5l st) (a2f st) (a0s st) .none kV doc pm an cdv ct),osl⟩)
  (c:PySem.W.codeIn K cdv qual=true) (k:PySem.W.keepIn K (.ref f)=true):Fun K x qual st f (PySem.W.fnOf x qual (a5l st) (a2f st) (a0s st) .none kV doc pm an cdv ct):=⟨⟨oc,od,kV,doc,pm,an,cdv,ct,osl,rfl,l,c⟩,k⟩
end
section
variable {X:Cx}
end
theorem ite2 {c A B:Prop} [Decidable c] (h1:c→A) (h2:¬ c→B):if c then A else B:=by
 by_cases h:c
 ·rw [if_pos h]
  exact h1 h
 ·rw [if_neg h]
  exact h2 h
def Same (H H':Hp):Prop:=∀ b o,H b=some o→H' b=some o
theorem Same.refl (H:Hp):Same H H:=fun _ _ h=>h
theorem Same.trans {H H1 H2:Hp} (a:Same H H1) (b:Same H1 H2):Same H H2:=fun c o h=>b c o (a c o h)
theorem Same.free {H H':Hp} (e:Same H H') {l:Addr} (h:H' l=Option.none):H l=Option.none:=by
 cases q:H l with
 | none=>rfl
 | some o =>
  rw [e l o q] at h
  cases h
theorem Same.seq {K:Γd} {H H':Hp} {a:Addr} {xs:List V} (e:Same H H') (h:SqL K H a xs):SqL K H' a xs:=by
 rcases h with (h | ⟨o,h⟩) | h
 ·exact .inl (.inl (e _ _ h))
 ·exact .inl (.inr ⟨o,e _ _ h⟩)
 ·exact .inr h
end L2
end
section
namespace L2
open PySem PySem.Spec PyProof.Rows
section
variable {κ:Type} [DecidableEq κ]
def b0i (kvs:List (κ×V)) (k:κ):Option V:=(kvs.find? fun kv=>decide (kv.1=k)).map (·.2)
def a4b (kvs:List (κ×V)) (k:κ) (v:V):List (κ×V) :=
 if (kvs.any fun kv=>decide (kv.1=k))=true then kvs.map (fun kv=>if kv.1=k then (kv.1,v) else kv) else kvs++[(k,v)]
def d0r (kvs:List (κ×V)) (k:κ):List (κ×V):=kvs.filter fun kv=>decide (kv.1≠k)
theorem a4d {p:κ×V} {r:List (κ×V)} {k:κ} (e:p.1=k):b0i (p :: r) k=some p.2:=by simp [b0i,List.find?_cons,e]
theorem a4e {p:κ×V} {r:List (κ×V)} {k:κ} (e:¬ p.1=k):b0i (p :: r) k=b0i r k:=by simp [b0i,List.find?_cons,e]
theorem a5s (k:κ):∀ kvs:List (κ×V),(kvs.any fun kv=>decide (kv.1=k))=(b0i kvs k).isSome
 | []=>rfl
 | p :: r=>by
  rw [List.any_cons]
  by_cases e:p.1=k
  ·simp only [a4d e,decide_eq_true e,Bool.true_or,Option.isSome_some]
  ·rw [a4e e,decide_eq_false e,Bool.false_or]; exact a5s k r
theorem a2e (kvs:List (κ×V)) (k:κ) (v:V):(a4b kvs k v).length≤kvs.length + 1:=by
 unfold a4b
 split
 ·rw [List.length_map]; lia
 ·rw [List.length_append,List.length_cons,List.length_nil]; lia
theorem RelO.isSome_eq {o:Option V} {u:Option Value} (r:RelO o u):o.isSome=u.isSome:=by
 cases o with
 | none=>cases u with
  | none=>rfl
  | some _=>exact (show False from r).elim
 | some _=>cases u with
  | none=>exact (show False from r).elim
  | some _=>rfl
theorem RelO.getD {o:Option V} {u:Option Value} {d:V} {d':Value} (r:RelO o u) (rd:RelV d d'):RelV (o.getD d) (u.getD d'):=by
 cases o with
 | none=>cases u with
  | none=>exact rd
  | some _=>exact (show False from r).elim
 | some _=>cases u with
  | none=>exact (show False from r).elim
  | some _=>exact r
theorem KV.val {kvs:List (κ×V)} {vs:List (κ×Value)} (r:KV kvs vs) (k:κ):RelO (b0i kvs k) (valueAt vs k):=by
 unfold KV at r
 induction r with
 | nil=>exact True.intro
 | @cons p q ps qs h t ih =>
  obtain ⟨h1,h2⟩:=h
  by_cases e:p.1=k
  ·have e':q.1=k:=h1.symm.trans e
   have b:valueAt (q :: qs) k=some q.2:=by simp [valueAt,List.find?_cons,e']
   rw [a4d e,b]; exact h2
  ·have e':¬ q.1=k:=fun z=>e (h1.trans z)
   have b:valueAt (q :: qs) k=valueAt qs k:=by simp [valueAt,List.find?_cons,e']
   rw [a4e e,b]; exact ih
theorem KV.any {kvs:List (κ×V)} {vs:List (κ×Value)} (r:KV kvs vs) (k:κ):(kvs.any fun kv=>decide (kv.1=k))=vs.any fun kv=>decide (kv.1=k):=by
 unfold KV at r
 induction r with
 | nil=>rfl
 | cons h t ih=>rw [List.any_cons,List.any_cons,ih,h.1]
theorem KV.repl {kvs:List (κ×V)} {vs:List (κ×Value)} (r:KV kvs vs) (k:κ) {y:V} {u:Value} (ry:RelV y u) :
  KV (kvs.map fun kv=>if kv.1=k then (kv.1,y) else kv) (vs.map fun kv=>if kv.1=k then (kv.1,u) else kv):=by
 unfold KV at r ⊢
 induction r with
 | nil=>exact .nil
 | @cons p q ps qs h t ih =>
  rw [List.map_cons,List.map_cons]
  refine .cons ?_ ih
  obtain ⟨h1,h2⟩:=h
  by_cases e:p.1=k
  ·rw [if_pos e,if_pos (h1.symm.trans e)]; exact ⟨h1,ry⟩
  ·rw [if_neg e,if_neg (fun z=>e (h1.trans z))]; exact ⟨h1,h2⟩
theorem KV.put {kvs:List (κ×V)} {vs:List (κ×Value)} (r:KV kvs vs) (k:κ) {y:V} {u:Value} (ry:RelV y u):KV (a4b kvs k y) (stored vs k u):=by
 unfold a4b stored
 rw [r.any k]
 by_cases e:(vs.any fun kv=>decide (kv.1=k))=true
 ·rw [if_pos e,if_pos e]; exact r.repl k ry
 ·rw [if_neg e,if_neg e]; exact Paired.snoc r ⟨rfl,ry⟩
theorem KV.drop {kvs:List (κ×V)} {vs:List (κ×Value)} (r:KV kvs vs) (k:κ):KV (d0r kvs k) (without vs k):=by
 unfold KV at r ⊢
 unfold d0r without
 induction r with
 | nil=>exact .nil
 | @cons p q ps qs h t ih =>
  obtain ⟨h1,h2⟩:=h
  rw [List.filter_cons,List.filter_cons]
  by_cases e:p.1=k
  ·have a:¬ decide (p.1≠k)=true:=by simp [e]
   have b:¬ decide (q.1≠k)=true:=by simp [h1.symm.trans e]
   rw [if_neg a,if_neg b]; exact ih
  ·have e':¬ q.1=k:=fun z=>e (h1.trans z)
   have a:decide (p.1≠k)=true:=by simp [e]
   have b:decide (q.1≠k)=true:=by simp [e']
   rw [if_pos a,if_pos b]; exact .cons ⟨h1,h2⟩ ih
theorem KV.length {kvs:List (κ×V)} {vs:List (κ×Value)} (r:KV kvs vs):kvs.length=vs.length:=Paired.length r
end
theorem b6q {P:Program} {w:World} {k:Key} {u:Value} (r:RelV (kV k) u):(a0w P w).is k u=true:=by
 cases k with
 | inl i=>obtain ⟨t,e⟩:=(show ∃ t,u=Value.int i t from r); subst e; exact b0y P w i t
 | inr x=>obtain ⟨t,e⟩:=(show ∃ t,u=Value.str x t from r); subst e; exact b0x P w x t
theorem a9p {P:Program} {w:World}:∀ {ks:List Key} {us:List Value},Vals (ks.map kV) us→ItemsAre (a0w P w) ks us
 | [],_,r=>by rw [List.map_nil] at r; cases r; exact .nil
 | k :: ks,_,r=>by
  rw [List.map_cons] at r
  cases r with
  | cons h t=>exact .cons (b6q h) (a9p t)
abbrev KT (H:Hp):List (List Key×V)→List (List Key×Addr×Value)→Prop:=Paired fun p q=>p.1=q.1∧H q.2.1=some (.tup (p.1.map kV))∧RelV p.2 q.2.2
theorem KT.val {H:Hp} {kvs:List (List Key×V)} {xs:List (List Key×Addr×Value)} (r:KT H kvs xs) (k:List Key):RelO (b0i kvs k) ((atKey xs k).map (·.2)):=by
 induction r with
 | nil=>exact True.intro
 | @cons p q ps qs h t ih =>
  obtain ⟨h1,_,h2⟩:=h
  by_cases e:p.1=k
  ·have e':q.1=k:=h1.symm.trans e
   have b:atKey (q :: qs) k=some q.2:=by simp [atKey,List.find?_cons,e']
   rw [a4d e,b]; exact h2
  ·have e':¬ q.1=k:=fun z=>e (h1.trans z)
   have b:atKey (q :: qs) k=atKey qs k:=by simp [atKey,List.find?_cons,e']
   rw [a4e e,b]; exact ih
theorem KT.repl {H:Hp} {kvs:List (List Key×V)} {xs:List (List Key×Addr×Value)} (r:KT H kvs xs) (k:List Key) {y:V} {u:Value} (ry:RelV y u) :
  KT H (kvs.map fun kv=>if kv.1=k then (kv.1,y) else kv) (xs.map (putAt k u)):=by
 induction r with
 | nil=>exact .nil
 | @cons p q ps qs h t ih =>
  rw [List.map_cons,List.map_cons]
  refine .cons ?_ ih
  obtain ⟨h1,h2,h3⟩:=h
  unfold putAt
  by_cases e:p.1=k
  ·rw [if_pos e,if_pos (h1.symm.trans e)]; exact ⟨h1,h2,ry⟩
  ·rw [if_neg e,if_neg (fun z=>e (h1.trans z))]; exact ⟨h1,h2,h3⟩
theorem KT.put {H:Hp} {kvs:List (List Key×V)} {xs:List (List Key×Addr×Value)} (r:KT H kvs xs) (k:List Key) {b:Addr} {y:V} {u:Value} (hb:H b=some (.tup (k.map kV))) (ry:RelV y u) :
  KT H (a4b kvs k y) (storedH xs k b u):=by
 have e:(kvs.any fun kv=>decide (kv.1=k))=(atKey xs k).isSome:=by
  rw [a5s,(r.val k).isSome_eq,Option.isSome_map]
 unfold a4b storedH
 rw [e]
 by_cases q:(atKey xs k).isSome=true
 ·rw [if_pos q,if_pos q]; exact r.repl k ry
 ·rw [if_neg q,if_neg q]; exact Paired.snoc r ⟨rfl,hb,ry⟩
theorem KT.keeps {H H':Hp} {kvs:List (List Key×V)} {xs:List (List Key×Addr×Value)} (r:KT H kvs xs) (ht:∀ b ys,H b=some (.tup ys)→H' b=some (.tup ys)):KT H' kvs xs :=
 Paired.mapP r fun _ _ z=>⟨z.1,ht _ _ z.2.1,z.2.2⟩
section
variable {P:Program} {w:World} {H:Hp} {h:Heap} {a:Addr}
theorem c7l {u:HO} (ok:HOk P w H h) (e:Rd H a u):ObjOk P w H h a u:=e.ok ok
theorem b7q {kvs:List (Key×V)} (ok:HOk P w H h) (e:Rd H a (.dK kvs)):kvs.length≤sizeLine∧(a == sysModules)=false∧∃ vs,KV kvs vs∧h.DictOf (a0w P w) a vs :=
 show ObjOk P w H h a (.dK kvs) from c7l ok e
theorem d7m {kvs:List (Key×V)} (ok:HOk P w H h) (e:H a=some (.dK kvs)):kvs.length≤sizeLine∧(a == sysModules)=false∧∃ vs,KV kvs vs∧h.DictOf (a0w P w) a vs:=b7q ok (.inl e)
theorem a6i {ks:List Key} (ok:HOk P w H h) (e:H a=some (.tup (ks.map kV))):(tupleKind (a0w P w)).is h ks a:=by
 obtain ⟨_,its,r,o,h1,h2,n,h3⟩:=(show ObjOk P w H h a (.tup (ks.map kV)) from ok a _ e)
 exact ⟨o,its.toArray,n,h1,h2,h3,by simpa using a9p r⟩
theorem b7o {kvs:List (List Key×V)} (ok:HOk P w H h) (e:Rd H a (.dT kvs)):kvs.length≤sizeLine∧(a == sysModules)=false ∧
  ∃ xs,KT H kvs xs∧h.DictOfH (tupleKind (a0w P w)) a xs:=by
 obtain ⟨z,y,xs,r,o,es,ep,h1,h2,h3,h4,h5⟩:=(show ObjOk P w H h a (.dT kvs) from c7l ok e)
 refine ⟨z,y,xs,r,o,es,ep,h1,h2,h3,h4,fun x hx=>?_,h5⟩
 have all:∀ {l:List (List Key×V)} {m:List (List Key×Addr×Value)},KT H l m→∀ x∈m,(tupleKind (a0w P w)).is h x.1 x.2.1:=by
  intro l m q
  induction q with
  | nil=>intro x hx; exact nomatch hx
  | @cons p q ps qs hq t ih =>
   intro x hx
   rcases List.mem_cons.mp hx with e | hx
   ·subst e
    exact a6i ok (by rw [← hq.1]; exact hq.2.1)
   ·exact ih x hx
 exact all r x hx
theorem d0q {kvs:List (List Key×V)} (ok:HOk P w H h) (e:H a=some (.dT kvs)):kvs.length≤sizeLine∧(a == sysModules)=false ∧
  ∃ xs,KT H kvs xs∧h.DictOfH (tupleKind (a0w P w)) a xs:=b7o ok (.inl e)
end
def DGet (H:Hp) (a:Addr) (y:V) (r:Option V):Prop :=
 (∃ kvs k,Rd H a (.dK kvs)∧y=kV k∧r=b0i kvs k) ∨ ∃ kvs k b,Rd H a (.dT kvs)∧y=.ref b∧H b=some (.tup (k.map kV))∧r=b0i kvs k
def DPut (H:Hp) (a:Addr) (y v:V) (H':Hp):Prop :=
 (∃ kvs k,H a=some (.dK kvs)∧y=kV k∧kvs.length < sizeLine∧H'=upd H a (.dK (a4b kvs k v))) ∨
 ∃ kvs k b,H a=some (.dT kvs)∧y=.ref b∧H b=some (.tup (k.map kV))∧kvs.length < sizeLine∧H'=upd H a (.dT (a4b kvs k v))
theorem DGet.k {H:Hp} {a:Addr} {kvs:List (Key×V)} {k:Key} (e:H a=some (.dK kvs)):DGet H a (kV k) (b0i kvs k):=.inl ⟨kvs,k,.inl e,rfl,rfl⟩
theorem DGet.t {H:Hp} {a b:Addr} {kvs:List (List Key×V)} {k:List Key} (e:H a=some (.dT kvs)) (eb:H b=some (.tup (k.map kV))):DGet H a (.ref b) (b0i kvs k):=.inr ⟨kvs,k,b,.inl e,rfl,eb,rfl⟩
theorem DPut.k {H:Hp} {a:Addr} {kvs:List (Key×V)} {k:Key} {v:V} (e:H a=some (.dK kvs)) (hl:kvs.length < sizeLine):DPut H a (kV k) v (upd H a (.dK (a4b kvs k v))):=.inl ⟨kvs,k,e,rfl,hl,rfl⟩
theorem DPut.t {H:Hp} {a b:Addr} {kvs:List (List Key×V)} {k:List Key} {v:V} (e:H a=some (.dT kvs)) (eb:H b=some (.tup (k.map kV))) (hl:kvs.length < sizeLine) :
  DPut H a (.ref b) v (upd H a (.dT (a4b kvs k v))):=.inr ⟨kvs,k,b,e,rfl,eb,hl,rfl⟩
section
variable {X:Cx} {pins:List (Addr×Obj)} {σ:St} {H:Hp} {s:Shared} {a:Addr} {y v:V} {u r:Value} {o:Option V} {A:Around} {E:Value→Shared→Prop}
theorem Inv.big (I:Inv X pins σ H s):sysModules < s.heap.objs.size:=by
 have h:mainGlobals < s.heap.objs.size:=(I.mod.glob.keeps I.bk).lt
 exact Nat.lt_trans (by decide) h
theorem b7z {Q:Value→Shared→Prop} (hu:A.units + 1 < cLine) (I:Inv X pins σ H s) (g:DGet H a y (some v)) (ry:RelV y u) (h:∀ w' s',Inv X pins σ H s'→RelV v w'→Q w' s') :
  wpAny (model X.prog X.w) A (getItem (.ref a) u) Q E s:=by
 rcases g with ⟨kvs,k,e,ey,l⟩ | ⟨kvs,k,b,e,ey,eb,l⟩
 ·subst ey
  obtain ⟨z,hd,vs,rel,dd⟩:=b7q I.hok e
  obtain ⟨w',hw,rw'⟩:=RelO.some_of (v:=v) (o:=valueAt vs k) (by rw [l]; exact rel.val k)
  exact wpAny_getItem_of (b6q ry) dd.mapOf hw (h w' _ (I.tok _) rw')
 ·subst ey
  cases (show u=Value.ref b from ry)
  obtain ⟨z,hd,xs,rel,dd⟩:=b7o I.hok e
  obtain ⟨w',hw,rw'⟩:=RelO.some_of (v:=v) (o:=(atKey xs k).map (·.2)) (by rw [l]; exact rel.val k)
  obtain ⟨p,hp,hp2⟩:=Option.map_eq_some_iff.mp hw
  refine wpAny_getItem_heap (tupleKind_room_in1 hu) (a6i I.hok eb) dd hp ?_
  rw [hp2]
  exact h w' _ (I.tok _) rw'
theorem d_in {Q:Value→Shared→Prop} (hu:A.units + 1 < cLine) (I:Inv X pins σ H s) (g:DGet H a y o) (ry:RelV y u) (h:∀ s',Inv X pins σ H s'→Q (.bool o.isSome) s') :
  wpAny (model X.prog X.w) A (compareOp .In u (.ref a)) Q E s:=by
 rcases g with ⟨kvs,k,e,ey,l⟩ | ⟨kvs,k,b,e,ey,eb,l⟩
 ·subst ey
  obtain ⟨z,hd,vs,rel,dd⟩:=b7q I.hok e
  refine wpAny_in_of (b6q ry) hd dd.mapOf ?_
  rw [← (rel.val k).isSome_eq,← l]
  exact h _ (I.tok _)
 ·subst ey
  cases (show u=Value.ref b from ry)
  obtain ⟨z,hd,xs,rel,dd⟩:=b7o I.hok e
  refine wpAny_in_heap (tupleKind_room_in1 hu) (a6i I.hok eb) hd dd ?_
  have q:=(rel.val k).isSome_eq
  rw [Option.isSome_map] at q
  rw [← q,← l]
  exact h _ (I.tok _)
theorem b7y {Q:Value→Shared→Prop} (hu:A.units + 1 < cLine) (I:Inv X pins σ H s) (g:DGet H a y o) (ry:RelV y u) (h:∀ s',Inv X pins σ H s'→Q (.bool (!o.isSome)) s') :
  wpAny (model X.prog X.w) A (compareOp .NotIn u (.ref a)) Q E s:=by
 rcases g with ⟨kvs,k,e,ey,l⟩ | ⟨kvs,k,b,e,ey,eb,l⟩
 ·subst ey
  obtain ⟨z,hd,vs,rel,dd⟩:=b7q I.hok e
  refine wpAny_notIn_of (b6q ry) hd dd.mapOf ?_
  rw [← (rel.val k).isSome_eq,← l]
  exact h _ (I.tok _)
 ·subst ey
  cases (show u=Value.ref b from ry)
  obtain ⟨z,hd,xs,rel,dd⟩:=b7o I.hok e
  refine wpAny_notIn_heap (tupleKind_room_in1 hu) (a6i I.hok eb) hd dd ?_
  have q:=(rel.val k).isSome_eq
  rw [Option.isSome_map] at q
  rw [← q,← l]
  exact h _ (I.tok _)
theorem b1c {h':Heap} {t':Nat} {ob:HO} (I:Inv X pins σ H s) (mu:Mut (H a)) (hs:Heap.SameBut a s.heap h') (he:∃ q,h'.get? a=some q) (new:ObjOk X.prog X.w (upd H a ob) h' a ob) :
  Inv X pins σ (upd H a ob) { s with heap:=h',toks:=t' } :=
 I.write (x:=a) (e:=a) mu (.inl rfl) (fun b q hb z=>(hs.2 b hb).trans z) he new
theorem d0s {P:Program} {w:World} {H':Hp} {h':Heap} {kvs:List (Key×V)} {vs:List (Key×Value)} (z:kvs.length≤sizeLine) (hd:(a == sysModules)=false) (rel:KV kvs vs) (dd:h'.DictOf (a0w P w) a vs) :
  ObjOk P w H' h' a (.dK kvs):=⟨z,hd,vs,rel,dd⟩
theorem b7x {H':Hp} {Q:Unit→Shared→Prop} (hu:A.units + 1 < cLine) (I:Inv X pins σ H s) (g:DPut H a y v H') (ry:RelV y u) (rv:RelV v r) (h:∀ s',Inv X pins σ H' s'→Q () s') :
  wpAny (model X.prog X.w) A (setItem (.ref a) u r) Q E s:=by
 rcases g with ⟨kvs,k,e,ey,l,eH⟩ | ⟨kvs,k,b,e,ey,eb,l,eH⟩
 ·subst ey eH
  obtain ⟨z,hd,vs,rel,dd⟩:=d7m I.hok e
  have hz:vs.length≤sizeLine:=by rw [← rel.length]; exact z
  have hl:(a4b kvs k v).length≤sizeLine:=by have:=a2e kvs k v; lia
  refine wpAny_setItem_pairs (hsz:=hz) (b6q ry) dd fun h' dd' hs=>h _ ?_
  have he:∃ q,h'.get? a=some q:=let ⟨q,_,_,hq,_⟩:=dd'; ⟨q,hq⟩
  exact b1c I (by rw [e]; exact True.intro) hs he (d0s hl hd (rel.put k rv) dd')
 ·subst ey eH
  cases (show u=Value.ref b from ry)
  obtain ⟨z,hd,xs,rel,dd⟩:=d0q I.hok e
  have hz:xs.length≤sizeLine:=by rw [← Paired.length rel]; exact z
  have hl:(a4b kvs k v).length≤sizeLine:=by have:=a2e kvs k v; lia
  refine wpAny_setItem_heap (hsz:=hz) (tupleKind_room_in1 hu) (a6i I.hok eb) dd fun h' dd' hs=>h _ ?_
  obtain ⟨q,es,ep,hq,h2,h3,h4,_,h5⟩:=dd'
  refine b1c I (by rw [e]; exact True.intro) hs ⟨q,hq⟩ ⟨hl,hd,_,(rel.put k eb rv).keeps fun c ys ec=>?_,q,es,ep,hq,h2,h3,h4,h5⟩
  rw [a0e (c9d ec e (fun z=>nomatch z))]
  exact ec
end
section
variable {X:Cx} {pins:List (Addr×Obj)} {σ:St} {H:Hp} {s:Shared} {a:Addr} {kvs:List (Key×V)} {k:Key} {u:Value} {A:Around} {E:Value→Shared→Prop}
end
def NoSl (i:Expr):Prop:=∀ ov iv,subscripted i false ov iv=operate [ov,iv] (getItem ov iv)
theorem c3d {prog:Program} {w:World} {A:Around} {E:Value→Shared→Prop} {s:Shared} {env:Env} {value slice:Expr} {pos:Pos} {T id:String} {Q:Value→Shared→Prop}
  (hl:typeLookup (.type T) "__getitem__" = pure (some (.builtin id))) (hs:NoSl slice)
  (h:wpAny (model prog w) A (eval value env) (fun o s₁=>wpAny (model prog w) A (eval slice env) (fun i s₂=>s₂.TypeIs o T∧wpAny (model prog w) A (getItem o i) Q E s₂) E s₁) E s) :
  wpAny (model prog w) A (eval (.Subscript value slice pos) env) Q E s:=by
 refine Subscript_ (wpAny_mono h (fun o s₁ h₁=>wpAny_mono h₁ (fun i s₂ h₂=>?_) fun _ _ x=>x) fun _ _ x=>x)
 obtain ⟨hT,h₂⟩:=h₂
 unfold subscriptTail
 refine Γa ?_
 rw [getitemInPython_of_ne hT.not_modules]
 refine Γa (wpAny_specialOf hT hl ?_)
 have fin:wpAny (model prog w) A (subscripted slice false o i) (fun r s₃=>wpAny (model prog w) A (letTemporaryGo value o r >>= fun _=>pure r) Q E s₃) E s₂:=by
  rw [hs o i]
  exact wpAny_operating (wpAny_mono h₂ (fun r s₃ h₃=>Γa (wpAny_letTemporaryGo (Γb h₃))) fun _ _ x=>x)
 first
  | exact Γb (Γa fin)
  | exact Γa (Γb (Γa fin))
  | exact Γa fin
theorem b1b {X:Cx} {pins:List (Addr×Obj)} {σ:St} {H:Hp} {s:Shared} {a:Addr} {y:V} {o:Option V} (I:Inv X pins σ H s) (g:DGet H a y o):s.TypeIs (.ref a) "dict":=by
 rcases g with ⟨kvs,k,e,_,_⟩ | ⟨kvs,k,b,e,_,_,_⟩
 ·obtain ⟨_,_,vs,_,dd⟩:=b7q I.hok e
  exact dd.typeIs
 ·obtain ⟨_,_,xs,_,dd⟩:=b7o I.hok e
  exact dd.typeIs
def d3a (td ty:TE):TE:=fun σ H Q=>td σ H fun x H1=>ty σ H1 fun y H2=>∃ a v,x=.ref a∧DGet H2 a y (some v)∧Q v H2
def d3o (td ty tv:TE):TS:=fun D σ H=>tv σ H fun v H1=>td σ H1 fun x H2=>ty σ H2 fun y H3=>∃ a H4,x=.ref a∧DPut H3 a y v H4∧D.nx σ H4
section
variable {X:Cx} {o i e value:Expr} {pos pos' tpos:Pos} {td ty tv:TE}
theorem b0w (hu:X.A.units + 1 < cLine) (ho:PE X o td) (hi:PE X i ty) (hs:NoSl i):PE X (.Subscript o i pos) (d3a td ty):=by
 intro pins s σ H Q I h
 refine c3d PySem.F.slot_dict_getitem.lookup hs (thn (ho pins s σ H _ I h) fun u s1 ⟨x,H1,I1,rx,q1⟩=>thn (hi pins s1 σ H1 _ I1 q1) fun iv s2 ⟨y,H2,I2,ry,a,v,ex,g,q2⟩=>?_)
 subst ex
 obtain rfl:u=Value.ref a:=rx
 exact ⟨b1b I2 g,b7z hu I2 g ry fun w' s3 I3 rw'=>⟨v,H2,I3,rw',q2⟩⟩
theorem c3z (hu:X.A.units + 1 < cLine) (ho:PE X o td) (hi:PE X i ty) (hv:PE X value tv) (hs:swapsWith value (some (.Subscript o i pos')) pos.line X.env=pure false) :
  PS X (.Assign [.Subscript o i pos'] value pos) (d3o td ty tv):=by
 intro pins s σ H D I h
 refine wpAny_Assign_Subscript (thn (hv pins s σ H _ I h) fun r s1 ⟨v,H1,I1,rv,q1⟩=>thn (ho pins s1 σ H1 _ I1 q1) fun u s2 ⟨x,H2,I2,rx,q2⟩=>thn (hi pins s2 σ H2 _ I2 q2) fun iv s3 ⟨y,H3,I3,ry,a,H4,ex,g,q3⟩=>?_) hs
 subst ex
 obtain rfl:u=Value.ref a:=rx
 exact b7x hu I3 g ry rv fun s4 I4=>⟨σ,H4,I4,q3⟩
end
theorem b3e {P:Program} {w:World} {H:Hp} (h:Heap) (hb:sysModules < h.objs.size):ObjOk P w H (h.push { cls:=.type "dict",data:=.dict #[] }) h.objs.size (.dT []) :=
 ⟨Nat.zero_le _,beq_eq_false_iff_ne.mpr (Ne.symm (Nat.ne_of_lt hb)),[],.nil,_,#[],0,Heap.get?_push_size _ rfl,⟨rfl,rfl,rfl⟩,rfl,rfl,List.nodup_nil⟩
def c6w:TE:=fun _ H Q=>∀ p,H p=none→Q (.ref p) (upd H p (.dT []))
section
variable {X:Cx} {pos:Pos}
theorem b9z:PE X (.Dict [] [] pos) c6w:=fun pins s σ H Q I h =>
 wpAny_Dict_empty ⟨.ref s.heap.objs.size,_,I.laid (a:=s.heap.objs.size) (o:=.dT []) (t':=s.toks) (fun _ _ q=>Γc _ q) (Nat.le_refl _) (b3e s.heap I.big),rfl,h _ (I.hok.fresh (Nat.le_refl _))⟩
end
def c9f (kvs more:List (Key×V)):List (Key×V):=more.foldl (fun acc kv=>a4b acc kv.1 kv.2) kvs
theorem KV.merge:∀ {more:List (Key×V)} {rs:List (Key×Value)} {kvs:List (Key×V)} {vs:List (Key×Value)},KV more rs→KV kvs vs→KV (c9f kvs more) (merged vs rs):=by
 intro more rs kvs vs r
 unfold KV at r
 induction r generalizing kvs vs with
 | nil=>intro q; exact q
 | @cons p q ps qs h t ih =>
  intro r0
  have e:KV (a4b kvs p.1 p.2) (stored vs q.1 q.2):=by
   have:=r0.put p.1 h.2
   rw [← h.1]; exact this
  exact ih e
structure M1 (X:Cx) (o:Expr) (m:Str) (apos:Pos) (e:Expr) (cpos:Pos):Prop where
 base:attributeBase o m X.env (eval o X.env)=eval o X.env
 few:((backTo cpos (starEach [e] X.env)).all (fun x=>!x.1) && (backToKw cpos (keywordEach [] X.env)).all (fun x=>x.1.isSome)
  && decide (([e]:List Expr).length + ([]:List Keyword).length + (if ([]:List Keyword).isEmpty then 0 else 1) < 30))=true
 line:(apos.endLine == cpos.line)=true
 trees:backTo cpos (starEach [e] X.env)=[(false,eval e X.env)]
structure M2 (X:Cx) (o:Expr) (m:Str) (apos:Pos) (e f:Expr) (cpos:Pos):Prop where
 base:attributeBase o m X.env (eval o X.env)=eval o X.env
 few:((backTo cpos (starEach [e,f] X.env)).all (fun x=>!x.1) && (backToKw cpos (keywordEach [] X.env)).all (fun x=>x.1.isSome)
  && decide (([e,f]:List Expr).length + ([]:List Keyword).length + (if ([]:List Keyword).isEmpty then 0 else 1) < 30))=true
 line:(apos.endLine == cpos.line)=true
 trees:backTo cpos (starEach [e,f] X.env)=[(false,eval e X.env),(false,eval f X.env)]
section
variable {X:Cx} {pins:List (Addr×Obj)} {σ:St} {H:Hp} {s:Shared} {a:Addr} {y d:V} {u r:Value} {o:Option V} {A:Around} {E:Value→Shared→Prop}
end
section
variable {X:Cx} {o e f:Expr} {apos cpos:Pos} {td ty tx:TE}
end
section
variable {X:Cx} {pins:List (Addr×Obj)} {σ:St} {H:Hp} {s:Shared} {a:Addr} {kvs:List (Key×V)} {A:Around} {E:Value→Shared→Prop}
end
section
variable {X:Cx} {pins:List (Addr×Obj)} {σ:St} {H:Hp} {s:Shared} {a:Addr} {y:V} {u:Value} {A:Around} {E:Value→Shared→Prop}
end
end L2
namespace L2
open PySem PySem.Spec PyProof.Rows
section
variable {κ:Type} [DecidableEq κ]
end
end L2
end
section
namespace HT
open PySem PyProof.Rows
def lexLe:List Int→List Int→Bool
 | [],[]=>true
 | [],_ :: _=>true
 | _ :: _,[]=>false
 | x :: xs,y :: ys=>if x=y then lexLe xs ys else decide (x≤y)
section
open PySem.SeqAt
open PySem.AutoSeq1 (wpAny_loadPart')
open PySem.MeetsSeq PySem.MeetsSeq2 PySem.MeetsSeq3
end
section
variable {prog:Program} {w:World} {A:Around} {E:Value→Shared→Prop} {s:Shared}
end
end HT
namespace L2
open PySem PySem.Spec PyProof.Rows
section
variable {X:Cx}
end
end L2
end
set_option maxHeartbeats 4000000
section
namespace L2
open PySem PySem.Spec PyProof.Rows
open AutoSeq1 (wpAny_loadPart')
section
variable {X:Cx}
theorem c0b:OpR X (binaryOp .Add) (fun x y H Q=>∃ a b ys,x=.ref a∧y=.ref b∧SqT X.K H a []∧SqT X.K H b ys∧Q (.ref b) H):=by
 intro pins s σ H x y v u Q I rx ry h
 obtain ⟨a,b,ys,rfl,rfl,ha,hb,q⟩:=h
 cases rx; cases ry
 obtain ⟨its,r1,⟨⟨oc,od,odt,os⟩,e1,ec,n,ed⟩,_⟩:=I.tuple ha
 obtain ⟨its2,r2,⟨⟨oc2,od2,odt2,os2⟩,e2,ec2,n2,ed2⟩,_⟩:=I.tuple hb
 simp only at ec ed ec2 ed2
 subst ec ed ec2 ed2
 cases r1
 exact concat_meets ⟨_,e1,rfl⟩ ⟨_,e2,rfl⟩ noFill_tuple_add seq_tuple_add F.slot_tuple_add F.entry_tuple_add (F.args_tuple_add_2 _ _) (tuple_addW0 a b #[] its2.toArray n n2 od od2 os os2 rfl) ⟨e1,e2,.ref b,H,I,rfl,q⟩
theorem b9f:SlR X (fun x lo hi H Q=>∃ a xs,x=.ref a∧SqT X.K H a xs∧HT.sIx xs.length 0 lo=0∧HT.sIx xs.length xs.length hi=xs.length∧Q (.ref a) H):=by
 intro pins s σ H x v vl vu lo hi sl Q I rx hs pl pu h
 obtain ⟨t,xs,rfl,hx,h1,h2,q⟩:=h
 cases rx
 obtain ⟨its,r,ht,hz⟩:=I.tuple hx
 have hlen:its.toArray.size=xs.length:=by rw [List.size_toArray]; exact r.length.symm
 refine ⟨"tuple",_,PyProof.Rows.slot_tuple_getitem.lookup,ht.typeIs,?_⟩
 obtain ⟨os,eo,co,do'⟩:=id hs
 have ty:s.TypeIs (.ref sl) "slice":=⟨os,eo,co⟩
 rw [← hlen] at h1 h2
 unfold getItem
 try with_reducible refine Γg ?_
 first | refine Γa (Γb ?_) | skip
 refine Γa (wpAny_sequenceKey ht.typeIs (by decide) (Γa (wpAny_callSpecial?_slot (name:=Γe "__getitem__") ht.typeIs PyProof.Rows.slot_tuple_getitem (wpAny_call_entry PyProof.Rows.slot_tuple_getitem ht.typeIs entry_tuple_getitem ?_ (args_tuple_getitem _ _)))))
 show wpAny _ _ (Builtin.Tuple.tupleItemsOf (.ref t) >>= _) _ _ s; refine Γa (tupleItemsOf_ ht (Γa (wpAny_typeOf ty ?_)))
 rw [if_pos (by decide)]; refine Γa (HT.sliceApplied_gen hs pl pu ?_)
 show wpAny _ _ (if (((HT.sIx its.toArray.size 0 lo:Nat):Int) == 0 && (1:Int) == 1 && (HT.sIx its.toArray.size its.toArray.size hi - HT.sIx its.toArray.size 0 lo) == its.toArray.size)=true then _ else _) _ _ s
 rw [if_pos (by rw [h1,h2]; simp)]
 refine Γa (m:=Builtin.Tuple.tupleIsExact (.ref t)) ?_
 unfold Builtin.Tuple.tupleIsExact
 refine Γa (wpAny_typeOf ht.typeIs (Γb ?_))
 rw [if_pos (by decide)]
 exact Γa (wpAny_rule (Γb ⟨_,rfl,Γb ⟨.ref t,H,I,rfl,q⟩⟩))
end
def Kept (h0 h:Heap) (N:Nat):Prop:=∀ b o,b < N→h0.get? b=some o→h.get? b=some o
section
variable {P:Program} {w:World} {A:Around} {R:Result→Shared→Prop} {it S N:Addr} {fp wr:List Addr} {n:Nat} {V:Nat→Value→Prop} {St:Nat→Heap→Prop} {bt:Nat→Nat→Bool} {h0:Heap}
end
section
variable {P:Program} {w:World} {A:Around} {E:Value→Shared→Prop} {s:Shared}
end
end L2
end
section
namespace L2
open PySem PySem.Spec PyProof.Rows
section
variable {prog:Program} {w:World} {A:Around} {E:Value→Shared→Prop} {s:Shared}
end
section
variable {X:Cx} {a e k:Expr} {ta te tk:TE} {pos p2:Pos}
end
end L2
end
section
namespace L2
open PySem PySem.Spec PyProof.Rows
def b1g (cells:List (Str×Addr)):List (Str×NameKind)→List (Str×Addr)→List (Str×Addr)
 | [],acc=>acc
 | (n,k) :: r,acc=>if (k == NameKind.free)=true then b1g cells r ((n,(cells.lookup n).getD 0) :: acc) else b1g cells r acc
theorem b3j {env:Env}:∀ (names:List (Str×NameKind)) (acc:List (Str×Addr)),(∀ p∈names,p.2=.free→∃ c,env.cells.lookup p.1=some c) →
  (forIn names acc fun (x:Str×NameKind) (cs:List (Str×Addr))=>if (x.2 == NameKind.free)=true then cellOf env x.1 >>= fun c=>pure (ForInStep.yield ((x.1,c) :: cs)) else pure (ForInStep.yield cs):Sem (List (Str×Addr)))=pure (b1g env.cells names acc)
 | [],acc,_=>rfl
 | (n,k) :: r,acc,h=>by
  have ih:=b3j (env:=env) r
  rw [List.forIn_cons]
  unfold b1g
  by_cases hk:(k == NameKind.free)=true
  ·obtain ⟨c,hc⟩:=h (n,k) List.mem_cons_self (by simpa using hk)
   have hcell:cellOf env n=pure c:=by
    have hc':env.cells.lookup n=some c:=hc
    unfold cellOf; rw [hc']
   have hc':env.cells.lookup n=some c:=hc
   simp only [hk,if_true,hcell,hc',Option.getD_some,pure_bind]
   exact ih _ fun p hp=>h p (List.mem_cons_of_mem _ hp)
  ·simp only [hk,if_false,pure_bind,Bool.false_eq_true]
   exact ih _ fun p hp=>h p (List.mem_cons_of_mem _ hp)
theorem a5n {scope:Scope} {env:Env} (h:∀ p∈scope.names,p.2=.free→∃ c,env.cells.lookup p.1=some c):closureFor scope env=pure (b1g env.cells scope.names []):=by
 have q:=b3j (env:=env) scope.names [] h
 unfold closureFor
 first
  | exact (by rw [q]; rfl)
  | (simp only [bind_pure]; exact q)
theorem a4a {cells:List (Str×Addr)} {x:Str} {c:Addr}:∀ (names:List (Str×NameKind)) (acc:List (Str×Addr)),(∀ p∈names,p.2=.free→∃ c,cells.lookup p.1=some c)→(∀ y d,acc.lookup y=some d→cells.lookup y=some d) →
  (b1g cells names acc).lookup x=some c→cells.lookup x=some c
 | [],acc,_,ha,h=>ha x c h
 | (n,k) :: r,acc,hn,ha,h=>by
  unfold b1g at h
  split at h
  ·rename_i hk
   refine a4a r _ (fun p hp=>hn p (List.mem_cons_of_mem _ hp)) (fun y d hy=>?_) h
   rw [List.lookup_cons] at hy
   obtain ⟨c',hc'⟩:=hn (n,k) List.mem_cons_self (by simpa using hk)
   have hc'':cells.lookup n=some c':=hc'
   split at hy
   ·rename_i hyn
    have e:y=n:=by simpa using hyn
    subst e
    rw [hc''] at hy ⊢
    exact hy
   ·exact ha y d hy
  ·exact a4a r _ (fun p hp=>hn p (List.mem_cons_of_mem _ hp)) ha h
theorem a5z {cells:List (Str×Addr)} {x:Str}:∀ (names:List (Str×NameKind)) (acc:List (Str×Addr)),((x,NameKind.free)∈names ∨ ∃ c,acc.lookup x=some c)→∃ c,(b1g cells names acc).lookup x=some c
 | [],acc,h=>by
  rcases h with h | h
  ·simp at h
  ·exact h
 | (n,k) :: r,acc,h=>by
  unfold b1g
  split
  ·refine a5z r _ ?_
   by_cases hx:x=n
   ·subst hx
    exact .inr ⟨(cells.lookup x).getD 0,by rw [List.lookup_cons]; simp⟩
   ·rcases h with h | ⟨c,h⟩
    ·rcases List.mem_cons.mp h with h | h
     ·cases h; exact absurd rfl hx
     ·exact .inl h
    ·refine .inr ⟨c,?_⟩
     rw [List.lookup_cons]
     have:(x == n)=false:=by simpa using hx
     rw [this]
     exact h
  ·rename_i hk
   refine a5z r _ ?_
   rcases h with h | h
   ·rcases List.mem_cons.mp h with h | h
    ·cases h; simp at hk
    ·exact .inl h
   ·exact .inr h
theorem a3d {env : Env} {x : Str} : ∀ {names : List (Str × NameKind)}, (∀ p ∈ names, p.2 ≠ .cell) →
    ((names.map fun (n, k) => if (k == NameKind.free && env.scope.kind == .function && env.kindOf n == some .cell) then (n, NameKind.cell) else (n, k)).lookup x = some .cell ∨
     (names.map fun (n, k) => if (k == NameKind.free && env.scope.kind == .function && env.kindOf n == some .cell) then (n, NameKind.cell) else (n, k)).lookup x = some .free) → (x, NameKind.free) ∈ names
  | [], _, h => by rcases h with h | h <;> simp at h
  | (n, k) :: r, hc, h => by
    have ih := @a3d env x r fun p hp => hc p (List.mem_cons_of_mem _ hp)
    rw [List.map_cons] at h
    by_cases hk : (k == NameKind.free && env.scope.kind == .function && env.kindOf n == some .cell) = true
    · simp only [hk, if_true] at h
      cases hx : x == n with
      | true =>
        have e : x = n := by simpa using hx
        have : k = .free := by simp only [Bool.and_eq_true] at hk; simpa using hk.1.1
        rw [e, this]; exact List.mem_cons_self
      | false =>
        simp only [List.lookup_cons, hx] at h
        exact List.mem_cons_of_mem _ (ih h)
    · simp only [hk, if_false, Bool.false_eq_true] at h
      cases hx : x == n with
      | true =>
        have e : x = n := by simpa using hx
        simp only [List.lookup_cons, hx] at h
        rcases h with h | h
        · exact absurd (Option.some.inj h) (hc (n, k) List.mem_cons_self)
        · rw [e, ← Option.some.inj h]; exact List.mem_cons_self
      | false =>
        simp only [List.lookup_cons, hx] at h
        exact List.mem_cons_of_mem _ (ih h)
def d1q (x:Str):Str:=Γe "#"++x
def a8j (own:List Str) (x:Str):Str:=if own.contains x then d1q x else x
def cxC (X:Cx) (scope:Scope) (own:List Str) (fp:List Addr) (C:Addr) (s:Shared) (H:Hp):Cx :=
 { X with N:=X.N.map (a8j own)++own,s₀:=s,H₀:=H,env:=compEnvC scope (b1g X.env.cells scope.names []) C X.env,outer:=X.stack,stack:=X.stack,ex:=fp,fn:=fun _=>false,pn:=[],xe:=fun _ _=>False }
structure CScope (X:Cx) (scope:Scope) (own:List Str):Prop where
 kind:scope.kind=.function
 nocell:∀ p∈scope.names,p.2≠.cell
 names:∀ p∈scope.names,p.2=.local→scope.names.lookup p.1=some .local
 free:∀ p∈scope.names,p.2=.free→X.env.kindOf p.1=some .cell ∨ X.env.kindOf p.1=some .free
 apart:∀ x∈X.N,own.contains x=false→scope.names.lookup x≠some .local
 hid:∀ x∈X.N,own.contains x=true→scope.names.lookup (d1q x)=none
section
variable {X:Cx}
theorem a4g {env:Env} {x:Str}:∀ {names:List (Str×NameKind)},
  (names.map fun (n,k)=>if (k == NameKind.free && env.scope.kind == .function && env.kindOf n == some .cell) then (n,NameKind.cell) else (n,k)).lookup x=some .local→names.lookup x=some .local
 | [],h=>by simp at h
 | (n,k) :: r,h=>by
  have ih:=@a4g env x r
  rw [List.map_cons] at h
  rw [List.lookup_cons]
  by_cases hk:(k == NameKind.free && env.scope.kind == .function && env.kindOf n == some .cell)=true
  ·simp only [hk,if_true] at h
   cases hx:x == n with
   | true=>simp [List.lookup_cons,hx] at h
   | false =>
    simp only [List.lookup_cons,hx] at h
    exact ih h
  ·simp only [hk,if_false,Bool.false_eq_true] at h
   cases hx:x == n with
   | true=>simpa [List.lookup_cons,hx] using h
   | false =>
    simp only [List.lookup_cons,hx] at h
    exact ih h
theorem a9c {env:Env} {scope:Scope} {x:Str} (h:scope.names.lookup x=none):(relabel scope env).names.lookup x=none:=by
 unfold relabel
 simp only
 generalize scope.names=l at h
 induction l with
 | nil=>rfl
 | cons p r ih =>
  obtain ⟨n,k⟩:=p
  rw [List.lookup_cons] at h
  cases e:(x == n) with
  | true=>rw [e] at h; cases h
  | false =>
   rw [e] at h
   rw [List.map_cons]
   split
   ·rw [List.lookup_cons,e]; exact ih h
   ·rw [List.lookup_cons,e]; exact ih h
theorem b2t {scope:Scope} {own:List Str} {fp:List Addr} {pins:List (Addr×Obj)} {σ:St} {H:Hp} {s:Shared} {h4:Heap} {t4:Nat} (I:Inv X pins σ H s) (SC:CScope X scope own) (hc:X.calm=true)
  (hf:∀ b∈fp,b1k X pins H b) (hfo:∀ b∈fp,∃ o,s.heap.get? b=some o)
  (hns:h4.Ns s.heap.objs.size (fun _=>none)) (hk:∀ b o,s.heap.get? b=some o→h4.get? b=some o) :
  Inv (cxC X scope own fp s.heap.objs.size s H) [] (σ++List.replicate own.length none) H { s with heap:=h4,toks:=t4 }:=by
 have fr:∀ p∈scope.names,p.2=.free→∃ c,X.env.cells.lookup p.1=some c:=fun p hp hq=>I.ok.has p.1 (SC.free p hp hq)
 have cl:∀ {x:Str} {c:Addr},(b1g X.env.cells scope.names []).lookup x=some c→X.env.cells.lookup x=some c:=fun h=>a4a scope.names [] fr (fun y d hy=>by simp at hy) h
 have clt:∀ {x:Str} {c:Addr},X.env.cells.lookup x=some c→c < s.heap.objs.size:=fun h=>by obtain ⟨v,q⟩:=I.cell _ _ h; exact q.lt
 refine ⟨⟨I.ok.mod,SC.kind,I.ok.glob,I.ok.blt,Nat.le_refl _,fun x y c h1 h2=>I.ok.inj x y c (cl h1) (cl h2),fun x hx=>?_,fun x c h=>absurd h (by simp [cxC]),fun _=>I.ok.hd hc,I.ok.frames,.inl rfl,fun b hb=>?_,
   fun b o e=>I.bs b o e,Nat.le_trans I.ok.bsz I.sz,fun b o e hb=>?_,fun b hb hz=>?_,I.stack,I.stkFree⟩,
  rfl,I.bare,Un.kept hk,⟨_,hns,fun i x v e1 e2 e3=>?_⟩,fun x c h=>?_,I.fresh,fun x c h=>I.freeC x c (cl h),fun p hp=>absurd (show p∈([]:List (Addr×Obj)) from hp) (by simp),I.hok.kept hk,?_⟩
 ·have hx:(relabel scope X.env).names.lookup x=some .cell ∨ (relabel scope X.env).names.lookup x=some .free:=hx
  exact a5z scope.names [] (.inl (a3d SC.nocell hx))
 ·have hb:b∈fp:=hb
  obtain ⟨o,ho⟩:=hfo b hb
  exact ⟨Nat.ne_of_lt (Heap.lt_size ho),fun x c h=>(hf b hb).2.2.2.2.1 x c (cl h)⟩
 ·have hb:b∈fp:=hb
  have e:X.base.get? b=some o:=e
  rcases (hf b hb).2.2.2.1 with z | z
  ·exact I.ok.noex b o e z
  ·exact absurd (Nat.lt_of_lt_of_le (Heap.lt_size e) (Nat.le_trans I.ok.bsz z)) (Nat.lt_irrefl _)
 ·have hb:b∈fp:=hb
  have hz:b∈frs X.stack:=hz
  rcases List.mem_cons.mp (I.stkSub b hz) with z | z
  ·exact (hf b hb).2.1 z
  ·exact (hf b hb).2.2.1 z
 ·have e1:(X.N.map (a8j own)++own)[i]?=some x:=e1
  have e3:Vis (relabel scope X.env) x:=e3
  have hi:i < σ.length:=by
   by_cases hi:i < σ.length
   ·exact hi
   ·rw [List.getElem?_append_right (by lia),List.getElem?_replicate] at e2
    split at e2 <;> cases e2
  rw [List.getElem?_append_left hi] at e2
  rw [List.getElem?_append_left (by rw [List.length_map,← I.len]; exact hi),List.getElem?_map] at e1
  obtain ⟨y,e1,ey⟩:=Option.map_eq_some_iff.mp e1
  have hny:own.contains y=false:=by
   cases hy:own.contains y with
   | false=>rfl
   | true =>
    exfalso
    have hh:=SC.hid y (List.mem_of_getElem? e1) hy
    have ex:x=d1q y:=by rw [← ey]; unfold a8j; rw [if_pos hy]
    rw [← ex] at hh
    have e4:(relabel scope X.env).names.lookup x=none:=a9c hh
    rcases e3 with z | z | z <;> (rw [e4] at z; cases z)
  have ex:x=y:=by rw [← ey]; unfold a8j; rw [if_neg (by rw [hny]; exact Bool.false_ne_true)]
  rw [← ex] at e1 hny
  have hnl:(relabel scope X.env).names.lookup x≠some .local:=fun z=>SC.apart x (List.mem_of_getElem? e1) hny (a4g z)
  have hv:(relabel scope X.env).names.lookup x=some .cell ∨ (relabel scope X.env).names.lookup x=some .free:=by
   rcases e3 with z | z | z
   ·exact absurd z hnl
   ·exact .inl z
   ·exact .inr z
  have hm:=a3d SC.nocell hv
  have hkx:=SC.free (x,.free) hm rfl
  obtain ⟨m,hn,hl⟩:=I.loc
  have hkx':X.env.scope.names.lookup x=some .cell ∨ X.env.scope.names.lookup x=some .free:=hkx
  obtain ⟨u,r,l⟩:=hl i x v e1 e2 (hkx'.elim (fun z=>.inr (.inl z)) fun z=>.inr (.inr z))
  refine ⟨u,r,.inr ⟨hv,?_⟩⟩
  obtain ⟨c,hcl⟩:=a5z (cells:=X.env.cells) scope.names [] (.inl hm)
  refine ⟨c,hcl,?_⟩
  rcases l with ⟨z,_⟩ | ⟨z,c',hc',q⟩
  ·rcases hkx with y | y <;> (rw [z] at y; cases y)
  ·have:=cl hcl
   rw [hc'] at this; cases this
   obtain ⟨o,ho,hd⟩:=q
   exact ⟨o,hk _ _ ho,hd⟩
 ·obtain ⟨v,o,ho,hd⟩:=I.cell x c (cl h)
  exact ⟨v,o,hk _ _ ho,hd⟩
 ·show (σ++List.replicate own.length none).length=(X.N.map (a8j own)++own).length
  rw [List.length_append,List.length_append,List.length_map,List.length_replicate,I.len]
end
def a7v (ifs:List Expr) (env:Env):Sem Bool :=
 forIn ifs true fun c r=>if r=true then do let ok ← isTrue c env (eval c env); pure (ForInStep.yield ok) else pure (ForInStep.yield r)
def PTs (X:Cx) (ifs:List Expr) (t:TT):Prop :=
 ∀ (pins:List (Addr×Obj)) (s:Shared) (σ:St) (H:Hp) (Q:Bool→Hp→Prop),Inv X pins σ H s→t σ H Q→wpAny (model X.prog X.w) X.A (a7v ifs X.env) (TP X pins σ Q) X.xe s
theorem a6a {M:Model} {A:Around} {E:Value→Shared→Prop} {env:Env} {Q:Bool→Shared→Prop} {s:Shared} (h:Q false s):∀ ifs:List Expr,
  wpAny M A (forIn ifs false fun c r=>if r=true then do let ok ← isTrue c env (eval c env); pure (ForInStep.yield ok) else pure (ForInStep.yield r)) Q E s
 | []=>Γb h
 | c :: r=>by
  rw [List.forIn_cons]
  simp only [Bool.false_eq_true,if_false]
  exact Γa (Γb (a6a h r))
section
variable {X:Cx}
def d2t:TT:=fun _ H Q=>Q true H
theorem b5s:PTs X [] d2t:=fun _ _ _ H _ I h=>Γb ⟨H,I,h⟩
theorem b9r {c:Expr} {r:List Expr} {t u:TT} (h1:PT X c t) (h2:PTs X r u):PTs X (c :: r) (fun σ H Q=>t σ H fun b H1=>if b=true then u σ H1 Q else Q false H1):=by
 intro pins s σ H Q I h
 unfold a7v
 rw [List.forIn_cons]
 simp only [if_true]
 refine Γa (Γa (thn (h1 pins s σ H _ I h) fun b s1 ⟨H1,I1,q1⟩=>Γb ?_))
 cases b with
 | true =>
  rw [if_pos rfl] at q1
  exact h2 pins s1 σ H1 Q I1 q1
 | false =>
  rw [if_neg Bool.false_ne_true] at q1
  exact a6a ⟨H1,I1,q1⟩ r
end
section
variable {prog:Program} {w:World} {A:Around} {R:Result→Shared→Prop} {s:Shared}
theorem b4j {elt target iter:Expr} {ifs:List Expr} {scope:Scope} {pos:Pos} {it acc:Value} {env:Env} (I:Nat→Shared→Prop)
  (turn:∀ n s,I n s→wpAny (model prog w) A (pyNext it) (fun r s1=>match r with
   | none=>R (.ok .next) s1
   | some v=>wpAny (model prog w) A (letOwnedTupleGo target it v) (fun _ s2=>wpAny (model prog w) A (assign target env v) (fun _ s3=>wpAny (model prog w) A (a7v ifs env) (fun ok s4 =>
     if ok=true then wpAny (model prog w) A (eval elt env) (fun x s5=>wpAny (model prog w) A (call (.builtin "list.append") [acc,x]) (fun _ s6=>∃ m,m < n∧I m s6) (fun _ _=>False) s5) (fun _ _=>False) s4
     else ∃ m,m < n∧I m s4) (fun _ _=>False) s3) (fun _ _=>False) s2) (fun _ _=>False) s1) (fun _ _=>False) s)
  (n:Nat) (h:I n s):codeAny (model prog w) A (.compLoop (.ListComp elt [⟨target,iter,ifs,0⟩] scope pos) 0 it acc env) R s:=by
 refine codeAny_loop rfl I (fun n s hI=>?_) n h
 show wpAny _ A ((compTurn (.ListComp elt [⟨target,iter,ifs,0⟩] scope pos) 0 it acc env).onRaise (fun x=>do noteFrame x env; theTreesLotGoes x)) _ _ s
 refine wpAny_noted ?_
 rw [compTurn_list]
 have no:∀ (e:Value) (s':Shared),(fun (_:Value) (_:Shared)=>False) e s'→notedBy (model prog w) A env (fun e s'=>R (.error e) s') e s':=fun _ _ z=>z.elim
 refine Γa (wpAny_standAt (Γa (wpAny_mono (turn n s hI) (fun r s1 h1=>?_) no)))
 cases r with
 | none=>exact Γb h1
 | some v =>
  refine Γa (wpAny_mono h1 (fun _ s2 h2=>Γa (wpAny_mono h2 (fun _ s3 h3=>Γa (wpAny_mono h3 (fun ok s4 h4=>?_) no)) no)) no)
  cases ok with
  | true =>
   rw [if_pos rfl] at h4
   simp only [if_true]
   exact Γa (Γa (wpAny_mono h4 (fun x s5 h5=>Γa (wpAny_mono h5 (fun _ s6 h6=>Γb (Γb ⟨rfl,h6⟩)) no)) no))
  | false =>
   rw [if_neg Bool.false_ne_true] at h4
   simp only [Bool.false_eq_true,if_false]
   first
    | exact Γb ⟨rfl,h4⟩
    | exact Γa (Γb (Γb ⟨rfl,h4⟩))
end
def Wk (σ σ2:St):Prop:=σ2.length=σ.length∧∀ (j:Nat) (v:V),σ[j]?=some (some v)→σ2[j]?=some (some v)
def c3a (wi:TI) (g:TG) (tt:TT) (te:TE) (own:Nat):TE:=fun σ H Q=>wi σ H fun J H1=>∀ acc,H1 acc=none→∃ W:Nat→Nat→Hp→Prop,(∃ m,W 0 m (upd H1 acc (.lst [])))∧∀ i m H,W i m H →
 (J.stop i H∧Q (.ref acc) H) ∨ (J.go i H∧∀ x H',J.yld i H x H'→g x (σ++List.replicate own none) H' fun σ2 H2=>Wk (σ++List.replicate own none) σ2∧tt σ2 H2 fun b H3 =>
  if b=true then te σ2 H3 fun v H4=>∃ ys,H4 acc=some (.lst ys)∧ys.length < sizeLine∧∃ m',m' < m∧W (i + 1) m' (upd H4 acc (.lst (ys++[v]))) else ∃ m',m' < m∧W (i + 1) m' H3)
section
variable {X:Cx} {elt tg iter:Expr} {ifs:List Expr} {scope:Scope} {own:List Str} {pos:Pos} {wi:TI} {g:TG} {tt:TT} {te:TE}
theorem b3i {pins:List (Addr×Obj)} {σ:St} {H2:Hp} {s2:Shared} {Q:VK} {it:Addr} {fp:List Addr} {tn:Nat→Heap→Prop} {J:It} {RR:Value→Addr→Result→Shared→Prop}
  (hc:X.calm=true) (SC:CScope X scope own)
  (hblock:∀ C s H,PG (cxC X scope own fp C s H) tg g∧PTs (cxC X scope own fp C s H) ifs tt∧PE (cxC X scope own fp C s H) elt te)
  (I2:Inv X pins σ H2 s2) (T:Turn X.prog X.w X.K tg J fp it tn) (st2:tn 0 s2.heap) (f2:∀ b∈fp,b1k X pins H2 b)
  (h:∀ acc,H2 acc=none→∃ W:Nat→Nat→Hp→Prop,(∃ m,W 0 m (upd H2 acc (.lst [])))∧∀ i m H,W i m H →
   (J.stop i H∧Q (.ref acc) H) ∨ (J.go i H∧∀ x H',J.yld i H x H'→g x (σ++List.replicate own.length none) H' fun σ2 H2=>Wk (σ++List.replicate own.length none) σ2∧tt σ2 H2 fun b H3 =>
    if b=true then te σ2 H3 fun v H4=>∃ ys,H4 acc=some (.lst ys)∧ys.length < sizeLine∧∃ m',m' < m∧W (i + 1) m' (upd H4 acc (.lst (ys++[v]))) else ∃ m',m' < m∧W (i + 1) m' H3))
  (hRR:∀ acc C H' m s',Inv X pins σ H' s'→s'.heap.Ns C m→C≠X.env.locals→(∀ x c,X.env.cells.lookup x=some c→c≠C)→s2.heap.objs.size≤C→H' C=none→Q (.ref acc) H'→RR (.ref acc) C (.ok .next) s') {E:Value→Shared→Prop} :
  wpAny (model X.prog X.w) X.A (newList []) (fun acc s3=>wpAny (model X.prog X.w) X.A (newFunctionEnv scope X.env.globals (b1g X.env.cells scope.names []) [] X.env.qual none .none (some X.env)) (fun cenv s4 =>
   codeAny (model X.prog X.w) X.A (.compStart (.ListComp elt [⟨tg,iter,ifs,0⟩] scope pos) 0 (.ref it) acc { cenv with scope:=relabel scope X.env }) (RR acc cenv.locals) s4) E s3) E s2:=by
 have hacc:=I2.fresh
 have I3:Inv X pins σ (upd H2 s2.heap.objs.size (.lst [])) { s2 with heap:=s2.heap.push { cls:=.type "list",data:=.seq ([]:List Value).toArray },toks:=s2.toks }:=I2.lnew .nil (Nat.zero_le _)
 refine wpAny_newObj_type ?_
 obtain ⟨W,⟨m0,w0⟩,turn⟩:=h _ hacc
 generalize hs3:({ s2 with heap:=s2.heap.push { cls:=.type "list",data:=.seq ([]:List Value).toArray },toks:=s2.toks }:Shared)=s3 at I3
 have keep23:∀ b o,s2.heap.get? b=some o→s3.heap.get? b=some o:=fun b o e=>by rw [← hs3]; exact Γc _ e
 have hf3:∀ b∈fp,b1k X pins (upd H2 s2.heap.objs.size (.lst [])) b:=fun b hb=>by
  obtain ⟨o,ho,_⟩:=T.obj _ _ st2 b hb
  exact ⟨by rw [a0e (Nat.ne_of_lt (Heap.lt_size ho))]; exact (f2 b hb).1,(f2 b hb).2⟩
 have st3:tn 0 s3.heap:=T.keep _ _ _ st2 fun b hb o e=>keep23 b o e
 refine wpAny_newFunctionEnv SC.nocell (by intro y hy; simp at hy) (fun h4 hns hsb=>?_) SC.kind
 have hns':h4.Ns s3.heap.objs.size (fun _=>none):=by simpa using hns
 have keep34:∀ b o,s3.heap.get? b=some o→h4.get? b=some o:=fun b o e=>hsb.extBut b o (Nat.ne_of_lt (Heap.lt_size e)) (Γc _ e)
 have I4:=b2t (t4:=s3.toks + ([]:List (Str×Value)).length) I3 SC hc hf3 (fun b hb=>by obtain ⟨o,ho,_⟩:=T.obj _ _ st3 b hb; exact ⟨o,ho⟩) hns' keep34
 have st4:tn 0 h4:=T.keep _ _ _ st3 fun b hb o e=>keep34 b o e
 obtain ⟨hg,ht,he⟩:=hblock s3.heap.objs.size s3 (upd H2 s2.heap.objs.size (.lst []))
 have e5:(cxC X scope own fp s3.heap.objs.size s3 (upd H2 s2.heap.objs.size (.lst []))).env=compEnvC scope (b1g X.env.cells scope.names []) s3.heap.objs.size X.env:=rfl
 generalize hY:cxC X scope own fp s3.heap.objs.size s3 (upd H2 s2.heap.objs.size (.lst []))=Y at hg ht he I4 e5
 have fpY:∀ {H':Hp},(∀ b∈fp,H' b=none)→∀ b∈fp,b1k Y [] H' b:=fun hn b hb=>by
  obtain ⟨o,ho,_⟩:=T.obj _ _ st3 b hb
  refine ⟨hn b hb,?_,?_,?_,?_,?_⟩
  ·rw [← hY]; exact Nat.ne_of_lt (Heap.lt_size ho)
  ·have:=I4.ok.exfs b (by rw [← hY]; exact hb)
   exact this
  ·exact .inl (by rw [← hY]; exact hb)
  ·exact fun x c h=>(I4.ok.exf b (by rw [← hY]; exact hb)).2 x c h
  ·intro p hp; rw [← hY] at hp; exact absurd (show p∈([]:List (Addr×Obj)) from hp) (by simp)
 have hYp:Y.prog=X.prog∧Y.w=X.w∧Y.K=X.K∧Y.calm=true∧Y.A=X.A∧Y.xe=(fun _ _=>False)∧Y.s₀=s3∧Y.H₀=upd H2 s2.heap.objs.size (.lst [])∧Y.outer=X.stack∧Y.ex=fp:=by rw [← hY]; exact ⟨rfl,rfl,rfl,hc,rfl,rfl,rfl,rfl,rfl,rfl⟩
 obtain ⟨y1,y2,y3,y4,y5,y6,y7,y8,y9,y10⟩:=hYp
 have loop:∀ s5:Shared,s5 = { s3 with heap:=h4,toks:=s3.toks + ([]:List (Str×Value)).length } →
   codeAny (model X.prog X.w) X.A (.compLoop (.ListComp elt [⟨tg,iter,ifs,0⟩] scope pos) 0 (.ref it) (.ref s2.heap.objs.size) Y.env) (RR (.ref s2.heap.objs.size) s3.heap.objs.size) s5:=by
  rintro s5 rfl
  refine b4j (fun n s'=>∃ i H',Inv Y [] (σ++List.replicate own.length none) H' s'∧tn i s'.heap∧(∀ b∈fp,H' b=none)∧W i n H') ?_ m0 ⟨0,_,I4,st4,fun b hb=>(hf3 b hb).1,w0⟩
  rintro n s6 ⟨i,H6,I6,st6,fr6,w6⟩
  rcases turn i n H6 w6 with ⟨stop,q⟩ | ⟨go,step⟩
  ·have d:=T.done Y y1 y2 y3 y4 i [] s6 _ H6 (fun _ _=>False) I6 (fpY fr6) st6 stop
   rw [y5] at d
   refine thn d fun r s7 ⟨hr,I7⟩=>?_
   subst hr
   obtain ⟨m,hn,_⟩:=I7.loc
   have hL:Y.env.locals=s3.heap.objs.size:=by rw [e5]; rfl
   rw [hL] at hn
   have b7:=I7.base
   rw [y7,y8,y10] at b7
   have b7':Un (frs X.stack) fp (upd H2 s2.heap.objs.size (.lst [])) H6 s3.heap s7.heap:=by
    have z:Y.fs=frs X.stack:=by show frs Y.outer=_; rw [y9]
    rw [z] at b7
    exact b7
   have hok7:=I7.hok
   rw [y1,y2] at hok7
   have os7:=I7.os
   rw [y7] at os7
   have I8:Inv X pins σ H6 s7:=I3.call' os7 b7' hok7 I7.bare fun b hb=>⟨(hf3 b hb).2.2.2.1,(hf3 b hb).2.1,(hf3 b hb).2.2.2.2.1,(hf3 b hb).2.2.2.2.2⟩
   have hfree:=I7.free
   rw [hL] at hfree
   refine hRR _ _ H6 m s7 I8 hn (Nat.ne_of_gt I3.lt) (fun x c h z=>?_) ?_ hfree q
   ·obtain ⟨v,y⟩:=I3.cell x c h
    exact absurd y.lt (by rw [z]; exact Nat.lt_irrefl _)
   ·rw [← hs3,Heap.size_push]; exact Nat.le_succ _
  ·have d:=T.item Y y1 y2 y3 y4 i [] s6 _ H6 (fun _ _=>False) I6 (fpY fr6) st6 go
   rw [y5] at d
   refine thn d fun r s7 ⟨u,hr,h7⟩=>?_
   subst hr
   refine thn h7 fun _ s8 ⟨x,H8,I8,r8,y8',st8,fr8⟩=>?_
   have I8':=I8.pinned (fpY fr8) (T.obj _ _ st8)
   have pinK:∀ {σ':St} {H':Hp} {s':Shared},Inv Y ([]++a6d fp s8.heap) σ' H' s'→tn (i + 1) s'.heap∧∀ b∈fp,H' b=none:=fun {σ' H' s'} I' =>
    ⟨T.keep _ _ _ st8 fun b hb o e=>(I'.pin (b,o) (List.mem_append_right _ (List.mem_append_right _ (a2b hb e)))).1,fun b hb=>by
     obtain ⟨o,e,_⟩:=T.obj _ _ st8 b hb
     exact (I'.pin (b,o) (List.mem_append_right _ (List.mem_append_right _ (a2b hb e)))).2.1⟩
   have dg:=hg _ s8 _ H8 x u _ I8' r8 (step x H8 y8')
   rw [y1,y2,y5,y6] at dg
   refine thn dg fun _ s9 ⟨σ9,H9,I9,wk,q9⟩=>?_
   have dt:=ht _ s9 σ9 H9 _ I9 q9
   rw [y1,y2,y5,y6] at dt
   refine thn dt fun ok s10 ⟨H10,I10,q10⟩=>?_
   cases ok with
   | true =>
    rw [if_pos rfl] at q10 ⊢
    have de:=he _ s10 σ9 H10 _ I10 q10
    rw [y1,y2,y5,y6] at de
    refine thn de fun y s11 ⟨v11,H11,I11,r11,ys,hys,hz,m',hm,w11⟩=>?_
    have da:=a9k (X:=Y) _ s11 σ9 H11 (.ref s2.heap.objs.size) [v11] (.ref s2.heap.objs.size) [y] (fun _ H'=>H'=upd H11 s2.heap.objs.size (.lst (ys++[v11]))) I11 rfl (.cons r11 .nil) ⟨_,ys,v11,rfl,rfl,hys,hz,rfl⟩
    rw [y1,y2,y5,y6] at da
    refine thn da fun _ s12 ⟨v12,H12,I12,r12,e12⟩=>?_
    subst e12
    obtain ⟨t12,f12⟩:=pinK I12
    exact ⟨m',hm,i + 1,_,(I12.unpinned).weak wk.1.symm wk.2,t12,f12,w11⟩
   | false =>
    rw [if_neg Bool.false_ne_true] at q10 ⊢
    obtain ⟨m',hm,w10⟩:=q10
    obtain ⟨t10,f10⟩:=pinK I10
    exact ⟨m',hm,i + 1,_,(I10.unpinned).weak wk.1.symm wk.2,t10,f10,w10⟩
 rw [e5] at loop
 exact codeAny_compStart_list (loop _ rfl) (T.self _ 0 _ _ _ st4 (loop _ rfl))
theorem b5z (hc:X.calm=true) (SC:CScope X scope own) (hi:PI X.nox tg iter wi)
  (hblock:∀ fp C s H,PG (cxC X scope own fp C s H) tg g∧PTs (cxC X scope own fp C s H) ifs tt∧PE (cxC X scope own fp C s H) elt te)
  (hs:∀ x,foldedSetIterable iter X.env x=pure x:=by intro _; rfl) :
  PE X.nox (.ListComp elt [⟨tg,iter,ifs,0⟩] scope pos) (c3a wi g tt te own.length):=by
 intro pins s σ H Q I h
 have fr:∀ p∈scope.names,p.2=.free→∃ c,X.env.cells.lookup p.1=some c:=fun p hp hq=>I.ok.has p.1 (SC.free p hp hq)
 rw [eval_ListComp]
 refine wpAny_comprehension_free (use:=none) rfl hs (a5n fr) SC.kind SC.names (thn (hi pins s σ H _ I h) fun v s1 h1=>thn h1 fun itv s2 h2=>?_)
 obtain ⟨it,fp,tn,J,H2,e,I2,T,st2,f2,h2⟩:=h2
 subst e
 refine b3i (X:=X.nox) (own:=own) (RR:=fun acc C=>compPost (model X.prog X.w) X.A (fun _ _=>False) none (EP X.nox pins σ Q) acc C) hc ⟨SC.kind,SC.nocell,SC.names,SC.free,SC.apart,SC.hid⟩ (fun C s H=>hblock fp C s H) I2 T st2 f2 h2 ?_
 intro acc C H' m s' I' hn hL hcl hC hH q
 obtain ⟨f0,f1,f2',f3,f4,f5⟩:=I2.fpOk hC hH
 refine ⟨m,hn,fun h' hsb=>⟨.ref acc,H',?_,rfl,q⟩⟩
 exact I'.turned (t':=s'.toks) (fun b o hb e=>(hsb.2 b hb).trans e) f0 f1 f3 f4 f5
theorem b3t {i:Nat} {x:Str} {px:Pos} {spos:Pos} (hc:X.calm=true) (SC:CScope X scope own) (hN:X.N.Nodup) (hx:X.N[i]?=some x) (hl:X.env.scope.names.lookup x=some .local) (hi:PI X.nox tg iter wi)
  (hblock:∀ fp C s H,PG (cxC X scope own fp C s H) tg g∧PTs (cxC X scope own fp C s H) ifs tt∧PE (cxC X scope own fp C s H) elt te)
  (hsw:swapsWith (.ListComp elt [⟨tg,iter,ifs,0⟩] scope pos) (some (.Name x px)) spos.line X.env=pure true)
  (hs:∀ x,foldedSetIterable iter X.env x=pure x:=by intro _; rfl) :
  PS X.nox (.Assign [.Name x px] (.ListComp elt [⟨tg,iter,ifs,0⟩] scope pos) spos) (c1r (c3a wi g tt te own.length) (a6m i)):=by
 intro pins s σ H D I h
 have fr:∀ p∈scope.names,p.2=.free→∃ c,X.env.cells.lookup p.1=some c:=fun p hp hq=>I.ok.has p.1 (SC.free p hp hq)
 show wpAny (model X.prog X.w) X.A (exec _ X.env) _ _ s
 rw [exec_Assign_Name_used _ _ _ _ hsw]
 refine Γa (wpAny_standAt (Γa ?_))
 show wpAny _ X.A (do let _ ← comprehension (.ListComp elt [⟨tg,iter,ifs,0⟩] scope pos) scope X.env _ (newList []) false (eval iter X.env) (some (assign (.Name x px) X.env))) _ _ s
 refine Γa (wpAny_mono (wpAny_comprehension_free (use:=some (assign (.Name x px) X.env)) (Q:=fun _ s'=>SP X.nox pins D .next s') rfl hs (a5n fr) SC.kind SC.names
  (thn (hi pins s σ H _ I h) fun v s1 h1=>thn h1 fun itv s2 h2=>?_)) (fun _ s' hq=>Γb (Γb hq)) fun _ _ e=>e)
 obtain ⟨it,fp,tn,J,H2,e,I2,T,st2,f2,h2⟩:=h2
 subst e
 refine b3i (X:=X.nox) (own:=own) (Q:=fun v H1=>a6m i v σ H1 D.nx) (RR:=fun acc C=>compPost (model X.prog X.w) X.A (fun _ _=>False) (some (assign (.Name x px) X.env)) (fun _ s'=>SP X.nox pins D .next s') acc C) hc ⟨SC.kind,SC.nocell,SC.names,SC.free,SC.apart,SC.hid⟩ (fun C s H=>hblock fp C s H) I2 T st2 f2 h2 ?_
 intro acc C H' m s' I' hn hL hcl hC hH q
 obtain ⟨f0,f1,f2',f3,f4,f5⟩:=I2.fpOk hC hH
 show wpAny (model X.prog X.w) X.A (assign (.Name x px) X.env (.ref acc)) _ _ s'
 refine wpAny_assign_Name (a8z (X:=X.nox) I' hN hx (.inl hl) (v:=.ref acc) rfl (fun s'' I'' hch=>?_) (.inr hl))
 obtain ⟨a,hsa,ha⟩:=hch
 have hCa:C≠a:=by
  rcases ha with z | z
  ·rw [z]; exact hL
  ·exact fun y=>hcl x a z y.symm
 refine ⟨m,hn.sameBut hsa hCa,fun h' hsb=>?_⟩
 exact ⟨_,H',I''.turned (t':=s''.toks) (fun b o hb e=>(hsb.2 b hb).trans e) f0 f1 f3 f4 f5,q⟩
end
end L2
end
section
namespace L2
open PySem PySem.Spec PyProof.Rows
section
variable {X:Cx} {pins:List (Addr×Obj)} {σ:St} {H:Hp} {s:Shared} {h':Heap}
theorem Inv.turnedNew {t':Nat} {ch:List Addr} {p:Addr} {o:HO} (I:Inv X pins σ H s) (hp:s.heap.objs.size≤p) (k:∀ b ob,b ∉ ch→s.heap.get? b=some ob→h'.get? b=some ob) (hf:∀ b∈ch,b1k X pins H b)
  (new:ObjOk X.prog X.w (upd H p o) h' p o):Inv X pins σ (upd H p o) { s with heap:=h',toks:=t' }:=by
 have hn:H p=none:=I.hok.fresh hp
 have nit:∀ b u,H b=some u→b ∉ ch:=fun b u e z=>by rw [(hf b z).1] at e; cases e
 have nep:∀ {b ob},s.heap.get? b=some ob→b≠p:=fun e=>Nat.ne_of_lt (Nat.lt_of_lt_of_le (Heap.lt_size e) hp)
 refine I.step (g':=s.gens) (d':=s.drawn) (ch:=ch) (fun b hb=>⟨(hf b hb).2.2.2.1,(hf b hb).2.1,(hf b hb).2.2.2.2.1,(hf b hb).2.2.2.2.2⟩) (fun b ob _ _ hc e _=>k b ob hc e) (fun b ob _ _ hc e _=>⟨ob.slots,k b ob hc e⟩)
  (fun b ob hc e n=>by rw [a0e (nep e)]; exact n) (fun b ob hc e=>⟨ob,k b ob hc e⟩) (fun b xs e=>by rw [a0e (a0y e hn)]; exact e) (fun b u xs e=>by rw [a0e (a0y e hn)]; exact e)
  (fun b ps e=>⟨#[],by rw [a0e (a0y e hn),e]; simp⟩) (fun m hm=>?_) (fun b u e=>?_) I.bare
 ·obtain ⟨ob,es,ep,ho,r⟩:=hm
  exact ⟨ob,es,ep,k _ ob (fun z=>(hf _ z).2.1 rfl) ho,r⟩
 ·by_cases hb:b=p
  ·subst hb; rw [a0f] at e; cases e; exact new
  ·rw [a0e hb] at e
   refine (I.hok b u e).stay (fun c v hc q=>k c v ?_ q) (fun c q=>by rw [a0e (a0y q hn)]; exact q) fun c xs q=>by rw [a0e (a0y q hn)]; exact q
   rcases hc with z | z
   ·rw [z]; exact nit b u e
   ·exact nit c _ z
theorem Inv.turnedL {t':Nat} {ch:List Addr} (I:Inv X pins σ H s) (k:∀ b ob,b ∉ ch→s.heap.get? b=some ob→h'.get? b=some ob) (hf:∀ b∈ch,b1k X pins H b):Inv X pins σ H { s with heap:=h',toks:=t' }:=by
 have nit:∀ b u,H b=some u→b ∉ ch:=fun b u e z=>by rw [(hf b z).1] at e; cases e
 refine I.step (g':=s.gens) (d':=s.drawn) (ch:=ch) (fun b hb=>⟨(hf b hb).2.2.2.1,(hf b hb).2.1,(hf b hb).2.2.2.2.1,(hf b hb).2.2.2.2.2⟩) (fun b ob _ _ hc e _=>k b ob hc e) (fun b ob _ _ hc e _=>⟨ob.slots,k b ob hc e⟩)
  (fun _ _ _ _ n=>n) (fun b ob hc e=>⟨ob,k b ob hc e⟩) (fun _ _ e=>e) (fun _ _ _ e=>e) (fun b ps e=>⟨#[],by rw [e]; simp⟩) (fun m hm=>?_) (fun b u e=>?_) I.bare
 ·obtain ⟨ob,es,ep,ho,r⟩:=hm
  exact ⟨ob,es,ep,k _ ob (fun z=>(hf _ z).2.1 rfl) ho,r⟩
 ·refine (I.hok b u e).stay (fun c v hc q=>k c v ?_ q) (fun _ q=>q) fun _ _ q=>q
  rcases hc with z | z
  ·rw [z]; exact nit b u e
  ·exact nit c _ z
end
end L2
end
section
namespace L2
open PySem PySem.Spec PyProof.Rows
def SeqB (b:Bool) (h:Heap) (l:Addr) (xs:Array Value):Prop:=match b with | true=>h.IsList l xs | false=>h.IsTuple l xs
def IterB (b:Bool) (h:Heap) (it l:Addr) (i:Nat):Prop:=match b with | true=>h.IsListIter it l i | false=>h.IsTupleIter it l i
def a8p (b:Bool):String:=match b with | true=>"list_iterator" | false=>"tuple_iterator"
section
variable {b:Bool} {h h':Heap} {it l c:Addr} {i:Nat} {xs:Array Value}
theorem SeqB.move (x:SeqB b h l xs) (e:Heap.ExtBut c h h') (n:l≠c):SeqB b h' l xs:=by
 cases b
 ·exact Heap.IsTuple.extBut x e n
 ·exact Heap.IsList.extBut x e n
theorem SeqB.push {o:Obj} (x:SeqB b h l xs):SeqB b (h.push o) l xs:=by
 cases b
 ·exact Heap.IsTuple.push x o
 ·exact Heap.IsList.push x o
theorem SeqB.lt (x:SeqB b h l xs):l < h.objs.size:=by
 cases b <;> (obtain ⟨_,e,_⟩:=x; exact Heap.lt_size e)
theorem IterB.move (x:IterB b h it l i) (e:Heap.ExtBut c h h') (n:it≠c):IterB b h' it l i:=by
 cases b
 ·exact Heap.IsTupleIter.extBut x e n
 ·exact Heap.IsListIter.extBut x e n
theorem IterB.to (x:IterB b h it l i) (k:∀ o,h.get? it=some o→h'.get? it=some o):IterB b h' it l i:=by
 cases b <;> (obtain ⟨o,e,r⟩:=x; exact ⟨o,k o e,r⟩)
theorem IterB.obj (x:IterB b h it l i):∃ o,h.get? it=some o∧∀ v,o.data≠.cell v:=by
 cases b <;> (obtain ⟨o,e,_,d⟩:=x; exact ⟨o,e,fun v z=>by rw [d] at z; cases z⟩)
theorem IterB.lt (x:IterB b h it l i):it < h.objs.size:=let ⟨_,e,_⟩:=x.obj; Heap.lt_size e
end
section
variable {P:Program} {w:World} {A:Around} {E:Value→Shared→Prop} {s:Shared} {b:Bool} {it l:Addr} {i:Nat} {xs:Array Value} {Q:Value→Shared→Prop}
theorem b6t (x:SeqB b s.heap l xs) (q:Q (.ref s.heap.objs.size) { s with heap:=s.heap.push { cls:=.type (a8p b),data:=.fields #[.ref l,.int 0 0] } }):wpAny (model P w) A (pyIter (.ref l)) Q E s:=by
 cases b
 ·exact wpAny_pyIter_tuple x q
 ·exact wpAny_pyIter_list x q
theorem d4r {x:Value} (hi:s.heap.IsTupleIter it l i) (hl:s.heap.IsTuple l xs) (hx:xs[i]?=some x) (q:∀ h',h'.IsTupleIter it l (i + 1)→Heap.SameBut it s.heap h'→Q x { s with heap:=h' }):wpAny (model P w) A (Builtin.SmallTypes.nextOf (.ref it)) Q E s:=by
 obtain ⟨oi,ei,ci,di⟩:=id hi
 obtain ⟨os,es,_,ns,ds⟩:=hl
 unfold Builtin.SmallTypes.nextOf
 refine Γa (wpAny_callSpecial?_slot (name:=Γe "__next__") hi.typeIs F.slot_tuple_iterator_next (wpAny_call_entry F.slot_tuple_iterator_next hi.typeIs F.entry_tuple_iterator_next ?_ (F.args_tuple_iterator_next_1 _)))
 show wpAny _ _ (field (.ref it) 0 >>= _) _ _ s; refine Γa (wpAny_field ei di (x:=.ref l) rfl ?_)
 show wpAny _ _ (if (Value.ref l == Value.none)=true then _ else _) _ _ s; rw [if_neg (show ¬ ((Value.ref l == Value.none)=true) from Bool.false_ne_true)]
 show wpAny _ _ (field (.ref it) 1 >>= _) _ _ s; refine Γa (wpAny_field ei di (x:=.int i 0) rfl ?_)
 show wpAny _ _ (seqItems? (.ref l) >>= _) _ _ s; refine Γa (wpAny_seqItems es ds ?_)
 simp only [Int.toNat_natCast,hx]
 refine Γa (wpAny_setField ei di (by simp) (Γb ⟨x,rfl,Γb (q _ ⟨_,Heap.get?_update_self _ ei (Obj.isFreed_of_fields (Obj.data_mapFields di _)),(Obj.cls_mapFields ..).trans ci,?_⟩ (Heap.SameBut.update ..))⟩))
 rw [Obj.data_mapFields di]; simp [rawInt]
theorem d3e (hh:A.handled=none) (hi:s.heap.IsTupleIter it l i) (hl:s.heap.IsTuple l xs) (hx:xs[i]?=none)
  (q:∀ h' e,Heap.ExtBut it s.heap h'→(∃ o,h'.get? e=some o∧o.cls=.type "StopIteration")→E (.ref e) { s with heap:=h' }):wpAny (model P w) A (Builtin.SmallTypes.nextOf (.ref it)) Q E s:=by
 obtain ⟨oi,ei,ci,di⟩:=id hi
 obtain ⟨os,es,_,ns,ds⟩:=hl
 unfold Builtin.SmallTypes.nextOf
 refine Γa (wpAny_callSpecial?_slot (name:=Γe "__next__") hi.typeIs F.slot_tuple_iterator_next (wpAny_call_entry F.slot_tuple_iterator_next hi.typeIs F.entry_tuple_iterator_next ?_ (F.args_tuple_iterator_next_1 _)))
 show wpAny _ _ (field (.ref it) 0 >>= _) _ _ s; refine Γa (wpAny_field ei di (x:=.ref l) rfl ?_)
 show wpAny _ _ (if (Value.ref l == Value.none)=true then _ else _) _ _ s; rw [if_neg (show ¬ ((Value.ref l == Value.none)=true) from Bool.false_ne_true)]
 show wpAny _ _ (field (.ref it) 1 >>= _) _ _ s; refine Γa (wpAny_field ei di (x:=.int i 0) rfl ?_)
 show wpAny _ _ (seqItems? (.ref l) >>= _) _ _ s; refine Γa (wpAny_seqItems es ds ?_)
 simp only [Int.toNat_natCast,hx]
 refine Γa (wpAny_rule (Γa (wpAny_setField ei di (by simp) ?_))); show wpAny _ _ (newExc (.type "StopIteration") [] >>= _) _ _ _
 refine Γa ?_; simp only [newExc,newTuple]
 refine Γa (wpAny_newObj_type ?_ (by size_fits)); refine Γa (m:=firstArgMember _ _) (wpAny_of_eq (a:=Value.none) (by first | rfl | (simp only [firstArgMember]; rfl)) ?_)
 refine wpAny_newObj_type ?_ (by size_fits); simp only [raiseNew]; refine Γa (wpAny_handled ?_)
 first | rw [show A.in1.handled=none from hh] | rw [hh]
 exact Γa (Γb (wpAny_throw (q _ _ (((Heap.SameBut.update ..).extBut.push _).push _) ⟨_,Heap.get?_push_size _ rfl,rfl⟩)))
theorem a6v {x:Value} (hi:IterB b s.heap it l i) (hl:SeqB b s.heap l xs) (hx:xs[i]?=some x) (q:∀ h',IterB b h' it l (i + 1)→Heap.SameBut it s.heap h'→Q x { s with heap:=h' }):wpAny (model P w) A (Builtin.SmallTypes.nextOf (.ref it)) Q E s:=by
 cases b
 ·exact d4r hi hl hx q
 ·exact wpAny_nextOf_list_item hi hl hx q
theorem b0n (hh:A.handled=none) (hi:IterB b s.heap it l i) (hl:SeqB b s.heap l xs) (hx:xs[i]?=none)
  (q:∀ h' e,Heap.ExtBut it s.heap h'→(∃ o,h'.get? e=some o∧o.cls=.type "StopIteration")→E (.ref e) { s with heap:=h' }):wpAny (model P w) A (Builtin.SmallTypes.nextOf (.ref it)) Q E s:=by
 cases b
 ·exact d3e hh hi hl hx q
 ·exact wpAny_nextOf_list_end hh hi hl hx q
end
section
variable {P:Program} {w:World} {A:Around} {E:Value→Shared→Prop} {s:Shared} {p q:Bool} {z TI TO i1 i2 l1 l2:Addr} {k1 k2:Nat} {xs ys:Array Value} {x y a b:Value}
theorem b4z {Q:Value→Shared→Prop} (D:ZipApart z TI TO i1 i2 l1 l2) (zz:IsZip s.heap z TI TO .none) (zi:IsPair s.heap TI (.ref i1) (.ref i2)) (zo:IsPair s.heap TO a b)
  (t1:IterB p s.heap i1 l1 k1) (t2:IterB q s.heap i2 l2 k2) (m1:SeqB p s.heap l1 xs) (m2:SeqB q s.heap l2 ys) (ex:xs[k1]?=some x) (ey:ys[k2]?=some y)
  (K:∀ h',IsZip h' z TI TO (rawInt s.heap.objs.size)→IsPair h' TO x y→IterB p h' i1 l1 (k1 + 1)→IterB q h' i2 l2 (k2 + 1)→IsPair h' s.heap.objs.size x y →
   (∀ c o,c≠z→c≠TO→c≠i1→c≠i2→s.heap.get? c=some o→h'.get? c=some o)→Q (.ref s.heap.objs.size) { s with heap:=h' }) :
  wpAny (model P w) A (Builtin.«zip.__next__» ⟨[.ref z],[]⟩) (fun fin s'=>∃ v,fin=.done (.ret v)∧Q v s') E s:=by
 show wpAny _ _ (field (.ref z) 2 >>= _) _ _ _; refine Γa (wpAny_field zz rfl (x:=.bool false) rfl ?_)
 show wpAny _ _ (field (.ref z) 3 >>= _) _ _ _; refine Γa (wpAny_field zz rfl (x:=.ref TI) rfl (Γa (wpAny_seqItems zi rfl ?_)))
 show wpAny _ _ (Builtin.SmallTypes.ownedTupleIsFree (.ref z) >>= _) _ _ _; refine Γa ?_; unfold Builtin.SmallTypes.ownedTupleIsFree
 refine Γa (wpAny_field zz rfl (x:=.none) rfl (Γb ?_)); simp only [if_true]
 refine Γa (wpAny_rule (Γa (wpAny_field zz rfl (x:=.ref TO) rfl (Γa (wpAny_setField_rec zz (by simp) fun g1 z1 b1=>?_)))))
 replace z1:IsZip g1 z TI TO .ellipsis:=z1
 refine Γa ?_; simp only [List.zipIdx_cons,List.zipIdx_nil,List.forIn_cons,List.forIn_nil]
 refine Γa (Γa (wpAny_onRaise ?_)); show wpAny _ _ (Builtin.SmallTypes.nextOf (.ref i1) >>= _) _ _ _
 refine Γa (a6v (t1.move b1.extBut D.i1z) (m1.move b1.extBut D.l1z) ex fun g2 t12 b2=>Γb ?_)
 have o2:IsPair g2 TO a b:=b2.extBut _ _ D.TOi1 (b1.extBut _ _ D.TOz zo)
 refine Γa (wpAny_seqItems o2 rfl (Γa (wpAny_updateSeq_pair o2 fun g3 o3 b3=>?_)))
 replace o3:IsPair g3 TO x b:=o3
 refine Γa (wpAny_letGo (Γb (Γa (Γa (wpAny_onRaise ?_))))); show wpAny _ _ (Builtin.SmallTypes.nextOf (.ref i2) >>= _) _ _ _
 refine Γa (a6v (((t2.move b1.extBut D.i2z).move b2.extBut D.i12.symm).move b3.extBut D.TOi2.symm) (((m2.move b1.extBut D.l2z).move b2.extBut D.l2i1).move b3.extBut D.l2TO) ey fun g4 t24 b4=>Γb ?_)
 have o4:IsPair g4 TO x b:=b4.extBut _ _ D.TOi2 o3
 refine Γa (wpAny_seqItems o4 rfl (Γa (wpAny_updateSeq_pair o4 fun g5 o5 b5=>?_)))
 replace o5:IsPair g5 TO x y:=o5
 refine Γa (wpAny_letGo (Γb (Γb (Γa (wpAny_seqItems o5 rfl (Γa (wpAny_newTuple ?_)))))))
 have sz:g5.objs.size=s.heap.objs.size:=by rw [b5.1,b4.1,b3.1,b2.1,b1.1]
 have z5:IsZip g5 z TI TO .ellipsis:=b5.extBut _ _ D.TOz.symm (b4.extBut _ _ D.i2z.symm (b3.extBut _ _ D.TOz.symm (b2.extBut _ _ D.i1z.symm z1)))
 have kk:∀ c o,c≠z→c≠TO→c≠i1→c≠i2→s.heap.get? c=some o→g5.get? c=some o:=fun c o c1 c2 c3 c4 e=>b5.extBut _ _ c2 (b4.extBut _ _ c4 (b3.extBut _ _ c2 (b2.extBut _ _ c3 (b1.extBut _ _ c1 e))))
 have t15:IterB p g5 i1 l1 (k1 + 1):=((t12.move b3.extBut D.TOi1.symm).move b4.extBut D.i12).move b5.extBut D.TOi1.symm
 have t25:IterB q g5 i2 l2 (k2 + 1):=t24.move b5.extBut D.TOi2.symm
 have zlt:z < g5.objs.size:=Heap.lt_size z5
 show wpAny _ _ (Builtin.SmallTypes.ownedTupleHandOut (.ref z) (.ref g5.objs.size) >>= _) _ _ _; refine Γa ?_; unfold Builtin.SmallTypes.ownedTupleHandOut
 have z6:IsZip (g5.push { cls:=.type "tuple",data:=.seq #[x,y] }) z TI TO .ellipsis:=Γc _ z5
 refine Γa (wpAny_setField_rec z6 (by simp) fun g7 z7 b7=>?_); replace z7:IsZip g7 z TI TO (rawInt g5.objs.size):=z7
 refine wpAny_setField_rec z7 (by simp) fun g8 z8 b8=>?_; replace z8:IsZip g8 z TI TO (rawInt g5.objs.size):=z8
 have up:∀ c o,c≠z→g5.get? c=some o→g8.get? c=some o:=fun c o c1 e=>b8.extBut _ _ c1 (b7.extBut _ _ c1 (Γc _ e))
 have tt:IsPair g8 g5.objs.size x y:=b8.extBut _ _ (Nat.ne_of_gt zlt) (b7.extBut _ _ (Nat.ne_of_gt zlt) (Heap.get?_push_size _ rfl))
 rw [sz] at z8 tt
 refine Γb ⟨_,rfl,?_⟩; show Q (.ref g5.objs.size) _; rw [sz]
 exact K g8 z8 (up _ _ D.TOz o5) (t15.to fun o e=>up _ o D.i1z e) (t25.to fun o e=>up _ o D.i2z e) tt fun c o c1 c2 c3 c4 e=>up c o c1 (kk c o c1 c2 c3 c4 e)
theorem b8x {Q:Fin→Shared→Prop} (hh:A.handled=none) (D:ZipApart z TI TO i1 i2 l1 l2) (zz:IsZip s.heap z TI TO .none) (zi:IsPair s.heap TI (.ref i1) (.ref i2)) (zo:IsPair s.heap TO a b)
  (t1:IterB p s.heap i1 l1 k1) (t2:IterB q s.heap i2 l2 k2) (m1:SeqB p s.heap l1 xs) (m2:SeqB q s.heap l2 ys) (en:xs[k1]?=none ∨ ys[k2]?=none)
  (K:∀ h' e,(∀ c o,c≠z→c≠TO→c≠i1→c≠i2→s.heap.get? c=some o→h'.get? c=some o)→(∃ o,h'.get? e=some o∧o.cls=.type "StopIteration")→E (.ref e) { s with heap:=h' }) :
  wpAny (model P w) A (Builtin.«zip.__next__» ⟨[.ref z],[]⟩) Q E s:=by
 show wpAny _ _ (field (.ref z) 2 >>= _) _ _ _; refine Γa (wpAny_field zz rfl (x:=.bool false) rfl ?_)
 show wpAny _ _ (field (.ref z) 3 >>= _) _ _ _; refine Γa (wpAny_field zz rfl (x:=.ref TI) rfl (Γa (wpAny_seqItems zi rfl ?_)))
 show wpAny _ _ (Builtin.SmallTypes.ownedTupleIsFree (.ref z) >>= _) _ _ _; refine Γa ?_; unfold Builtin.SmallTypes.ownedTupleIsFree
 refine Γa (wpAny_field zz rfl (x:=.none) rfl (Γb ?_)); simp only [if_true]
 refine Γa (wpAny_rule (Γa (wpAny_field zz rfl (x:=.ref TO) rfl (Γa (wpAny_setField_rec zz (by simp) fun g1 z1 b1=>?_)))))
 replace z1:IsZip g1 z TI TO .ellipsis:=z1
 refine Γa ?_; simp only [List.zipIdx_cons,List.zipIdx_nil,List.forIn_cons,List.forIn_nil]
 refine Γa (Γa (wpAny_onRaise ?_)); show wpAny _ _ (Builtin.SmallTypes.nextOf (.ref i1) >>= _) _ _ _
 have fin:∀ {g:Heap} {e:Addr} {o:Obj},IsZip g z TI TO .ellipsis→g.get? e=some o→o.cls=.type "StopIteration"→e≠z:=fun h1 h2 h3 x=>by subst x; rw [h1] at h2; cases h2; simp at h3
 cases hx:xs[k1]? with
 | none =>
  refine Γa (b0n hh (t1.move b1.extBut D.i1z) (m1.move b1.extBut D.l1z) hx fun g2 e b2 he=>?_)
  obtain ⟨oe,e1,e2⟩:=he
  have z2:IsZip g2 z TI TO .ellipsis:=b2 _ _ D.i1z.symm z1
  exact wpAny_setField_rec z2 (by simp) fun g3 _ b3=>K g3 e (fun c o c1 _ c3 _ x=>b3.extBut _ _ c1 (b2 _ _ c3 (b1.extBut _ _ c1 x))) ⟨oe,b3.extBut _ _ (fin z2 e1 e2) e1,e2⟩
 | some x =>
  have hy:ys[k2]?=none:=by rcases en with h | h; rw [hx] at h; cases h; exact h
  refine Γa (a6v (t1.move b1.extBut D.i1z) (m1.move b1.extBut D.l1z) hx fun g2 t12 b2=>Γb ?_)
  have o2:IsPair g2 TO a b:=b2.extBut _ _ D.TOi1 (b1.extBut _ _ D.TOz zo)
  refine Γa (wpAny_seqItems o2 rfl (Γa (wpAny_updateSeq_pair o2 fun g3 o3 b3=>Γa (wpAny_letGo (Γb (Γa (Γa (wpAny_onRaise ?_))))))))
  show wpAny _ _ (Builtin.SmallTypes.nextOf (.ref i2) >>= _) _ _ _
  refine Γa (b0n hh (((t2.move b1.extBut D.i2z).move b2.extBut D.i12.symm).move b3.extBut D.TOi2.symm) (((m2.move b1.extBut D.l2z).move b2.extBut D.l2i1).move b3.extBut D.l2TO) hy fun g4 e b4 he=>?_)
  obtain ⟨oe,e1,e2⟩:=he
  have z4:IsZip g4 z TI TO .ellipsis:=b4 _ _ D.i2z.symm (b3.extBut _ _ D.TOz.symm (b2.extBut _ _ D.i1z.symm z1))
  exact wpAny_setField_rec z4 (by simp) fun g5 _ b5=>K g5 e (fun c o c1 c2 c3 c4 x=>b5.extBut _ _ c1 (b4 _ _ c4 (b3.extBut _ _ c2 (b2.extBut _ _ c3 (b1.extBut _ _ c1 x))))) ⟨oe,b5.extBut _ _ (fin z4 e1 e2) e1,e2⟩
theorem b4y {Q:Option Value→Shared→Prop} (D:ZipApart z TI TO i1 i2 l1 l2) (zz:IsZip s.heap z TI TO .none) (zi:IsPair s.heap TI (.ref i1) (.ref i2)) (zo:IsPair s.heap TO a b)
  (t1:IterB p s.heap i1 l1 k1) (t2:IterB q s.heap i2 l2 k2) (m1:SeqB p s.heap l1 xs) (m2:SeqB q s.heap l2 ys) (ex:xs[k1]?=some x) (ey:ys[k2]?=some y)
  (K:∀ h',IsZip h' z TI TO (rawInt s.heap.objs.size)→IsPair h' TO x y→IterB p h' i1 l1 (k1 + 1)→IterB q h' i2 l2 (k2 + 1)→IsPair h' s.heap.objs.size x y →
   (∀ c o,c≠z→c≠TO→c≠i1→c≠i2→s.heap.get? c=some o→h'.get? c=some o)→Q (some (.ref s.heap.objs.size)) { s with heap:=h' }):wpAny (model P w) A (pyNext (.ref z)) Q E s:=by
 have ty:s.TypeIs (.ref z) "zip":=⟨_,zz,rfl⟩
 unfold pyNext
 exact Γa (wpAny_attempt (wpAny_callSpecial?_slot (name:=Γe "__next__") ty F.slot_zip_next (wpAny_call_entry F.slot_zip_next ty F.entry_zip_next (b4z D zz zi zo t1 t2 m1 m2 ex ey fun h' a1 a2 a3 a4 a5 a6=>Γb (K h' a1 a2 a3 a4 a5 a6)) (F.args_zip_next_1 _))))
theorem b4x {Q:Option Value→Shared→Prop} (hh:A.handled=none) (D:ZipApart z TI TO i1 i2 l1 l2) (zz:IsZip s.heap z TI TO .none) (zi:IsPair s.heap TI (.ref i1) (.ref i2)) (zo:IsPair s.heap TO a b)
  (t1:IterB p s.heap i1 l1 k1) (t2:IterB q s.heap i2 l2 k2) (m1:SeqB p s.heap l1 xs) (m2:SeqB q s.heap l2 ys) (en:xs[k1]?=none ∨ ys[k2]?=none)
  (K:∀ h',(∀ c o,c≠z→c≠TO→c≠i1→c≠i2→s.heap.get? c=some o→h'.get? c=some o)→Q none { s with heap:=h' }):wpAny (model P w) A (pyNext (.ref z)) Q E s:=by
 have ty:s.TypeIs (.ref z) "zip":=⟨_,zz,rfl⟩
 unfold pyNext
 refine Γa (wpAny_attempt (wpAny_callSpecial?_slot (name:=Γe "__next__") ty F.slot_zip_next (wpAny_call_entry F.slot_zip_next ty F.entry_zip_next (b8x hh D zz zi zo t1 t2 m1 m2 en fun h' e hk he=>?_) (F.args_zip_next_1 _))))
 obtain ⟨o,e1,e2⟩:=he
 exact Γa (wpAny_isInstance (T:="StopIteration") (b:=true) ⟨o,e1,e2⟩ isSubtype_stop (Γb (K _ hk)))
end
abbrev zb1 (p:Bool) (h:Heap) (l1:Addr):Heap:=h.push { cls:=.type (a8p p),data:=.fields #[.ref l1,.int 0 0] }
abbrev zb2 (p q:Bool) (h:Heap) (l1 l2:Addr):Heap:=(zb1 p h l1).push { cls:=.type (a8p q),data:=.fields #[.ref l2,.int 0 0] }
abbrev zb3 (p q:Bool) (h:Heap) (l1 l2:Addr):Heap:=(zb2 p q h l1 l2).push { cls:=.type "tuple",data:=.seq #[.ref h.objs.size,.ref (zb1 p h l1).objs.size] }
abbrev zb4 (p q:Bool) (h:Heap) (l1 l2:Addr):Heap:=(zb3 p q h l1 l2).push { cls:=.type "tuple",data:=.seq #[.none,.none] }
abbrev zb5 (p q:Bool) (h:Heap) (l1 l2:Addr):Heap:=(zb4 p q h l1 l2).push { cls:=.type "zip",data:=.fields #[.none,.bool false,.bool false,.ref (zb2 p q h l1 l2).objs.size,.ref (zb3 p q h l1 l2).objs.size] }
theorem b3x (p q:Bool) (l1 l2:Addr) (xs ys:Array Value) :
  Meets (Builtin.«zip.__new__» ⟨[.type "zip",.ref l1,.ref l2],[]⟩) (fun _ R s=>SeqB p s.heap l1 xs∧SeqB q s.heap l2 ys∧R (.ok (.ret (.ref (zb4 p q s.heap l1 l2).objs.size))) { s with heap:=zb5 p q s.heap l1 l2 }) :=
 .of_wp fun prog w A R s h=>by
  obtain ⟨hp,g,d,tk,os⟩:=s; obtain ⟨m1,m2,h⟩:=h
  have hsub:=sub_zip
  have M1:SeqB p (Shared.heap ⟨hp,g,d,tk,os⟩) l1 xs:=m1
  have M2:SeqB q (Shared.heap ⟨hp.push { cls:=.type (a8p p),data:=.fields #[.ref l1,.int 0 0] },g,d,tk,os⟩) l2 ys:=SeqB.push m2
  wp_walk using b6t M1,b6t M2
  exact ⟨_,rfl,h⟩
section
variable {P:Program} {w:World} {A:Around} {E:Value→Shared→Prop} {s:Shared}
theorem a9y {p q:Bool} {l1 l2:Addr} {xs ys:Array Value} {Q:Value→Shared→Prop} (m1:SeqB p s.heap l1 xs) (m2:SeqB q s.heap l2 ys)
  (K:∀ h',IsZip h' (s.heap.objs.size + 4) (s.heap.objs.size + 2) (s.heap.objs.size + 3) .none→IsPair h' (s.heap.objs.size + 2) (.ref s.heap.objs.size) (.ref (s.heap.objs.size + 1)) →
   IsPair h' (s.heap.objs.size + 3) .none .none→IterB p h' s.heap.objs.size l1 0→IterB q h' (s.heap.objs.size + 1) l2 0→(∀ c o,s.heap.get? c=some o→h'.get? c=some o)→Q (.ref (s.heap.objs.size + 4)) { s with heap:=h' }) :
  wpAny (model P w) A (call (.type "zip") [.ref l1,.ref l2]) Q E s:=by
 refine callType_new F.called_zip (by decide) (F.typeCall_zip_2 _ _) (F.newCall_zip_2 _ _) (fun obj=>F.args_object_init_3 obj _ _) F.entry_zip_new (b3x p q l1 l2 xs ys) ⟨m1,m2,?_⟩
 have z1:(zb1 p s.heap l1).objs.size=s.heap.objs.size + 1:=Heap.size_push ..
 have z2:(zb2 p q s.heap l1 l2).objs.size=s.heap.objs.size + 2:=by rw [Heap.size_push,z1]
 have z3:(zb3 p q s.heap l1 l2).objs.size=s.heap.objs.size + 3:=by rw [Heap.size_push,z2]
 have z4:(zb4 p q s.heap l1 l2).objs.size=s.heap.objs.size + 4:=by rw [Heap.size_push,z3]
 have f5:(zb5 p q s.heap l1 l2).get? (zb4 p q s.heap l1 l2).objs.size=some _:=Heap.get?_push_size _ rfl
 have f4:(zb5 p q s.heap l1 l2).get? (zb3 p q s.heap l1 l2).objs.size=some _:=Γc _ (Heap.get?_push_size _ rfl)
 have f3:(zb5 p q s.heap l1 l2).get? (zb2 p q s.heap l1 l2).objs.size=some _:=Γc _ (Γc _ (Heap.get?_push_size _ rfl))
 have f2:(zb5 p q s.heap l1 l2).get? (zb1 p s.heap l1).objs.size=some _:=Γc _ (Γc _ (Γc _ (Heap.get?_push_size _ rfl)))
 have f1:(zb5 p q s.heap l1 l2).get? s.heap.objs.size=some _:=Γc _ (Γc _ (Γc _ (Γc _ (Heap.get?_push_size _ rfl))))
 show _∧_
 rw [z2,z3,z4] at f5; rw [z1,z2] at f3; rw [z3] at f4; rw [z1] at f2; rw [z4]
 refine ⟨⟨_,f5,rfl⟩,K _ f5 f3 f4 ?_ ?_ fun c o x=>Γc _ (Γc _ (Γc _ (Γc _ (Γc _ x))))⟩
 ·cases p <;> exact ⟨_,f1,rfl,rfl⟩
 ·cases q <;> exact ⟨_,f2,rfl,rfl⟩
end
end L2
end
section
namespace L2
open PySem PySem.Spec PyProof.Rows
open AutoSeq1 (wpAny_loadPart')
section
variable {P:Program} {w:World} {A:Around} {E:Value→Shared→Prop} {s:Shared} {p:Bool} {e it l:Addr} {i:Nat} {xs:Array Value} {x old:Value}
theorem b4h {Q:Value→Shared→Prop} (ee:IsEnum s.heap e it i old) (t1:IterB p s.heap it l i) (m1:SeqB p s.heap l xs) (ex:xs[i]?=some x) (ne:e≠it)
  (K:∀ h',IsEnumOut h' e it ((i:Int) + 1) x s.heap.objs.size→IterB p h' it l (i + 1)→h'.get? s.heap.objs.size=some { cls:=.type "tuple",data:=.seq #[.int i s.toks,x] } →
   (∀ b o,b≠e→b≠it→s.heap.get? b=some o→h'.get? b=some o)→Q (.ref s.heap.objs.size) { s with heap:=h',toks:=s.toks + 1 }) :
  wpAny (model P w) A (Builtin.«enumerate.__next__» ⟨[.ref e],[]⟩) (fun fin s'=>∃ v,fin=.done (.ret v)∧Q v s') E s:=by
 obtain ⟨hp,g,d,tk,os⟩:=s
 show wpAny _ _ (field (.ref e) 2 >>= _) _ _ _; refine Γa (wpAny_field ee rfl (x:=.ref it) rfl (Γa (a6v t1 m1 ex fun g1 t11 b1=>?_)))
 replace b1:Heap.SameBut it hp g1:=b1
 have e1:IsEnum g1 e it i old:=(b1.2 e ne).trans ee
 show wpAny _ _ (field (.ref e) 3 >>= _) _ _ ⟨g1,g,d,tk,os⟩; refine Γa (wpAny_field e1 rfl (x:=rawInt i) rfl ?_)
 show wpAny _ _ (field (.ref e) 4 >>= _) _ _ ⟨g1,g,d,tk,os⟩; refine Γa (wpAny_field e1 rfl (x:=.none) rfl ?_)
 show wpAny _ _ (mkInt i >>= _) _ _ ⟨g1,g,d,tk,os⟩; refine Γa (wpAny_mkInt ?_)
 show wpAny _ _ (setField (.ref e) 3 (rawInt ((i:Int) + 1)) >>= _) _ _ ⟨g1,g,d,tk + 1,os⟩; refine Γa (wpAny_setField_rec e1 (by simp) fun g2 e2 b2=>?_)
 replace b2:Heap.SameBut e g1 g2:=b2
 replace e2:IsEnum g2 e it ((i:Int) + 1) old:=e2
 show wpAny _ _ (setField (.ref e) 4 .none >>= _) _ _ ⟨g2,g,d,tk + 1,os⟩; refine Γa (wpAny_setField_rec e2 (by simp) fun g3 e3 b3=>?_)
 replace b3:Heap.SameBut e g2 g3:=b3
 replace e3:IsEnum g3 e it ((i:Int) + 1) old:=e3
 show wpAny _ _ (newTuple [.int i tk,x] >>= _) _ _ ⟨g3,g,d,tk + 1,os⟩; refine Γa (wpAny_newTuple ?_)
 have e4:IsEnum (g3.push { cls:=.type "tuple",data:=.seq #[.int i tk,x] }) e it ((i:Int) + 1) old:=Γc _ e3
 generalize hg4:g3.push { cls:=.type "tuple",data:=.seq #[.int i tk,x] } = g4 at e4
 have sz:g3.objs.size=hp.objs.size:=by rw [b3.1,b2.1,b1.1]
 have el:e < hp.objs.size:=Heap.lt_size ee
 have t4:g4.get? hp.objs.size=some { cls:=.type "tuple",data:=.seq #[.int i tk,x] }:=by rw [← hg4,← sz]; exact Heap.get?_push_size _ rfl
 have k4:∀ b o,b≠e→b≠it→hp.get? b=some o→g4.get? b=some o:=fun b o c1 c2 h=>by rw [← hg4]; exact Γc _ (b3.extBut b o c1 (b2.extBut b o c1 (b1.extBut b o c2 h)))
 have i4:IterB p g4 it l (i + 1):=by
  rw [← hg4]; exact ((t11.move b2.extBut (Ne.symm ne)).move b3.extBut (Ne.symm ne)).to fun o h=>Γc _ h
 show wpAny _ _ (Builtin.SmallTypes.ownedTupleIsFree (.ref e) >>= _) _ _ ⟨g4,g,d,tk + 1,os⟩
 rw [sz]
 clear hg4 e3 b3 e2 b2 e1 b1 t11 sz g3 g2 g1
 refine Γa ?_; unfold Builtin.SmallTypes.ownedTupleIsFree
 refine Γa (wpAny_field e4 rfl (x:=.none) rfl (Γb ?_)); simp only [if_true]
 refine Γa (wpAny_rule (Γa (wpAny_field e4 rfl (x:=old) rfl (Γa (wpAny_setField_rec e4 (by simp) fun g5 e5 b5=>?_)))))
 replace b5:Heap.SameBut e g4 g5:=b5
 replace e5:IsEnum g5 e it ((i:Int) + 1) x:=e5
 show wpAny _ _ (Builtin.SmallTypes.ownedTupleHandOut (.ref e) (.ref hp.objs.size) >>= _) _ _ ⟨g5,g,d,tk + 1,os⟩; refine Γa ?_; unfold Builtin.SmallTypes.ownedTupleHandOut
 refine Γa (wpAny_setField_rec e5 (by simp) fun g6 e6 b6=>?_)
 replace b6:Heap.SameBut e g5 g6:=b6
 replace e6:IsEnumOut g6 e it ((i:Int) + 1) x hp.objs.size:=e6
 refine wpAny_setField_rec e6 (by simp) fun g7 e7 b7=>?_
 replace b7:Heap.SameBut e g6 g7:=b7
 replace e7:IsEnumOut g7 e it ((i:Int) + 1) x hp.objs.size:=e7
 refine Γa (wpAny_letGo (Γb ⟨_,rfl,K g7 e7 (((i4.move b5.extBut (Ne.symm ne)).move b6.extBut (Ne.symm ne)).move b7.extBut (Ne.symm ne)) ?_ fun b o c1 c2 h=>b7.extBut b o c1 (b6.extBut b o c1 (b5.extBut b o c1 (k4 b o c1 c2 h)))⟩))
 exact b7.extBut _ _ (Nat.ne_of_gt el) (b6.extBut _ _ (Nat.ne_of_gt el) (b5.extBut _ _ (Nat.ne_of_gt el) t4))
theorem b4g {Q:Option Value→Shared→Prop} (ee:IsEnum s.heap e it i old) (t1:IterB p s.heap it l i) (m1:SeqB p s.heap l xs) (ex:xs[i]?=some x) (ne:e≠it)
  (K:∀ h',IsEnumOut h' e it ((i:Int) + 1) x s.heap.objs.size→IterB p h' it l (i + 1)→h'.get? s.heap.objs.size=some { cls:=.type "tuple",data:=.seq #[.int i s.toks,x] } →
   (∀ b o,b≠e→b≠it→s.heap.get? b=some o→h'.get? b=some o)→Q (some (.ref s.heap.objs.size)) { s with heap:=h',toks:=s.toks + 1 }):wpAny (model P w) A (pyNext (.ref e)) Q E s:=by
 have ty:s.TypeIs (.ref e) "enumerate":=⟨_,ee,rfl⟩
 unfold pyNext
 exact Γa (wpAny_attempt (wpAny_callSpecial?_slot (name:=Γe "__next__") ty F.slot_enumerate_next (wpAny_call_entry F.slot_enumerate_next ty F.entry_enumerate_next (b4h ee t1 m1 ex ne fun h' a b c d=>Γb (K h' a b c d)) (F.args_enumerate_next_1 _))))
theorem b4f {Q:Option Value→Shared→Prop} (hh:A.handled=none) (ee:IsEnum s.heap e it i old) (t1:IterB p s.heap it l i) (m1:SeqB p s.heap l xs) (ex:xs[i]?=none) (K:∀ h',Heap.ExtBut it s.heap h'→Q none { s with heap:=h' }):wpAny (model P w) A (pyNext (.ref e)) Q E s:=by
 have ty:s.TypeIs (.ref e) "enumerate":=⟨_,ee,rfl⟩
 unfold pyNext
 refine Γa (wpAny_attempt (wpAny_callSpecial?_slot (name:=Γe "__next__") ty F.slot_enumerate_next (wpAny_call_entry F.slot_enumerate_next ty F.entry_enumerate_next ?_ (F.args_enumerate_next_1 _))))
 show wpAny _ _ (field (.ref e) 2 >>= _) _ _ _; refine Γa (wpAny_field ee rfl (x:=.ref it) rfl (Γa (b0n hh t1 m1 ex fun h' v k hv=>?_)))
 obtain ⟨o,e1,e2⟩:=hv
 exact Γa (wpAny_isInstance (T:="StopIteration") (b:=true) ⟨o,e1,e2⟩ isSubtype_stop (Γb (K _ k)))
end
theorem b0z (p:Bool) (l:Addr) (xs:Array Value) :
  Meets (Builtin.«enumerate.__new__» ⟨[.type "enumerate",.ref l],[]⟩) (fun _ R s=>SeqB p s.heap l xs ∧
   R (.ok (.ret (.ref (zb1 p s.heap l).objs.size))) { s with heap:=(zb1 p s.heap l).push { cls:=.type "enumerate",data:=.fields #[.none,.bool false,.ref s.heap.objs.size,rawInt 0,.none,.none] } }) :=
 .of_wp fun prog w A R s h=>by
  obtain ⟨hp,g,d,tk,os⟩:=s; obtain ⟨m1,h⟩:=h
  have hsub:=sub_enumerate
  have M1:SeqB p (Shared.heap ⟨hp,g,d,tk,os⟩) l xs:=m1
  have hob:∃ o,hp.get? l=some o:=by cases p <;> (obtain ⟨o,e,_⟩:=m1; exact ⟨o,e⟩)
  obtain ⟨ob,hl⟩:=hob
  wp_walk using wpAny_loadPart' hl
  refine wpAny_stack_any fun st=>Γb ?_
  split
  ·rename_i c _ _ _ _ _
   cases (c == Value.type "enumerate")
   ·wp_walk using wpAny_loadPart' hl,b6t M1
    exact ⟨_,rfl,h⟩
   ·wp_walk using wpAny_loadPart' hl,b6t M1
    exact ⟨_,rfl,h⟩
  ·wp_walk using wpAny_loadPart' hl,b6t M1
   exact ⟨_,rfl,h⟩
section
variable {P:Program} {w:World} {A:Around} {E:Value→Shared→Prop} {s:Shared}
theorem b4l {p:Bool} {l:Addr} {xs:Array Value} {Q:Value→Shared→Prop} (m1:SeqB p s.heap l xs)
  (K:∀ h',IsEnum h' (s.heap.objs.size + 1) s.heap.objs.size 0 .none→IterB p h' s.heap.objs.size l 0→(∀ b o,s.heap.get? b=some o→h'.get? b=some o)→Q (.ref (s.heap.objs.size + 1)) { s with heap:=h' }) :
  wpAny (model P w) A (call (.type "enumerate") [.ref l]) Q E s:=by
 refine callType_new F.called_enumerate (by decide) (F.typeCall_enumerate_1 _) (F.newCall_enumerate_1 _) (fun obj=>F.args_object_init_2 obj _) F.entry_enumerate_new (b0z p l xs) ⟨m1,?_⟩
 have z1:(zb1 p s.heap l).objs.size=s.heap.objs.size + 1:=Heap.size_push ..
 show _∧_
 rw [z1]
 have f2:IsEnum ((zb1 p s.heap l).push { cls:=.type "enumerate",data:=.fields #[.none,.bool false,.ref s.heap.objs.size,rawInt 0,.none,.none] }) (s.heap.objs.size + 1) s.heap.objs.size 0 .none:=by
  have:=Heap.get?_push_size (zb1 p s.heap l) (o:={ cls:=.type "enumerate",data:=.fields #[.none,.bool false,.ref s.heap.objs.size,rawInt 0,.none,.none] }) rfl
  rw [z1] at this; exact this
 refine ⟨⟨_,f2,rfl⟩,K _ f2 ?_ fun b o x=>Γc _ (Γc _ x)⟩
 cases p <;> exact ⟨_,Γc _ (Heap.get?_push_size _ rfl),rfl,rfl⟩
end
def SqB (b:Bool) (K:Γd) (H:Hp) (a:Addr) (xs:List V):Prop:=match b with | true=>SqL K H a xs | false=>SqT K H a xs
section
variable {X:Cx} {pins:List (Addr×Obj)} {σ:St} {H:Hp} {s:Shared} {a:Addr} {xs ys:List V} {b:Bool}
theorem Inv.seqB (I:Inv X pins σ H s) (h:SqB b X.K H a xs):∃ its:List Value,Vals xs its∧SeqB b s.heap a its.toArray∧xs.length=its.length:=by
 cases b
 ·obtain ⟨its,r,q,_⟩:=I.tuple h
  exact ⟨its,r,q,r.length⟩
 ·obtain ⟨its,r,q,_⟩:=I.list h
  exact ⟨its,r,q.isList,r.length⟩
theorem Inv.seqB_inj (I:Inv X pins σ H s) (h:SqB b X.K H a xs) (h':SqB b X.K H a ys):xs=ys:=by
 cases b
 ·exact I.tuple_inj h h'
 ·exact I.list_inj h h'
end
def Iz2 (K : Γd) (p q : Bool) (a b : Addr) : It :=
  ⟨fun i H => ∃ xs ys x y, SqB p K H a xs ∧ SqB q K H b ys ∧ xs[i]? = some x ∧ ys[i]? = some y,
   fun i H v H' => ∃ c, H c = none ∧ v = .ref c ∧ ∀ xs ys x y, SqB p K H a xs → SqB q K H b ys → xs[i]? = some x → ys[i]? = some y → H' = upd H c (.tup [x, y]),
   fun i H => ∃ xs ys, SqB p K H a xs ∧ SqB q K H b ys ∧ (xs.length ≤ i ∨ ys.length ≤ i)⟩
def Ien (K : Γd) (p : Bool) (a : Addr) : It :=
  ⟨fun i H => ∃ xs x, SqB p K H a xs ∧ xs[i]? = some x,
   fun i H v H' => ∃ c, H c = none ∧ v = .ref c ∧ ∀ xs x, SqB p K H a xs → xs[i]? = some x → H' = upd H c (.tup [.int i, x]),
   fun i H => ∃ xs, SqB p K H a xs ∧ xs.length ≤ i⟩
theorem c2x {P:Program} {w:World} {K:Γd} {p q:Bool} {elts:List Expr} {k:Nat} {pos:Pos} {a b z TI TO i1 i2:Addr} (D:ZipApart z TI TO i1 i2 a b) :
  Turn P w K (.Tuple elts k pos) (Iz2 K p q a b) [z,TO,i1,i2,TI] z (fun i h=>IsZip h z TI TO .none∧IsPair h TI (.ref i1) (.ref i2)∧(∃ c d,IsPair h TO c d)∧IterB p h i1 a i∧IterB q h i2 b i) where
 mem:=by simp
 obj:=fun i h st c hc=>by
  obtain ⟨zz,zi,⟨x,y,zo⟩,t1,t2⟩:=st
  simp only [List.mem_cons,List.not_mem_nil,or_false] at hc
  rcases hc with rfl | rfl | rfl | rfl | rfl
  ·exact ⟨_,zz,fun v z=>by cases z⟩
  ·exact ⟨_,zo,fun v z=>by cases z⟩
  ·exact t1.obj
  ·exact t2.obj
  ·exact ⟨_,zi,fun v z=>by cases z⟩
 keep:=fun i h h' st kk=>by
  obtain ⟨zz,zi,⟨x,y,zo⟩,t1,t2⟩:=st
  exact ⟨kk z (by simp) _ zz,kk TI (by simp) _ zi,⟨x,y,kk TO (by simp) _ zo⟩,t1.to fun o e=>kk i1 (by simp) o e,t2.to fun o e=>kk i2 (by simp) o e⟩
 item:=by
  intro X hP hw hK hc i pins s σ H E I hf st hg
  subst hP hw hK
  obtain ⟨xs,ys,x,y,q1,q2,hx,hy⟩:=hg
  obtain ⟨zz,zi,⟨u0,v0,zo⟩,t1,t2⟩:=st
  obtain ⟨its,rv,m1,_⟩:=I.seqB q1
  obtain ⟨jts,rw',m2,_⟩:=I.seqB q2
  obtain ⟨u,hu,ru⟩:=rv.get hx
  obtain ⟨u',hu',ru'⟩:=rw'.get hy
  refine b4y D zz zi zo t1 t2 m1 m2 (x:=u) (y:=u') (by simpa using hu) (by simpa using hu') fun h' a1 a2 a3 a4 a5 hk=>?_
  refine ⟨_,rfl,wpAny_letOwnedTupleGo_zip a1 fun h'' z'' hs''=>?_⟩
  have szn:z≠s.heap.objs.size:=Nat.ne_of_lt (Heap.lt_size zz)
  have T'':IsPair h'' s.heap.objs.size u u':=hs''.extBut _ _ (Ne.symm szn) a5
  have I1:Inv X pins σ (upd H s.heap.objs.size (.tup [x,y])) { s with heap:=h'' }:=I.turnedNew (t':=s.toks) (ch:=[z,TO,i1,i2]) (Nat.le_refl _)
   (fun c ob hc e=>by simp only [List.mem_cons,List.not_mem_nil,or_false,not_or] at hc; exact hs''.extBut _ _ hc.1 (hk c ob hc.1 hc.2.1 hc.2.2.1 hc.2.2.2 e))
   (fun c hc=>hf c (by simp only [List.mem_cons,List.not_mem_nil,or_false] at hc ⊢; rcases hc with z | z | z | z <;> simp [z])) ⟨by show 2≤sizeLine; decide,[u,u'],.cons ru (.cons ru' .nil),⟨_,T'',rfl,_,rfl⟩⟩
  refine ⟨.ref s.heap.objs.size,_,I1,rfl,⟨_,I.fresh,rfl,fun xs' ys' x' y' r1 r2 hx' hy'=>?_⟩,⟨z'',hs''.extBut _ _ D.TIz (hk _ _ D.TIz D.TITO D.TIi1 D.TIi2 zi),⟨_,_,hs''.extBut _ _ D.TOz a2⟩,a3.move hs''.extBut D.i1z,a4.move hs''.extBut D.i2z⟩,fun c hc=>?_⟩
  ·have e1:=I.seqB_inj r1 q1
   have e2:=I.seqB_inj r2 q2
   subst e1 e2
   rw [hx] at hx'; rw [hy] at hy'; cases hx'; cases hy'; rfl
  ·have:c≠s.heap.objs.size:=by
    have hlt:c < s.heap.objs.size:=by
     simp only [List.mem_cons,List.not_mem_nil,or_false] at hc
     rcases hc with rfl | rfl | rfl | rfl | rfl
     ·exact Heap.lt_size zz
     ·exact Heap.lt_size zo
     ·exact t1.lt
     ·exact t2.lt
     ·exact Heap.lt_size zi
    exact Nat.ne_of_lt hlt
   rw [a0e this]; exact (hf c hc).1
 done:=by
  intro X hP hw hK hc i pins s σ H E I hf st hg
  subst hP hw hK
  obtain ⟨xs,ys,q1,q2,hx⟩:=hg
  obtain ⟨zz,zi,⟨u0,v0,zo⟩,t1,t2⟩:=st
  obtain ⟨its,rv,m1,l1⟩:=I.seqB q1
  obtain ⟨jts,rw',m2,l2⟩:=I.seqB q2
  refine b4x (I.ok.hd hc) D zz zi zo t1 t2 m1 m2 (hx.elim (fun z=>.inl (by simp; lia)) fun z=>.inr (by simp; lia)) fun h' hk=>⟨rfl,?_⟩
  exact I.turnedL (t':=s.toks) (ch:=[z,TO,i1,i2]) (fun c ob hc e=>by simp only [List.mem_cons,List.not_mem_nil,or_false,not_or] at hc; exact hk c ob hc.1 hc.2.1 hc.2.2.1 hc.2.2.2 e)
   (fun c hc=>hf c (by simp only [List.mem_cons,List.not_mem_nil,or_false] at hc ⊢; rcases hc with z | z | z | z <;> simp [z]))
 self:=fun _ _ _ _ _ st h=>wpAny_pyIter_zip st.1 h
theorem c2y {P:Program} {w:World} {K:Γd} {p:Bool} {elts:List Expr} {k:Nat} {pos:Pos} {a e it:Addr} (ne:e≠it) :
  Turn P w K (.Tuple elts k pos) (Ien K p a) [e,it] e (fun i h=>(∃ old,IsEnum h e it i old)∧IterB p h it a i) where
 mem:=by simp
 obj:=fun i h st c hc=>by
  obtain ⟨⟨old,ee⟩,t1⟩:=st
  simp only [List.mem_cons,List.not_mem_nil,or_false] at hc
  rcases hc with rfl | rfl
  ·exact ⟨_,ee,fun v z=>by cases z⟩
  ·exact t1.obj
 keep:=fun i h h' st kk=>by
  obtain ⟨⟨old,ee⟩,t1⟩:=st
  exact ⟨⟨old,kk e (by simp) _ ee⟩,t1.to fun o q=>kk it (by simp) o q⟩
 item:=by
  intro X hP hw hK hc i pins s σ H E I hf st hg
  subst hP hw hK
  obtain ⟨xs,x,q1,hx⟩:=hg
  obtain ⟨⟨old,ee⟩,t1⟩:=st
  obtain ⟨its,rv,m1,_⟩:=I.seqB q1
  obtain ⟨u,hu,ru⟩:=rv.get hx
  refine b4g ee t1 m1 (x:=u) (by simpa using hu) ne fun h' a1 a2 a3 hk=>?_
  refine ⟨_,rfl,wpAny_letOwnedTupleGo_enum a1 fun h'' z'' hs''=>?_⟩
  have szn:e≠s.heap.objs.size:=Nat.ne_of_lt (Heap.lt_size ee)
  have T'':=hs''.extBut _ _ (Ne.symm szn) a3
  have I1:Inv X pins σ (upd H s.heap.objs.size (.tup [.int i,x])) { s with heap:=h'',toks:=s.toks + 1 }:=I.turnedNew (t':=s.toks + 1) (ch:=[e,it]) (Nat.le_refl _)
   (fun c ob hc q=>by simp only [List.mem_cons,List.not_mem_nil,or_false,not_or] at hc; exact hs''.extBut _ _ hc.1 (hk c ob hc.1 hc.2 q))
   (fun c hc=>hf c hc) ⟨by show 2≤sizeLine; decide,[.int i s.toks,u],.cons ⟨_,rfl⟩ (.cons ru .nil),⟨_,T'',rfl,_,rfl⟩⟩
  refine ⟨.ref s.heap.objs.size,_,I1,rfl,⟨_,I.fresh,rfl,fun xs' x' r1 hx'=>?_⟩,⟨⟨_,z''⟩,a2.move hs''.extBut (Ne.symm ne)⟩,fun c hc=>?_⟩
  ·have e1:=I.seqB_inj r1 q1
   subst e1
   rw [hx] at hx'; cases hx'; rfl
  ·have:c≠s.heap.objs.size:=by
    have hlt:c < s.heap.objs.size:=by
     simp only [List.mem_cons,List.not_mem_nil,or_false] at hc
     rcases hc with rfl | rfl
     ·exact Heap.lt_size ee
     ·exact t1.lt
    exact Nat.ne_of_lt hlt
   rw [a0e this]; exact (hf c hc).1
 done:=by
  intro X hP hw hK hc i pins s σ H E I hf st hg
  subst hP hw hK
  obtain ⟨xs,q1,hx⟩:=hg
  obtain ⟨⟨old,ee⟩,t1⟩:=st
  obtain ⟨its,rv,m1,l1⟩:=I.seqB q1
  refine b4f (I.ok.hd hc) ee t1 m1 (by simp; lia) fun h' hk=>⟨rfl,?_⟩
  exact I.turnedL (t':=s.toks) (ch:=[it]) (fun c ob hc q=>hk c ob (by simpa using hc) q) (fun c hc=>hf c (by simp at hc; simp [hc]))
 self:=fun _ _ _ _ _ st h=>wpAny_pyIter_enum st.1.choose_spec h
section
variable {X:Cx}
def iZ2 (K:Γd) (ta:TA):TI:=fun σ H R=>ta σ H fun vs H1=>∃ p q a b,vs=[.ref a,.ref b]∧(∃ xs,SqB p K H1 a xs)∧(∃ ys,SqB q K H1 b ys)∧R (Iz2 K p q a b) H1
theorem c8e {elts:List Expr} {k:Nat} {tp:Pos} {e1 e2:Expr} {ta:TA} {p pos:Pos} (hg:Gl X "zip") (hm:X.mg "zip" = none) (ha:PA X [e1,e2] ta)
  (hs:starEach [e1,e2] X.env=[(false,eval e1 X.env),(false,eval e2 X.env)]) (hs2:starEach [e2] X.env=[(false,eval e2 X.env)]):PI X (.Tuple elts k tp) (.Call (.Name "zip" p) [e1,e2] [] pos) (iZ2 X.K ta):=by
 intro pins s σ H R I h
 refine wpAny_Call_Name_kw (a4o I hg hm PyProof.Rows.boot_zip ?_ (by decide) (by decide))
 refine PyProof.Rows.callWith_type1 (thn (ha pos pins s σ H _ I h) fun us s1 ⟨vs,H1,I1,r1,q1⟩=>?_) (by rw [hs,hs2]) (by rw [hs2]; rfl)
 obtain ⟨p,q,a,b,e,⟨xs,hq1⟩,⟨ys,hq2⟩,kk⟩:=q1
 subst e
 obtain ⟨u1,u2,rfl,ra,rb⟩:=b5c r1
 cases ra; cases rb
 obtain ⟨its,rv,m1,_⟩:=I1.seqB hq1
 obtain ⟨jts,rw',m2,_⟩:=I1.seqB hq2
 refine a9y m1 m2 fun h' zz zi zo t1 t2 hk=>wpAny_pyIter_zip (f0:=.none) zz ?_
 have I2:Inv X pins σ H1 { s1 with heap:=h' }:=I1.kept (t':=s1.toks) fun c o e=>hk c o e
 refine ⟨_,_,_,Iz2 X.K p q a b,H1,rfl,I2,c2x (zipApart_new m1.lt m2.lt),⟨zz,zi,⟨_,_,zo⟩,t1,t2⟩,fun c hc=>?_,kk⟩
 have hge:s1.heap.objs.size≤c:=by
  simp only [List.mem_cons,List.not_mem_nil,or_false] at hc
  rcases hc with rfl | rfl | rfl | rfl | rfl <;> first | exact Nat.le_refl _ | exact Nat.le_add_right _ _
 exact I1.fpOk hge (I1.hok.fresh hge)
def iEn (K:Γd) (ta:TA):TI:=fun σ H R=>ta σ H fun vs H1=>∃ p a,vs=[.ref a]∧(∃ xs,SqB p K H1 a xs)∧R (Ien K p a) H1
theorem d4e {elts:List Expr} {k:Nat} {tp:Pos} {e1:Expr} {ta:TA} {p pos:Pos} (hg:Gl X "enumerate") (hm:X.mg "enumerate" = none) (ha:PA X [e1] ta) (hs:starEach [e1] X.env=[(false,eval e1 X.env)]) :
  PI X (.Tuple elts k tp) (.Call (.Name "enumerate" p) [e1] [] pos) (iEn X.K ta):=by
 intro pins s σ H R I h
 refine wpAny_Call_Name_kw (a4o I hg hm PyProof.Rows.boot_enumerate ?_ (by decide) (by decide))
 refine PyProof.Rows.callWith_type1 (thn (ha pos pins s σ H _ I h) fun us s1 ⟨vs,H1,I1,r1,q1⟩=>?_) (by rw [hs]; rfl) rfl
 obtain ⟨p,a,e,⟨xs,hq1⟩,kk⟩:=q1
 subst e
 obtain ⟨u1,rfl,ra⟩:=a3o r1
 cases ra
 obtain ⟨its,rv,m1,_⟩:=I1.seqB hq1
 refine b4l m1 fun h' ee t1 hk=>wpAny_pyIter_enum ee ?_
 have I2:Inv X pins σ H1 { s1 with heap:=h' }:=I1.kept (t':=s1.toks) fun c o e=>hk c o e
 refine ⟨_,_,_,Ien X.K p a,H1,rfl,I2,c2y (Nat.ne_of_gt (Nat.lt_succ_self _)),⟨⟨_,ee⟩,t1⟩,fun c hc=>?_,kk⟩
 have hge:s1.heap.objs.size≤c:=by
  simp only [List.mem_cons,List.not_mem_nil,or_false] at hc
  rcases hc with rfl | rfl <;> first | exact Nat.le_refl _ | exact Nat.le_add_right _ _
 exact I1.fpOk hge (I1.hok.fresh hge)
end
end L2
end
section
namespace L2
open PySem PySem.Spec PyProof.Rows
section
variable {prog:Program} {w:World} {A:Around} {R:Result→Shared→Prop} {s:Shared}
theorem b1e {kx vx target iter:Expr} {ifs:List Expr} {scope:Scope} {pos:Pos} {it:Value} {D:Addr} {env:Env} (I:Nat→Shared→Prop)
  (turn:∀ n s,I n s→wpAny (model prog w) A (pyNext it) (fun r s1=>match r with
   | none=>R (.ok .next) s1
   | some v=>wpAny (model prog w) A (letOwnedTupleGo target it v) (fun _ s2=>wpAny (model prog w) A (assign target env v) (fun _ s3=>wpAny (model prog w) A (a7v ifs env) (fun ok s4 =>
     if ok=true then wpAny (model prog w) A (eval kx env) (fun kv s5=>wpAny (model prog w) A (eval vx env) (fun vv s6=>wpAny (model prog w) A (dictSet D kv vv) (fun _ s7=>∃ m,m < n∧I m s7) (fun _ _=>False) s6) (fun _ _=>False) s5) (fun _ _=>False) s4
     else ∃ m,m < n∧I m s4) (fun _ _=>False) s3) (fun _ _=>False) s2) (fun _ _=>False) s1) (fun _ _=>False) s)
  (n:Nat) (h:I n s):codeAny (model prog w) A (.compLoop (.DictComp kx vx [⟨target,iter,ifs,0⟩] scope pos) 0 it (.ref D) env) R s:=by
 refine codeAny_loop rfl I (fun n s hI=>?_) n h
 show wpAny _ A ((compTurn (.DictComp kx vx [⟨target,iter,ifs,0⟩] scope pos) 0 it (.ref D) env).onRaise (fun x=>do noteFrame x env; theTreesLotGoes x)) _ _ s
 refine wpAny_noted ?_
 rw [compTurn_dict]
 have no:∀ (e:Value) (s':Shared),(fun (_:Value) (_:Shared)=>False) e s'→notedBy (model prog w) A env (fun e s'=>R (.error e) s') e s':=fun _ _ z=>z.elim
 refine Γa (wpAny_standAt (Γa (wpAny_mono (turn n s hI) (fun r s1 h1=>?_) no)))
 cases r with
 | none=>exact Γb h1
 | some v =>
  refine Γa (wpAny_mono h1 (fun _ s2 h2=>Γa (wpAny_mono h2 (fun _ s3 h3=>Γa (wpAny_mono h3 (fun ok s4 h4=>?_) no)) no)) no)
  cases ok with
  | true =>
   rw [if_pos rfl] at h4
   simp only [if_true]
   exact Γa (Γa (wpAny_mono h4 (fun kv s5 h5=>Γa (Γg (wpAny_mono h5 (fun vv s6 h6=>Γa (wpAny_standAt (Γg (wpAny_mono h6 (fun _ s7 h7=>Γb ⟨rfl,h7⟩) no)))) no))) no))
  | false =>
   rw [if_neg Bool.false_ne_true] at h4
   simp only [Bool.false_eq_true,if_false]
   first
    | exact Γb ⟨rfl,h4⟩
    | exact Γa (Γb (Γb ⟨rfl,h4⟩))
end
def c6x (wi:TI) (g:TG) (tt:TT) (tk tv:TE) (own:Nat):TE:=fun σ H Q=>wi σ H fun J H1=>∀ acc,H1 acc=none→∃ W:Nat→Nat→Hp→Prop,(∃ m,W 0 m (upd H1 acc (.dT [])))∧∀ i m H,W i m H →
 (J.stop i H∧Q (.ref acc) H) ∨ (J.go i H∧∀ x H',J.yld i H x H'→g x (σ++List.replicate own none) H' fun σ2 H2=>Wk (σ++List.replicate own none) σ2∧tt σ2 H2 fun b H3 =>
  if b=true then tk σ2 H3 fun y H4=>tv σ2 H4 fun v H5=>∃ kvs k b,H5 acc=some (.dT kvs)∧y=.ref b∧H5 b=some (.tup (k.map kV))∧kvs.length < sizeLine∧∃ m',m' < m∧W (i + 1) m' (upd H5 acc (.dT (a4b kvs k v))) else ∃ m',m' < m∧W (i + 1) m' H3)
section
variable {X:Cx} {kx vx tg iter:Expr} {ifs:List Expr} {scope:Scope} {own:List Str} {pos:Pos} {wi:TI} {g:TG} {tt:TT} {tk tv:TE}
theorem b8h {pins:List (Addr×Obj)} {σ:St} {H2:Hp} {s2:Shared} {Q:VK} {it:Addr} {fp:List Addr} {tn:Nat→Heap→Prop} {J:It} {RR:Value→Addr→Result→Shared→Prop}
  (hu:X.A.units + 1 < cLine) (hc:X.calm=true) (SC:CScope X scope own)
  (hblock:∀ C s H,PG (cxC X scope own fp C s H) tg g∧PTs (cxC X scope own fp C s H) ifs tt∧PE (cxC X scope own fp C s H) kx tk∧PE (cxC X scope own fp C s H) vx tv)
  (I2:Inv X pins σ H2 s2) (T:Turn X.prog X.w X.K tg J fp it tn) (st2:tn 0 s2.heap) (f2:∀ b∈fp,b1k X pins H2 b)
  (h:∀ acc,H2 acc=none→∃ W:Nat→Nat→Hp→Prop,(∃ m,W 0 m (upd H2 acc (.dT [])))∧∀ i m H,W i m H →
   (J.stop i H∧Q (.ref acc) H) ∨ (J.go i H∧∀ x H',J.yld i H x H'→g x (σ++List.replicate own.length none) H' fun σ2 H2=>Wk (σ++List.replicate own.length none) σ2∧tt σ2 H2 fun b H3 =>
    if b=true then tk σ2 H3 fun y H4=>tv σ2 H4 fun v H5=>∃ kvs k b,H5 acc=some (.dT kvs)∧y=.ref b∧H5 b=some (.tup (k.map kV))∧kvs.length < sizeLine∧∃ m',m' < m∧W (i + 1) m' (upd H5 acc (.dT (a4b kvs k v))) else ∃ m',m' < m∧W (i + 1) m' H3))
  (hRR:∀ acc C H' m s',Inv X pins σ H' s'→s'.heap.Ns C m→C≠X.env.locals→(∀ x c,X.env.cells.lookup x=some c→c≠C)→s2.heap.objs.size≤C→H' C=none→Q (.ref acc) H'→RR (.ref acc) C (.ok .next) s') {E:Value→Shared→Prop} :
  wpAny (model X.prog X.w) X.A (newDict) (fun acc s3=>wpAny (model X.prog X.w) X.A (newFunctionEnv scope X.env.globals (b1g X.env.cells scope.names []) [] X.env.qual none .none (some X.env)) (fun cenv s4 =>
   codeAny (model X.prog X.w) X.A (.compStart (.DictComp kx vx [⟨tg,iter,ifs,0⟩] scope pos) 0 (.ref it) acc { cenv with scope:=relabel scope X.env }) (RR acc cenv.locals) s4) E s3) E s2:=by
 have hacc:=I2.fresh
 have I3:Inv X pins σ (upd H2 s2.heap.objs.size (.dT [])) { s2 with heap:=s2.heap.push { cls:=.type "dict",data:=.dict #[] },toks:=s2.toks }:=I2.laid (a:=s2.heap.objs.size) (o:=.dT []) (t':=s2.toks) (fun _ _ q=>Γc _ q) (Nat.le_refl _) (b3e s2.heap I2.big)
 refine wpAny_newObj_type ?_
 obtain ⟨W,⟨m0,w0⟩,turn⟩:=h _ hacc
 generalize hs3:({ s2 with heap:=s2.heap.push { cls:=.type "dict",data:=.dict #[] },toks:=s2.toks }:Shared)=s3 at I3
 have keep23:∀ b o,s2.heap.get? b=some o→s3.heap.get? b=some o:=fun b o e=>by rw [← hs3]; exact Γc _ e
 have hf3:∀ b∈fp,b1k X pins (upd H2 s2.heap.objs.size (.dT [])) b:=fun b hb=>by
  obtain ⟨o,ho,_⟩:=T.obj _ _ st2 b hb
  exact ⟨by rw [a0e (Nat.ne_of_lt (Heap.lt_size ho))]; exact (f2 b hb).1,(f2 b hb).2⟩
 have st3:tn 0 s3.heap:=T.keep _ _ _ st2 fun b hb o e=>keep23 b o e
 refine wpAny_newFunctionEnv SC.nocell (by intro y hy; simp at hy) (fun h4 hns hsb=>?_) SC.kind
 have hns':h4.Ns s3.heap.objs.size (fun _=>none):=by simpa using hns
 have keep34:∀ b o,s3.heap.get? b=some o→h4.get? b=some o:=fun b o e=>hsb.extBut b o (Nat.ne_of_lt (Heap.lt_size e)) (Γc _ e)
 have I4:=b2t (t4:=s3.toks + ([]:List (Str×Value)).length) I3 SC hc hf3 (fun b hb=>by obtain ⟨o,ho,_⟩:=T.obj _ _ st3 b hb; exact ⟨o,ho⟩) hns' keep34
 have st4:tn 0 h4:=T.keep _ _ _ st3 fun b hb o e=>keep34 b o e
 obtain ⟨hg,ht,hk',hv'⟩:=hblock s3.heap.objs.size s3 (upd H2 s2.heap.objs.size (.dT []))
 have e5:(cxC X scope own fp s3.heap.objs.size s3 (upd H2 s2.heap.objs.size (.dT []))).env=compEnvC scope (b1g X.env.cells scope.names []) s3.heap.objs.size X.env:=rfl
 generalize hY:cxC X scope own fp s3.heap.objs.size s3 (upd H2 s2.heap.objs.size (.dT []))=Y at hg ht hk' hv' I4 e5
 have fpY:∀ {H':Hp},(∀ b∈fp,H' b=none)→∀ b∈fp,b1k Y [] H' b:=fun hn b hb=>by
  obtain ⟨o,ho,_⟩:=T.obj _ _ st3 b hb
  refine ⟨hn b hb,?_,?_,?_,?_,?_⟩
  ·rw [← hY]; exact Nat.ne_of_lt (Heap.lt_size ho)
  ·have:=I4.ok.exfs b (by rw [← hY]; exact hb)
   exact this
  ·exact .inl (by rw [← hY]; exact hb)
  ·exact fun x c h=>(I4.ok.exf b (by rw [← hY]; exact hb)).2 x c h
  ·intro p hp; rw [← hY] at hp; exact absurd (show p∈([]:List (Addr×Obj)) from hp) (by simp)
 have hYp:Y.prog=X.prog∧Y.w=X.w∧Y.K=X.K∧Y.calm=true∧Y.A=X.A∧Y.xe=(fun _ _=>False)∧Y.s₀=s3∧Y.H₀=upd H2 s2.heap.objs.size (.dT [])∧Y.outer=X.stack∧Y.ex=fp:=by rw [← hY]; exact ⟨rfl,rfl,rfl,hc,rfl,rfl,rfl,rfl,rfl,rfl⟩
 obtain ⟨y1,y2,y3,y4,y5,y6,y7,y8,y9,y10⟩:=hYp
 have loop:∀ s5:Shared,s5 = { s3 with heap:=h4,toks:=s3.toks + ([]:List (Str×Value)).length } →
   codeAny (model X.prog X.w) X.A (.compLoop (.DictComp kx vx [⟨tg,iter,ifs,0⟩] scope pos) 0 (.ref it) (.ref s2.heap.objs.size) Y.env) (RR (.ref s2.heap.objs.size) s3.heap.objs.size) s5:=by
  rintro s5 rfl
  refine b1e (fun n s'=>∃ i H',Inv Y [] (σ++List.replicate own.length none) H' s'∧tn i s'.heap∧(∀ b∈fp,H' b=none)∧W i n H') ?_ m0 ⟨0,_,I4,st4,fun b hb=>(hf3 b hb).1,w0⟩
  rintro n s6 ⟨i,H6,I6,st6,fr6,w6⟩
  rcases turn i n H6 w6 with ⟨stop,q⟩ | ⟨go,step⟩
  ·have d:=T.done Y y1 y2 y3 y4 i [] s6 _ H6 (fun _ _=>False) I6 (fpY fr6) st6 stop
   rw [y5] at d
   refine thn d fun r s7 ⟨hr,I7⟩=>?_
   subst hr
   obtain ⟨m,hn,_⟩:=I7.loc
   have hL:Y.env.locals=s3.heap.objs.size:=by rw [e5]; rfl
   rw [hL] at hn
   have b7:=I7.base
   rw [y7,y8,y10] at b7
   have b7':Un (frs X.stack) fp (upd H2 s2.heap.objs.size (.dT [])) H6 s3.heap s7.heap:=by
    have z:Y.fs=frs X.stack:=by show frs Y.outer=_; rw [y9]
    rw [z] at b7
    exact b7
   have hok7:=I7.hok
   rw [y1,y2] at hok7
   have os7:=I7.os
   rw [y7] at os7
   have I8:Inv X pins σ H6 s7:=I3.call' os7 b7' hok7 I7.bare fun b hb=>⟨(hf3 b hb).2.2.2.1,(hf3 b hb).2.1,(hf3 b hb).2.2.2.2.1,(hf3 b hb).2.2.2.2.2⟩
   have hfree:=I7.free
   rw [hL] at hfree
   refine hRR _ _ H6 m s7 I8 hn (Nat.ne_of_gt I3.lt) (fun x c h z=>?_) ?_ hfree q
   ·obtain ⟨v,y⟩:=I3.cell x c h
    exact absurd y.lt (by rw [z]; exact Nat.lt_irrefl _)
   ·rw [← hs3,Heap.size_push]; exact Nat.le_succ _
  ·have d:=T.item Y y1 y2 y3 y4 i [] s6 _ H6 (fun _ _=>False) I6 (fpY fr6) st6 go
   rw [y5] at d
   refine thn d fun r s7 ⟨u,hr,h7⟩=>?_
   subst hr
   refine thn h7 fun _ s8 ⟨x,H8,I8,r8,y8',st8,fr8⟩=>?_
   have I8':=I8.pinned (fpY fr8) (T.obj _ _ st8)
   have pinK:∀ {σ':St} {H':Hp} {s':Shared},Inv Y ([]++a6d fp s8.heap) σ' H' s'→tn (i + 1) s'.heap∧∀ b∈fp,H' b=none:=fun {σ' H' s'} I' =>
    ⟨T.keep _ _ _ st8 fun b hb o e=>(I'.pin (b,o) (List.mem_append_right _ (List.mem_append_right _ (a2b hb e)))).1,fun b hb=>by
     obtain ⟨o,e,_⟩:=T.obj _ _ st8 b hb
     exact (I'.pin (b,o) (List.mem_append_right _ (List.mem_append_right _ (a2b hb e)))).2.1⟩
   have dg:=hg _ s8 _ H8 x u _ I8' r8 (step x H8 y8')
   rw [y1,y2,y5,y6] at dg
   refine thn dg fun _ s9 ⟨σ9,H9,I9,wk,q9⟩=>?_
   have dt:=ht _ s9 σ9 H9 _ I9 q9
   rw [y1,y2,y5,y6] at dt
   refine thn dt fun ok s10 ⟨H10,I10,q10⟩=>?_
   cases ok with
   | true =>
    rw [if_pos rfl] at q10 ⊢
    have dk:=hk' _ s10 σ9 H10 _ I10 q10
    rw [y1,y2,y5,y6] at dk
    refine thn dk fun ky s11 ⟨v11,H11,I11,r11,q11⟩=>?_
    have dv:=hv' _ s11 σ9 H11 _ I11 q11
    rw [y1,y2,y5,y6] at dv
    refine thn dv fun y s12 ⟨v12,H12,I12,r12,kvs,k,b,hys,hyb,hkb,hz,m',hm,w12⟩=>?_
    subst hyb
    cases (show ky=Value.ref b from r11)
    obtain ⟨z,hd,xs,rel,dd⟩:=d0q I12.hok hys
    rw [y1,y2] at dd
    have hz':xs.length≤sizeLine:=by rw [← Paired.length rel]; exact z
    have hl:(a4b kvs k v12).length≤sizeLine:=by have:=a2e kvs k v12; lia
    have ko:=a6i I12.hok hkb
    rw [y1,y2] at ko
    refine wpAny_dictSet_heap (knd:=tupleKind (a0w X.prog X.w)) (hsz:=hz') (show X.A.units < cLine by lia) ko dd fun h' dd' hs=>?_
    obtain ⟨q,es,ep,hq,h2',h3',h4',h5',h6'⟩:=dd'
    rw [← y1,← y2] at h4'
    have I13:Inv Y ([]++a6d fp s8.heap) σ9 (upd H12 s2.heap.objs.size (.dT (a4b kvs k v12))) { s12 with heap:=h',toks:=s12.toks + (tupleKind (a0w X.prog X.w)).draws k }:=by
     refine b1c I12 (by rw [hys]; exact True.intro) hs ⟨q,hq⟩ ⟨hl,hd,_,(rel.put k hkb r12).keeps fun c ys ec=>?_,q,es,ep,hq,h2',h3',h4',h6'⟩
     rw [a0e (c9d ec hys (fun z=>nomatch z))]
     exact ec
    obtain ⟨t13,f13⟩:=pinK I13
    exact ⟨m',hm,i + 1,_,(I13.unpinned).weak wk.1.symm wk.2,t13,f13,w12⟩
   | false =>
    rw [if_neg Bool.false_ne_true] at q10 ⊢
    obtain ⟨m',hm,w10⟩:=q10
    obtain ⟨t10,f10⟩:=pinK I10
    exact ⟨m',hm,i + 1,_,(I10.unpinned).weak wk.1.symm wk.2,t10,f10,w10⟩
 rw [e5] at loop
 exact codeAny_compStart_dict (loop _ rfl) (T.self _ 0 _ _ _ st4 (loop _ rfl))
theorem c0a (hu:X.A.units + 1 < cLine) (hc:X.calm=true) (SC:CScope X scope own) (hi:PI X.nox tg iter wi)
  (hblock:∀ fp C s H,PG (cxC X scope own fp C s H) tg g∧PTs (cxC X scope own fp C s H) ifs tt∧PE (cxC X scope own fp C s H) kx tk∧PE (cxC X scope own fp C s H) vx tv)
  (hs:∀ x,foldedSetIterable iter X.env x=pure x:=by intro _; rfl) :
  PE X.nox (.DictComp kx vx [⟨tg,iter,ifs,0⟩] scope pos) (c6x wi g tt tk tv own.length):=by
 intro pins s σ H Q I h
 have fr:∀ p∈scope.names,p.2=.free→∃ c,X.env.cells.lookup p.1=some c:=fun p hp hq=>I.ok.has p.1 (SC.free p hp hq)
 rw [arm_eval_DictComp]
 refine wpAny_comprehension_free (use:=none) rfl hs (a5n fr) SC.kind SC.names (thn (hi pins s σ H _ I h) fun v s1 h1=>thn h1 fun itv s2 h2=>?_)
 obtain ⟨it,fp,tn,J,H2,e,I2,T,st2,f2,h2⟩:=h2
 subst e
 refine b8h (X:=X.nox) (own:=own) (RR:=fun acc C=>compPost (model X.prog X.w) X.A (fun _ _=>False) none (EP X.nox pins σ Q) acc C) hu hc ⟨SC.kind,SC.nocell,SC.names,SC.free,SC.apart,SC.hid⟩ (fun C s H=>hblock fp C s H) I2 T st2 f2 h2 ?_
 intro acc C H' m s' I' hn hL hcl hC hH q
 obtain ⟨f0,f1,f2',f3,f4,f5⟩:=I2.fpOk hC hH
 refine ⟨m,hn,fun h' hsb=>⟨.ref acc,H',?_,rfl,q⟩⟩
 exact I'.turned (t':=s'.toks) (fun b o hb e=>(hsb.2 b hb).trans e) f0 f1 f3 f4 f5
end
end L2
end
section
namespace L2
open PySem PySem.Spec PyProof.Rows
section
variable {prog:Program} {w:World} {A:Around} {R:Result→Shared→Prop} {s:Shared}
end
section
variable {X:Cx} {elt tg iter tg2 iter2:Expr} {ifs ifs2:List Expr} {scope:Scope} {own:List Str} {pos:Pos} {wi wi2:TI} {g g2:TG} {tt tt2:TT} {te:TE}
end
end L2
end
section
namespace Kq
open PySem PySem.Spec PyProof.Rows L2
inductive D where
 | non | bl (b:Bool) | int (i:Int) | str (x:String) | tup (xs:List D) | lst (xs:List D)
mutual
noncomputable def D.eqv:D→D→Bool
 | .non,.non=>true
 | .bl a,.bl b=>a == b
 | .bl a,.int j=>(if a then 1 else 0) == j
 | .int i,.bl b=>i == (if b then 1 else 0)
 | .int a,.int b=>a == b
 | .str a,.str b=>a == b
 | .tup a,.tup b=>D.eqvs a b
 | .lst a,.lst b=>D.eqvs a b
 | _,_=>false
noncomputable def D.eqvs:List D→List D→Bool
 | [],[]=>true
 | a :: r,b :: q=>D.eqv a b && D.eqvs r q
 | _,_=>false
end
mutual
noncomputable def D.wt:D→Nat
 | .non=>0 | .bl _=>0
 | .int i=>if -(2 ^ 40) < i∧i < 2 ^ 40 then 41 else 151
 | .str x=>x.length
 | .tup xs=>D.wts xs
 | .lst xs=>D.wts xs
noncomputable def D.wts:List D→Nat
 | []=>0
 | a :: r=>D.wt a + 1 + D.wts r
end
mutual
noncomputable def D.fit:D→Bool
 | .int i=>decide (-(2 ^ 150) < i∧i < 2 ^ 150)
 | .tup xs=>D.fits xs
 | .lst xs=>D.fits xs
 | _=>true
noncomputable def D.fits:List D→Bool
 | []=>true
 | a :: r=>D.fit a && D.fits r
end
inductive FV where
 | non | bl (b:Bool) | int (i:Int) | str (x:String) | tup (xs:List FV) | lst (xs:List FV)
 | scr (ns:List Int)
 | shn (d:D)
 | dct (ks:List (List Int)) (vs:List FV)
 | dci (ks:List Int) (vs:List FV)
 | dcz (o:Obj) (ks:List (List Int)) (vs:List FV)
noncomputable def big:Nat:=100000
inductive Mo where | imm | own | frz
 deriving DecidableEq
abbrev Md:=List Mo
abbrev a0d:=List (Option FV)
noncomputable def a0u:Md→Nat→Mo
 | [],_=>.imm
 | m :: _,0=>m
 | _ :: ms,n + 1=>a0u ms n
noncomputable def lk:a0d→Nat→Option FV
 | [],_=>none
 | x :: _,0=>x
 | _ :: L,n + 1=>lk L n
theorem a2y:∀ (L:a0d) (i:Nat) (v:FV),lk L i=some v↔L[i]?=some (some v)
 | [],i,v=>by simp [lk]
 | x :: L,0,v=>by simp [lk]
 | x :: L,i + 1,v=>by simpa [lk] using a2y L i v
noncomputable def wp {α:Type} (r:Option α) (Q:α→Prop):Prop:=match r with
 | some x=>Q x
 | none=>False
theorem wpx {α:Type} {r:Option α} {Q:α→Prop} (h:wp r Q):∃ x,r=some x∧Q x:=by
 cases r with
 | none=>exact h.elim
 | some x=>exact ⟨x,rfl,h⟩
mutual
noncomputable def dPy:D→PyData
 | .non=>.none
 | .bl b=>.bool b
 | .int i=>.int i
 | .str x=>.str (Γe x)
 | .tup xs=>.tuple (a4u xs)
 | .lst xs=>.list (a4u xs)
noncomputable def a4u:List D→List PyData
 | []=>[]
 | a :: r=>dPy a :: a4u r
end
noncomputable def a1a (ks:List (List Int)):List (List (Int ⊕ Str)):=ks.map fun k=>k.map Sum.inl
noncomputable def a3q (ks:List Int):List (Int ⊕ Str):=ks.map Sum.inl
noncomputable def ScrAt (K:Γd) (S:Hp) (a:Addr) (ns:List Int):Prop:=(∃ o,S a=some (.frz o (.lst (ns.map V.int)))) ∨ SqL K (fun _=>none) a (ns.map V.int)
mutual
noncomputable def RV (K:Γd) (S:Hp):FV→V→Prop
 | .non,v=>v=.non
 | .bl b,v=>v=.bl b
 | .int i,v=>v=.int i
 | .str x,v=>v=.str (Γe x)
 | .tup ps,v=>∃ a xs,v=.ref a∧S a=some (.tup xs)∧RVs K S ps xs
 | .lst ps,v=>∃ a xs,v=.ref a∧S a=some (.lst xs)∧RVs K S ps xs
 | .scr ns,v=>∃ a,v=.ref a∧ScrAt K S a ns
 | .shn d,v=>v=.str (dPy d).shown
 | .dct ks vs,v=>∃ a xs,v=.ref a∧ks.length=vs.length∧S a=some (.dT ((a1a ks).zip xs))∧RVs K S vs xs
 | .dci ks vs,v=>∃ a xs,v=.ref a∧ks.length=vs.length∧S a=some (.dK ((a3q ks).zip xs))∧RVs K S vs xs
 | .dcz o ks vs,v=>∃ a xs,v=.ref a∧ks.length=vs.length∧S a=some (.frz o (.dT ((a1a ks).zip xs)))∧RVs K S vs xs
noncomputable def RVs (K:Γd) (S:Hp):List FV→List V→Prop
 | [],vs=>vs=[]
 | p :: ps,vs=>∃ v r,vs=v :: r∧RV K S p v∧RVs K S ps r
end
mutual
theorem RV.mono {K:Γd} {S S':Hp} (x:Same S S'):∀ {p:FV} {v:V},RV K S p v→RV K S' p v
 | .non,v,h=>h
 | .bl b,v,h=>h
 | .int i,v,h=>h
 | .str _,v,h=>h
 | .shn _,v,h=>h
 | .tup ps,v,⟨a,xs,e,h1,h2⟩=>⟨a,xs,e,x _ _ h1,RVs.mono x h2⟩
 | .lst ps,v,⟨a,xs,e,h1,h2⟩=>⟨a,xs,e,x _ _ h1,RVs.mono x h2⟩
 | .dct ks vs,v,⟨a,xs,e,h0,h1,h2⟩=>⟨a,xs,e,h0,x _ _ h1,RVs.mono x h2⟩
 | .dci ks vs,v,⟨a,xs,e,h0,h1,h2⟩=>⟨a,xs,e,h0,x _ _ h1,RVs.mono x h2⟩
 | .dcz o ks vs,v,⟨a,xs,e,h0,h1,h2⟩=>⟨a,xs,e,h0,x _ _ h1,RVs.mono x h2⟩
 | .scr ns,v,⟨a,e,h⟩=>⟨a,e,h.elim (fun ⟨o,h⟩=>.inl ⟨o,x _ _ h⟩) .inr⟩
theorem RVs.mono {K:Γd} {S S':Hp} (x:Same S S'):∀ {ps:List FV} {vs:List V},RVs K S ps vs→RVs K S' ps vs
 | [],vs,h=>h
 | p :: ps,vs,⟨v,r,e,h1,h2⟩=>⟨v,r,e,RV.mono x h1,RVs.mono x h2⟩
end
section
variable {K:Γd} {S H:Hp}
theorem RVs.length:∀ {ps:List FV} {vs:List V},RVs K S ps vs→ps.length=vs.length
 | [],vs,h=>by cases (show vs=[] from h); rfl
 | p :: ps,vs,h=>by
  obtain ⟨v,r,e,_,h2⟩:=h
  subst e
  rw [List.length_cons,List.length_cons,RVs.length h2]
theorem RVs.get:∀ {ps:List FV} {vs:List V} {i:Nat} {p:FV},RVs K S ps vs→ps[i]?=some p→∃ v,vs[i]?=some v∧RV K S p v
 | [],vs,i,p,_,e=>by simp at e
 | q :: ps,vs,0,p,⟨v,r,e',h1,_⟩,e=>by
  subst e'
  simp at e; subst e
  exact ⟨v,rfl,h1⟩
 | q :: ps,vs,i + 1,p,⟨v,r,e',_,h2⟩,e=>by
  subst e'
  simpa using RVs.get (i:=i) (p:=p) h2 (by simpa using e)
theorem RVs.append:∀ {ps qs:List FV} {vs us:List V},RVs K S ps vs→RVs K S qs us→RVs K S (ps++qs) (vs++us)
 | [],qs,vs,us,h,g=>by cases (show vs=[] from h); exact g
 | p :: ps,qs,vs,us,⟨v,r,e,h1,h2⟩,g=>by
  subst e
  exact ⟨v,r++us,rfl,h1,RVs.append h2 g⟩
theorem RVs.one {p:FV} {v:V} (h:RV K S p v):RVs K S [p] [v]:=⟨v,[],rfl,h,rfl⟩
theorem RVs.take:∀ {ps:List FV} {vs:List V} (n:Nat),RVs K S ps vs→RVs K S (ps.take n) (vs.take n)
 | [],vs,n,h=>by cases (show vs=[] from h); simp [RVs]
 | p :: ps,vs,0,h=>by simp [RVs]
 | p :: ps,vs,n + 1,⟨v,r,e,h1,h2⟩=>by
  subst e
  exact ⟨v,r.take n,rfl,h1,RVs.take n h2⟩
theorem RVs.drop:∀ {ps:List FV} {vs:List V} (n:Nat),RVs K S ps vs→RVs K S (ps.drop n) (vs.drop n)
 | [],vs,n,h=>by cases (show vs=[] from h); simp [RVs]
 | p :: ps,vs,0,h=>h
 | p :: ps,vs,n + 1,⟨v,r,e,h1,h2⟩=>by
  subst e
  exact RVs.drop n h2
theorem RVs.set:∀ {ps:List FV} {vs:List V} (n:Nat) {p:FV} {v:V},RVs K S ps vs→RV K S p v→RVs K S (ps.set n p) (vs.set n v)
 | [],vs,n,p,v,h,_=>by cases (show vs=[] from h); simp [RVs]
 | q :: ps,vs,0,p,v,⟨v',r,e,h1,h2⟩,g=>by
  subst e
  exact ⟨v,r,rfl,g,h2⟩
 | q :: ps,vs,n + 1,p,v,⟨v',r,e,h1,h2⟩,g=>by
  subst e
  exact ⟨v',r.set n v,rfl,h1,RVs.set n h2 g⟩
theorem RVs.rev:∀ {ps:List FV} {vs:List V},RVs K S ps vs→RVs K S ps.reverse vs.reverse
 | [],vs,h=>by cases (show vs=[] from h); exact h
 | p :: ps,vs,⟨v,r,e,h1,h2⟩=>by
  subst e
  rw [List.reverse_cons,List.reverse_cons]
  exact (RVs.rev h2).append (RVs.one h1)
theorem RVs.rep {ps:List FV} {vs:List V} (h:RVs K S ps vs):∀ k:Nat,RVs K S (List.replicate k ps).flatten (List.replicate k vs).flatten
 | 0=>rfl
 | k + 1=>by
  rw [List.replicate_succ,List.replicate_succ,List.flatten_cons,List.flatten_cons]
  exact h.append (h.rep k)
theorem RVs.ns:∀ (ns:List Int),RVs K S (ns.map .int) (ns.map V.int)
 | []=>rfl
 | n :: ns=>⟨_,_,rfl,rfl,RVs.ns ns⟩
theorem RVs.one_of {p:FV} {us:List V} (h:RVs K S [p] us):∃ u,us=[u]∧RV K S p u:=by
 obtain ⟨v,r,rfl,h1,h2⟩:=h
 cases (show r=[] from h2)
 exact ⟨v,rfl,h1⟩
theorem RVs.two_of {p q:FV} {us:List V} (h:RVs K S [p,q] us):∃ u v,us=[u,v]∧RV K S p u∧RV K S q v:=by
 obtain ⟨v,r,rfl,h1,h2⟩:=h
 obtain ⟨u,rfl,h3⟩:=h2.one_of
 exact ⟨v,u,rfl,h1,h3⟩
noncomputable def d1g:FV→Option (List FV)
 | .lst ps=>some ps
 | .dct ks vs=>if ks.length=vs.length then some vs else none
 | .dci ks vs=>if ks.length=vs.length then some vs else none
 | .dcz _ ks vs=>if ks.length=vs.length then some vs else none
 | _=>none
noncomputable def d1h:FV→List V→HO
 | .dct ks _,xs=>.dT ((a1a ks).zip xs)
 | .dci ks _,xs=>.dK ((a3q ks).zip xs)
 | .dcz o ks _,xs=>.frz o (.dT ((a1a ks).zip xs))
 | _,xs=>.lst xs
noncomputable def a4y (K:Γd) (S H:Hp) (a:Addr) (v:FV):Prop:=S a=none∧∃ ps xs,d1g v=some ps∧H a=some (d1h v xs)∧RVs K S ps xs
noncomputable def RH (K:Γd) (S H:Hp) (v:FV) (x:V):Prop:=RV K S v x ∨ ∃ a,x=.ref a∧a4y K S H a v
theorem RH.lst {ps:List FV} {x:V} (s:Same S H) (h:RH K S H (.lst ps) x):∃ a xs,x=.ref a∧H a=some (.lst xs)∧RVs K S ps xs:=by
 rcases h with ⟨a,xs,e,h1,h2⟩ | ⟨a,e,_,qs,xs,e2,h1,h2⟩
 ·exact ⟨a,xs,e,s _ _ h1,h2⟩
 ·cases e2; exact ⟨a,xs,e,h1,h2⟩
theorem RH.val {v:FV} {x:V} (h:RH K S H v x) (n:d1g v=none):RV K S v x:=by
 rcases h with h | ⟨a,_,_,ps,xs,e,_⟩
 ·exact h
 ·rw [n] at e; cases e
theorem RH.tup {ps:List FV} {x:V} (s:Same S H) (h:RH K S H (.tup ps) x):∃ a xs,x=.ref a∧H a=some (.tup xs)∧RVs K S ps xs:=by
 obtain ⟨a,xs,e,h1,h2⟩:=h.val rfl
 exact ⟨a,xs,e,s _ _ h1,h2⟩
theorem ScrAt.sq {a:Addr} {ns:List Int} (s:Same S H) (h:ScrAt K S a ns):SqL K H a (ns.map V.int):=by
 rcases h with ⟨o,h⟩ | h
 ·exact .inl (.inr ⟨o,s _ _ h⟩)
 ·rcases h with (h | ⟨o,h⟩) | h
  ·cases h
  ·cases h
  ·exact .inr h
noncomputable def a1v:FV→Option (List FV)
 | .lst xs=>some xs
 | .scr ns=>some (ns.map .int)
 | _=>none
noncomputable def a4z:FV→Option (List FV)
 | .tup xs=>some xs
 | v=>a1v v
theorem RH.list {v:FV} {ps:List FV} {x:V} (s:Same S H) (h:RH K S H v x) (e:a1v v=some ps):∃ a xs,x=.ref a∧SqL K H a xs∧RVs K S ps xs:=by
 cases v with
 | lst qs =>
  cases e
  obtain ⟨a,xs,rfl,h1,h2⟩:=h.lst s
  exact ⟨a,xs,rfl,SqL.of h1,h2⟩
 | scr ns =>
  cases e
  obtain ⟨a,rfl,g⟩:=h.val rfl
  exact ⟨a,_,rfl,ScrAt.sq s g,RVs.ns ns⟩
 | _=>cases e
noncomputable def isL:FV→Bool
 | .tup _=>false
 | _=>true
theorem RH.seq {v:FV} {ps:List FV} {x:V} (s:Same S H) (h:RH K S H v x) (e:a4z v=some ps):∃ a xs,x=.ref a∧SqB (isL v) K H a xs∧RVs K S ps xs:=by
 cases v with
 | tup qs =>
  cases e
  obtain ⟨a,xs,rfl,h1,h2⟩:=h.tup s
  exact ⟨a,xs,rfl,SqT.of h1,h2⟩
 | lst qs=>exact h.list s e
 | scr qs=>exact h.list s e
 | _=>cases e
end
noncomputable def a8q:HO→Bool
 | .tup _=>true
 | _=>false
theorem a6g (v:FV) (xs:List V):a8q (d1h v xs)=false:=by cases v <;> rfl
structure Cn where
 H0:Hp
 S0:Hp
 P0:Option Addr
 fz:List (Nat×Addr)
 pr:List (Addr×HO)
structure Iv (K:Γd) (c:Cn) (md:Md) (L:a0d) (σ:L2.St) (S H:Hp):Prop where
 len:L.length=σ.length
 imm:∀ i v,a0u md i=.imm→L[i]?=some (some v)→∃ x,σ[i]?=some (some x)∧RV K S v x
 own:∀ i v,a0u md i≠.imm→L[i]?=some (some v)→∃ a,σ[i]?=some (some (.ref a))∧a4y K S H a v∧(c.P0=some a ∨ c.H0 a=none)
 dis:∀ i j v w a,a0u md i≠.imm→a0u md j≠.imm→L[i]?=some (some v)→L[j]?=some (some w)→σ[i]?=some (some (.ref a))→σ[j]?=some (some (.ref a))→i=j
 sub:Same S H
 frame:∀ a o,c.H0 a=some o→c.P0≠some a→H a=some o
 s0:Same c.S0 S
 grow:∀ a o,S a=some o→c.S0 a=some o ∨ c.H0 a=none ∨ a8q o=true
 lent:∀ a,c.P0=some a→a0u md 0≠.imm∧σ[0]?=some (some (.ref a))∧∃ v,L[0]?=some (some v)
 fzs:∀ p∈c.fz,a0u md p.1=.frz∧σ[p.1]?=some (some (.ref p.2))∧∃ v,L[p.1]?=some (some v)
 fzm:∀ i v,a0u md i=.frz→L[i]?=some (some v)→∃ a,(i,a)∈c.fz
 fzp:∀ p∈c.fz,∃ o,(p.2,o)∈c.pr
 prs:∀ p∈c.pr,H p.1=some p.2∧S p.1=none∧∀ i v,a0u md i=.own→L[i]?=some (some v)→σ[i]?≠some (some (.ref p.1))
 ntp:∀ p∈c.pr,a8q p.2=false
section
variable {K:Γd} {c:Cn} {md:Md} {L:a0d} {σ:L2.St} {S H S' H':Hp}
theorem Iv.h0 (I:Iv K c md L σ S H) {p:Addr} (h:H p=none):c.H0 p=none:=by
 cases e:c.H0 p with
 | none=>rfl
 | some o =>
  by_cases z:c.P0=some p
  ·obtain ⟨m,e1,v,e2⟩:=I.lent p z
   obtain ⟨a,e3,⟨_,_,_,_,e4,_⟩,_⟩:=I.own 0 v m e2
   rw [e1] at e3; cases e3
   rw [h] at e4; cases e4
  ·rw [I.frame p o e z] at h; cases h
theorem Iv.sn (I:Iv K c md L σ S H) {p:Addr} (h:H p=none):S p=none:=by
 cases e:S p with
 | none=>rfl
 | some o=>rw [I.sub p o e] at h; cases h
theorem Iv.go3 (I:Iv K c md L σ S H) (s:Same S S') (sub:Same S' H') (g:∀ a o,S' a=some o→S a=some o ∨ H a=none ∨ a8q o=true) (k:∀ a o,H a=some o→H' a=some o):Iv K c md L σ S' H' where
 len:=I.len
 imm:=fun i v h e=>let ⟨x,e1,r⟩:=I.imm i v h e; ⟨x,e1,r.mono s⟩
 own:=fun i v h e=>by
  obtain ⟨a,e1,⟨h1,ps,xs,e2,h2,h3⟩,h4⟩:=I.own i v h e
  refine ⟨a,e1,⟨?_,ps,xs,e2,k _ _ h2,h3.mono s⟩,h4⟩
  cases q:S' a with
  | none=>rfl
  | some o =>
   rcases g a o q with z | z | z
   ·rw [h1] at z; cases z
   ·rw [h2] at z; cases z
   ·have:=sub a o q
    rw [k _ _ h2] at this
    rw [← Option.some.inj this,a6g] at z; cases z
 dis:=I.dis
 sub:=sub
 frame:=fun a o h n=>k _ _ (I.frame a o h n)
 s0:=I.s0.trans s
 grow:=fun a o h=>(g a o h).elim (I.grow a o) fun z=>z.elim (fun z=>.inr (.inl (I.h0 z))) fun z=>.inr (.inr z)
 lent:=I.lent
 fzs:=I.fzs
 fzm:=I.fzm
 fzp:=I.fzp
 prs:=fun p hp=>by
  obtain ⟨h1,h2,h3⟩:=I.prs p hp
  refine ⟨k _ _ h1,?_,h3⟩
  cases q:S' p.1 with
  | none=>rfl
  | some o =>
   rcases g _ o q with z | z | z
   ·rw [h2] at z; cases z
   ·rw [h1] at z; cases z
   ·have:=sub _ o q
    rw [k _ _ h1] at this
    rw [← Option.some.inj this,I.ntp p hp] at z; cases z
 ntp:=I.ntp
theorem Iv.go (I:Iv K c md L σ S H) (s:Same S S') (sub:Same S' H') (g:∀ a o,S' a=some o→S a=some o ∨ H a=none) (k:∀ a o,H a=some o→H' a=some o):Iv K c md L σ S' H':=I.go3 s sub (fun a o e=>(g a o e).imp_right .inl) k
theorem a0m {p:Addr} {o:HO} (h:H p=none):Same H (upd H p o):=fun a u e=>by rw [a0e (a0y e h)]; exact e
theorem Iv.new (I:Iv K c md L σ S H) {p:Addr} (h:H p=none) (o:HO):Iv K c md L σ (upd S p o) (upd H p o) :=
 I.go (a0m (I.sn h)) (fun a u e=>by
  by_cases z:a=p
  ·subst z; rw [a0f] at e ⊢; exact e
  ·rw [a0e z] at e ⊢; exact I.sub a u e) (fun a u e=>by
  by_cases z:a=p
  ·subst z; exact .inr h
  ·rw [a0e z] at e; exact .inl e) (a0m h)
theorem Iv.lay (I:Iv K c md L σ S H) {p:Addr} (h:H p=none) (o:HO):Iv K c md L σ S (upd H p o) :=
 I.go (Same.refl S) (I.sub.trans (a0m h)) (fun a u e=>.inl e) (a0m h)
theorem Iv.back3 (I:Iv K c md L σ S H) {i:Nat} {v w:FV} {a:Addr} (m:a0u md i=.own) (e:L[i]?=some (some v)) (e1:σ[i]?=some (some (.ref a))) (s:Same S S') (sub:Same S' H') (g:∀ a o,S' a=some o→S a=some o ∨ H a=none ∨ a8q o=true)
  (k:∀ b o,H b=some o→b≠a→H' b=some o) (new:a4y K S' H' a w):Iv K c md (L.set i (some w)) σ S' H':=by
 have mi:a0u md i≠.imm:=fun z=>by rw [m] at z; cases z
 have hi:=(List.getElem?_eq_some_iff.mp e).1
 obtain ⟨a',e1',⟨h1,qs,ys,_,h2,h3⟩,h4⟩:=I.own i v mi e
 rw [e1] at e1'; cases e1'
 have look:∀ j u,(L.set i (some w))[j]?=some (some u)→(j=i∧u=w) ∨ (j≠i∧L[j]?=some (some u)):=fun j u z=>by
  by_cases q:j=i
  ·subst q; rw [List.getElem?_set_self hi] at z; cases z; exact .inl ⟨rfl,rfl⟩
  ·rw [List.getElem?_set_ne (Ne.symm q)] at z; exact .inr ⟨q,z⟩
 have lookx:∀ j,(∃ u,L[j]?=some (some u))→∃ u,(L.set i (some w))[j]?=some (some u):=fun j h=>by
  obtain ⟨u,z⟩:=h
  by_cases q:j=i
  ·subst q; exact ⟨_,List.getElem?_set_self hi⟩
  ·exact ⟨u,by rw [List.getElem?_set_ne (Ne.symm q)]; exact z⟩
 have old:∀ j u,(L.set i (some w))[j]?=some (some u)→∃ u,L[j]?=some (some u):=fun j u z=>(look j u z).elim (fun q=>⟨v,by rw [q.1]; exact e⟩) fun q=>⟨u,q.2⟩
 refine ⟨by rw [List.length_set]; exact I.len,fun j u hm z=>?_,fun j u hm z=>?_,fun j k u u2 b m1 m2 z1 z2=>?_,sub,fun b o z n=>?_,I.s0.trans s,fun b o z=>(g b o z).elim (I.grow b o) fun z=>z.elim (fun z=>.inr (.inl (I.h0 z))) fun z=>.inr (.inr z),fun b z=>?_,fun p hp=>?_,fun j u hm z=>?_,I.fzp,fun p hp=>?_,I.ntp⟩
 ·rcases look j u z with ⟨q,_⟩ | ⟨_,z⟩
  ·rw [q,m] at hm; cases hm
  ·obtain ⟨x,f1,f2⟩:=I.imm j u hm z
   exact ⟨x,f1,f2.mono s⟩
 ·rcases look j u z with ⟨rfl,rfl⟩ | ⟨q,z⟩
  ·exact ⟨a,e1,new,h4⟩
  ·obtain ⟨b,f1,⟨g1,rs,zs,g2,g3,g4⟩,g5⟩:=I.own j u hm z
   have hb:b≠a:=fun y=>by subst y; exact q (I.dis j i u v b hm mi z e f1 e1)
   refine ⟨b,f1,⟨?_,rs,zs,g2,k b _ g3 hb,g4.mono s⟩,g5⟩
   cases q':S' b with
   | none=>rfl
   | some o =>
    rcases g b o q' with z | z | z
    ·rw [g1] at z; cases z
    ·rw [g3] at z; cases z
    ·have:=sub b o q'
     rw [k b _ g3 hb] at this
     rw [← Option.some.inj this,a6g] at z; cases z
 ·obtain ⟨w',z1⟩:=old j u z1
  obtain ⟨u',z2⟩:=old k u2 z2
  exact I.dis j k w' u' b m1 m2 z1 z2
 ·refine k b o (I.frame b o z n) fun y=>?_
  subst y
  rcases h4 with y | y
  ·exact n y
  ·rw [z] at y; cases y
 ·obtain ⟨g1,g2,g3⟩:=I.lent b z
  exact ⟨g1,g2,lookx 0 g3⟩
 ·obtain ⟨g1,g2,g4⟩:=I.fzs p hp
  exact ⟨g1,g2,lookx _ g4⟩
 ·rcases look j u z with ⟨q,_⟩ | ⟨_,z⟩
  ·rw [q,m] at hm; cases hm
  ·exact I.fzm j u hm z
 ·obtain ⟨g1,g2,g3⟩:=I.prs p hp
  have kp:=k _ _ g1 fun y=>g3 i v m e (by rw [y]; exact e1)
  refine ⟨kp,?_,fun j u hm z=>let ⟨u',z'⟩:=old j u z; g3 j u' hm z'⟩
  cases q':S' p.1 with
  | none=>rfl
  | some o =>
   rcases g _ o q' with z | z | z
   ·rw [g2] at z; cases z
   ·rw [g1] at z; cases z
   ·have:=sub _ o q'
    rw [kp] at this
    rw [← Option.some.inj this,I.ntp p hp] at z; cases z
theorem Iv.back (I:Iv K c md L σ S H) {i:Nat} {v w:FV} {a:Addr} (m:a0u md i=.own) (e:L[i]?=some (some v)) (e1:σ[i]?=some (some (.ref a))) (s:Same S S') (sub:Same S' H') (g:∀ a o,S' a=some o→S a=some o ∨ H a=none)
  (k:∀ b o,H b=some o→b≠a→H' b=some o) (new:a4y K S' H' a w):Iv K c md (L.set i (some w)) σ S' H':=I.back3 m e e1 s sub (fun a o e=>(g a o e).imp_right .inl) k new
theorem Iv.write (I:Iv K c md L σ S H) {i:Nat} {v:FV} {a:Addr} {ps:List FV} {xs:List V} (m:a0u md i=.own) (e:L[i]?=some (some v)) (e1:σ[i]?=some (some (.ref a))) (r:RVs K S ps xs) :
  Iv K c md (L.set i (some (.lst ps))) σ S (upd H a (.lst xs)):=by
 obtain ⟨a',e1',⟨h1,_⟩,_⟩:=I.own i v (fun z=>by rw [m] at z; cases z) e
 rw [e1] at e1'; cases e1'
 exact I.back m e e1 (Same.refl S) (fun b o z=>by rw [a0e fun y=>by subst y; rw [h1] at z; cases z]; exact I.sub b o z) (fun b o z=>.inl z) (fun b o z n=>by rw [a0e n]; exact z) ⟨h1,ps,xs,rfl,a0f,r⟩
theorem Iv.set (I:Iv K c md L σ S H) {i:Nat} {v:FV} {x:V} (ni:∀ a,c.P0=some a→i≠0) (nf:a0u md i≠.frz) (h:(a0u md i=.imm∧RV K S v x) ∨ (a0u md i=.own∧∃ a,x=.ref a∧a4y K S H a v∧c.H0 a=none∧(∀ p∈c.pr,p.1≠a)∧∀ j w,j≠i→a0u md j≠.imm→L[j]?=some (some w)→σ[j]?≠some (some (.ref a)))) :
  Iv K c md (L.set i (some v)) (σ.set i (some x)) S H:=by
 have look:∀ j w,(L.set i (some v))[j]?=some (some w)→(j=i∧w=v∧(σ.set i (some x))[j]?=some (some x)) ∨ (j≠i∧L[j]?=some (some w)∧(σ.set i (some x))[j]?=σ[j]?):=fun j w z=>by
  by_cases q:j=i
  ·subst q
   have hj:j < L.length:=by have:=(List.getElem?_eq_some_iff.mp z).1; rwa [List.length_set] at this
   rw [List.getElem?_set_self hj] at z; cases z
   exact .inl ⟨rfl,rfl,by rw [List.getElem?_set_self (by rw [← I.len]; exact hj)]⟩
  ·rw [List.getElem?_set_ne (Ne.symm q)] at z
   exact .inr ⟨q,z,List.getElem?_set_ne (Ne.symm q)⟩
 have far:∀ j,j≠i→(L.set i (some v))[j]?=L[j]?∧(σ.set i (some x))[j]?=σ[j]?:=fun j q=>⟨List.getElem?_set_ne (Ne.symm q),List.getElem?_set_ne (Ne.symm q)⟩
 refine ⟨by rw [List.length_set,List.length_set]; exact I.len,fun j w hm z=>?_,fun j w hm z=>?_,fun j k w u b m1 m2 z1 z2 y1 y2=>?_,I.sub,I.frame,I.s0,I.grow,fun b z=>?_,fun p hp=>?_,fun j w hm z=>?_,I.fzp,fun p hp=>?_,I.ntp⟩
 ·rcases look j w z with ⟨rfl,rfl,y⟩ | ⟨q,z,y⟩
  ·rcases h with ⟨_,r⟩ | ⟨hm',_⟩
   ·exact ⟨x,y,r⟩
   ·rw [hm] at hm'; cases hm'
  ·rw [y]; exact I.imm j w hm z
 ·rcases look j w z with ⟨rfl,rfl,y⟩ | ⟨q,z,y⟩
  ·rcases h with ⟨hm',_⟩ | ⟨_,a,rfl,o,h0,_,_⟩
   ·exact absurd hm' hm
   ·exact ⟨a,y,o,.inr h0⟩
  ·rw [y]; exact I.own j w hm z
 ·rcases look j w z1 with ⟨p1,p2,p3⟩ | ⟨p1,p2,p3⟩
  ·rcases look k u z2 with ⟨q1,q2,q3⟩ | ⟨q1,q2,q3⟩
   ·rw [p1,q1]
   ·rcases h with ⟨hm',_⟩ | ⟨_,a,rfl,_,_,_,n⟩
    ·rw [p1] at m1; exact absurd hm' m1
    ·rw [p3] at y1; cases y1
     rw [q3] at y2
     exact absurd y2 (n k u q1 m2 q2)
  ·rw [p3] at y1
   rcases look k u z2 with ⟨q1,q2,q3⟩ | ⟨q1,q2,q3⟩
   ·rcases h with ⟨hm',_⟩ | ⟨_,a,rfl,_,_,_,n⟩
    ·rw [q1] at m2; exact absurd hm' m2
    ·rw [q3] at y2; cases y2
     exact absurd y1 (n j w p1 m1 p2)
   ·rw [q3] at y2
    exact I.dis j k w u b m1 m2 p2 q2 y1 y2
 ·obtain ⟨g1,g2,g3⟩:=I.lent b z
  obtain ⟨f1,f2⟩:=far 0 (Ne.symm (ni b z))
  rw [f1,f2]; exact ⟨g1,g2,g3⟩
 ·obtain ⟨g1,g2,g4⟩:=I.fzs p hp
  obtain ⟨f1,f2⟩:=far p.1 fun y=>nf (by rw [← y]; exact g1)
  rw [f1,f2]; exact ⟨g1,g2,g4⟩
 ·rcases look j w z with ⟨rfl,_,_⟩ | ⟨_,z,_⟩
  ·exact absurd hm nf
  ·exact I.fzm j w hm z
 ·obtain ⟨g1,g2,g3⟩:=I.prs p hp
  refine ⟨g1,g2,fun j w hm z=>?_⟩
  rcases look j w z with ⟨q1,q2,q3⟩ | ⟨q1,q2,q3⟩
  ·rcases h with ⟨hm',_⟩ | ⟨_,a,rfl,_,_,n,_⟩
   ·rw [q1,hm'] at hm; cases hm
   ·rw [q3]; exact fun y=>n p hp (by cases y; rfl)
  ·rw [q3]; exact g3 j w hm q2
theorem Iv.tup (I:Iv K c md L σ S H) {b:Addr} {xs:List V} (h:H b=some (.tup xs)):Iv K c md L σ (upd S b (.tup xs)) H∧Same S (upd S b (.tup xs)):=by
 have s:Same S (upd S b (.tup xs)):=fun a o e=>by
  by_cases z:a=b
  ·subst z; rw [I.sub _ _ e] at h; rw [h,a0f]
  ·rw [a0e z]; exact e
 refine ⟨I.go3 s (fun a o e=>?_) (fun a o e=>?_) fun a o e=>e,s⟩
 ·by_cases z:a=b
  ·subst z; rw [a0f] at e; rw [← e]; exact h
  ·rw [a0e z] at e; exact I.sub a o e
 ·by_cases z:a=b
  ·subst z; rw [a0f] at e; cases e; exact .inr (.inr rfl)
  ·rw [a0e z] at e; exact .inl e
end
end Kq
end
section
namespace Kq
noncomputable def b4q {α β:Type} (f:α→Option β):List α→Option (List β)
 | []=>some []
 | x :: xs=>(f x).bind fun y=>(b4q f xs).map (y :: ·)
noncomputable def fD:Nat→FV→Option D
 | 0,_=>none
 | n + 1,v=>match v with
  | .non=>some .non
  | .bl b=>some (.bl b)
  | .int i=>some (.int i)
  | .str x=>some (.str x)
  | .tup xs=>(b4q (fD n) xs).map .tup
  | .lst xs=>(b4q (fD n) xs).map .lst
  | .scr _=>none
  | .shn _=>none
  | .dct _ _=>none
  | .dci _ _=>none
  | .dcz _ _ _=>none
noncomputable def a1c:Nat:=40
noncomputable def b9a:FV→Option Bool
 | .non=>some false
 | .bl b=>some b
 | .int i=>some (i != 0)
 | .str _=>none
 | .tup xs=>some (!xs.isEmpty)
 | .lst xs=>some (!xs.isEmpty)
 | .scr xs=>some (!xs.isEmpty)
 | .shn _=>none
 | .dct _ _=>none
 | .dci _ _=>none
 | .dcz _ _ _=>none
noncomputable def a5b:FV→Option Int | .int i=>some i | _=>none
noncomputable def blF:FV→Option Bool | .bl b=>some b | _=>none
noncomputable def a7c:FV→Option (List FV) | .tup xs=>some xs | _=>none
noncomputable def a7g:FV→Option (List FV) | .lst xs=>some xs | _=>none
noncomputable def a2c (i:Int):Bool:=decide (-(2 ^ 64) < i∧i < 2 ^ 64)
noncomputable def a1r (i:Int):Bool:=decide (-(2 ^ 62)≤i∧i < 2 ^ 62)
noncomputable def b0r (i:Int):Bool:=decide (-(2 ^ 40)≤i∧i≤2 ^ 40)
noncomputable def eqD (a b:FV):Option Bool:=(fD a1c a).bind fun x=>(fD a1c b).bind fun y=>some (D.eqv x y)
noncomputable def eqF (a b:FV):Option Bool:=match a,b with
 | .shn x,.shn y=>open Classical in if x=y then some true else none
 | a,b=>eqD a b
noncomputable def inD:D→D→Option Bool
 | x,.lst xs=>some (xs.any fun y=>D.eqv y x)
 | x,.tup xs=>some (xs.any fun y=>D.eqv y x)
 | _,_=>none
noncomputable def inF (a b:FV):Option Bool:=(fD a1c a).bind fun x=>(fD a1c b).bind fun y=>inD x y
noncomputable def a0r:List FV→Option (List Int)
 | []=>some []
 | .int i :: r=>(a0r r).map (i :: ·)
 | _=>none
noncomputable def a4v:List FV→Option (List Bool)
 | []=>some []
 | .bl b :: r=>(a4v r).map (b :: ·)
 | _=>none
noncomputable def c6t:List FV→Option (List (List Int))
 | []=>some []
 | .tup xs :: r=>(a0r xs).bind fun t=>(c6t r).map (t :: ·)
 | _=>none
noncomputable def lexLt:List Int→List Int→Bool
 | [],[]=>false
 | [],_ :: _=>true
 | _ :: _,[]=>false
 | a :: r,b :: q=>if a=b then lexLt r q else decide (a < b)
noncomputable def lexLe:List Int→List Int→Bool
 | [],[]=>true
 | [],_ :: _=>true
 | _ :: _,[]=>false
 | a :: r,b :: q=>if a=b then lexLe r q else decide (a≤b)
noncomputable def a3h (f:Int→Int→Option FV) (v w:FV):Option FV:=(a5b v).bind fun i=>(a5b w).bind fun j=>f i j
noncomputable def a4c (v w:FV):Option FV:=match v with
 | .tup xs=>(a7c w).bind fun ys=>if xs.length + ys.length≤big then some (.tup (xs++ys)) else none
 | .lst xs=>(a7g w).bind fun ys=>if xs.length + ys.length≤big then some (.lst (xs++ys)) else none
 | v=>a3h (fun i j=>some (.int (i + j))) v w
noncomputable def c6k:FV→FV→Option FV:=a3h fun i j=>some (.int (i - j))
noncomputable def b4p (v w:FV):Option FV:=match v with
 | .lst xs=>(a5b w).bind fun k=>if -(2 ^ 63)≤k∧k < 2 ^ 63∧xs.length * k.toNat≤big then some (.lst (List.replicate k.toNat xs).flatten) else none
 | v=>a3h (fun i j=>if (a2c i || a2c j)=true then some (.int (i * j)) else none) v w
noncomputable def b7g:FV→FV→Option FV:=a3h fun i j=>if 0 < j∧j < 1073741824 then some (.int (i / j)) else none
noncomputable def c0f:FV→FV→Option FV:=a3h fun i j=>if 0 < j then some (.int (i % j)) else none
noncomputable def c8d:FV→FV→Option FV:=a3h fun i j=>if 0≤j∧j≤1000∧a2c i=true then some (.int (i ^ j.toNat)) else none
noncomputable def eqB (a b:FV):Option FV:=(eqF a b).map .bl
noncomputable def neB (a b:FV):Option FV:=(eqF a b).map fun r=>.bl (!r)
noncomputable def inB (a b:FV):Option FV:=(inF a b).map .bl
noncomputable def niB (a b:FV):Option FV:=(inF a b).map fun r=>.bl (!r)
noncomputable def ltB (v w:FV):Option FV:=match v with
 | .tup xs=>(a7c w).bind fun ys=>(a0r xs).bind fun a=>(a0r ys).bind fun b=>some (.bl (lexLt a b))
 | v=>a3h (fun i j=>some (.bl (decide (i < j)))) v w
noncomputable def leB (v w:FV):Option FV:=match v with
 | .tup xs=>(a7c w).bind fun ys=>(a0r xs).bind fun a=>(a0r ys).bind fun b=>some (.bl (lexLe a b))
 | v=>a3h (fun i j=>some (.bl (decide (i≤j)))) v w
noncomputable def gtB:FV→FV→Option FV:=a3h fun i j=>some (.bl (decide (j < i)))
noncomputable def geB:FV→FV→Option FV:=a3h fun i j=>some (.bl (decide (j≤i)))
noncomputable def ixN (n:Nat) (i:Int):Option Nat:=if 0≤i then (if i < n then some i.toNat else none) else if -(n:Int)≤i then some (i + n).toNat else none
noncomputable def atF (xs:List FV) (i:Int):Option FV:=(ixN xs.length i).bind fun j=>xs[j]?
noncomputable def ixF (v w:FV):Option FV:=(a5b w).bind fun j=>(a4z v).bind fun xs=>atF xs j
noncomputable def b3v:FV→FV→Option FV:=a3h fun i j=>some (.int (if j < i then j else i))
noncomputable def b6i:FV→FV→Option FV:=a3h fun i j=>some (.int (if j > i then j else i))
noncomputable def a2m:FV→Option FV | .non=>some (.bl true) | _=>some (.bl false)
noncomputable def a0q:FV→Option FV | .non=>some (.bl false) | _=>some (.bl true)
noncomputable def isBlF (c:Bool):FV→Option FV | .bl b=>some (.bl (b == c)) | _=>some (.bl false)
noncomputable def notBlF (c:Bool):FV→Option FV | .bl b=>some (.bl (b != c)) | _=>some (.bl true)
noncomputable def d1k (v:FV):Option FV:=(blF v).map fun b=>.bl (!b)
noncomputable def d4s (v:FV):Option FV:=(a5b v).map fun i=>.int (-i)
noncomputable def turnF (v:FV):Option FV:=(a7c v).map fun xs=>.tup xs.reverse
noncomputable def a7h (v:FV):Option FV:=(a4z v).map fun xs=>.int xs.length
noncomputable def d1c (v:FV):Option FV:=(a5b v).map fun i=>.int (if i < 0 then -i else i)
noncomputable def b1o:FV→Option FV | .int i=>some (.int i) | .bl b=>some (.int (if b then 1 else 0)) | _=>none
noncomputable def d1e (xs:List FV):Option Int:=(a0r xs).bind fun ns=>if ns.length≤big∧ns.all b0r=true then some ns.sum else none
noncomputable def c6y (v:FV):Option FV:=(a1v v).bind fun xs=>(d1e xs).map .int
noncomputable def c6n (v:FV):Option FV:=(a1v v).bind fun xs=>(a4v xs).map fun bs=>.bl (bs.all id)
noncomputable def c2p (v:FV):Option FV:=(a1v v).bind fun xs=>(a4v xs).map fun bs=>.bl (bs.any id)
noncomputable def c2j (b:Int):List Int→Int
 | []=>b
 | x :: r=>c2j (if x < b then x else b) r
noncomputable def c2i (b:List Int):List (List Int)→List Int
 | []=>b
 | x :: r=>c2i (if lexLt x b=true then x else b) r
noncomputable def minI (xs:List FV):Option FV:=(a0r xs).bind fun ns=>match ns with
 | n :: r=>some (.int (c2j n r))
 | []=>none
noncomputable def minT (xs:List FV):Option FV:=(c6t xs).bind fun ns=>match ns with
 | n :: r=>some (.tup ((c2i n r).map .int))
 | []=>none
noncomputable def minTF (v:FV):Option FV:=(a1v v).bind minT
noncomputable def a2l (v:FV):Option FV:=(a4z v).map .tup
noncomputable def a3g (v:FV):Option FV:=(a4z v).map .lst
noncomputable def d3f (v:FV):Option FV:=(fD a1c v).bind fun d=>if d.fit=true∧d.wt≤big then some (.shn d) else none
noncomputable def c3e (v:FV):Option FV:=match v with
 | .non=>some (.str "None")
 | .bl b=>some (.str (if b then "True" else "False"))
 | .str x=>some (.str x)
 | .int i=>if -(2 ^ 150) < i∧i < 2 ^ 150 then some (.str (toString i)) else none
 | .tup xs=>d3f (.tup xs)
 | .lst xs=>d3f (.lst xs)
 | .scr _=>none | .shn _=>none | .dct _ _=>none | .dci _ _=>none | .dcz _ _ _=>none
inductive Ty where | int | bool | str | list | tuple
 deriving DecidableEq
noncomputable def a6j:FV→Ty→Option Bool
 | .non,_=>some false
 | .bl _,t=>some (t == .int || t == .bool)
 | .int _,t=>some (t == .int)
 | .str _,t=>some (t == .str)
 | .tup _,t=>some (t == .tuple)
 | .lst _,t=>some (t == .list)
 | .scr _,_=>none
 | .shn _,t=>some (t == .str)
 | .dct _ _,_=>none
 | .dci _ _,_=>none
 | .dcz _ _ _,_=>none
noncomputable def b8u (t:Ty) (v:FV):Option FV:=(a6j v t).map .bl
noncomputable def isi2F (t u:Ty) (v:FV):Option FV:=(a6j v t).bind fun a=>(a6j v u).map fun b=>.bl (a || b)
noncomputable def sIx (n d:Nat):Option Int→Nat
 | none=>d
 | some v=>if v < 0 then (v + n).toNat else min v.toNat n
noncomputable def b4i {α:Type} (xs:List α) (lo hi:Option Int):List α:=(xs.drop (sIx xs.length 0 lo)).take (sIx xs.length xs.length hi - sIx xs.length 0 lo)
noncomputable def a6b (v:FV) (lo hi:Option Int):Option FV:=match v with
 | .tup xs=>some (.tup (b4i xs lo hi))
 | .lst xs=>some (.lst (b4i xs lo hi))
 | _=>none
abbrev EW:=a0d→(FV→a0d→Prop)→Prop
abbrev BW:=a0d→(Bool→a0d→Prop)→Prop
abbrev AW:=a0d→(List FV→a0d→Prop)→Prop
abbrev OW:=a0d→(Option Int→a0d→Prop)→Prop
noncomputable def a0b (i:Nat):EW:=fun L Q=>wp (lk L i) fun x=>Q x L
noncomputable def eC (v:FV):EW:=fun L Q=>Q v L
noncomputable def eUn (f:FV→Option FV) (a:EW):EW:=fun L Q=>a L fun x L1=>wp (f x) fun z=>Q z L1
noncomputable def eOp (f:FV→FV→Option FV) (a b:EW):EW:=fun L Q=>a L fun x L1=>b L1 fun y L2=>wp (f x y) fun z=>Q z L2
noncomputable def a6z (f:FV→FV→Option FV) (i:Nat) (b:EW):EW:=fun L Q=>wp (lk L i) fun _=>b L fun y L1=>wp (lk L1 i) fun x=>wp (f x y) fun z=>Q z L1
noncomputable def eChain (f g:FV→FV→Option FV) (a b c:EW):EW:=fun L Q=>a L fun x L1=>b L1 fun y L2=>wp (f x y) fun r=>wp (blF r) fun r=>if r=true then c L2 fun z L3=>wp (g y z) fun q=>Q q L3 else Q (.bl false) L2
noncomputable def c5r (a b:EW):EW:=fun L Q=>a L fun x L1=>wp (b9a x) fun r=>if r=true then b L1 Q else Q x L1
noncomputable def eOr (a b:EW):EW:=fun L Q=>a L fun x L1=>wp (b9a x) fun r=>if r=true then Q x L1 else b L1 Q
noncomputable def eIf (c:BW) (a b:EW):EW:=fun L Q=>c L fun r L1=>if r=true then a L1 Q else b L1 Q
noncomputable def a1o (a:EW):BW:=fun L Q=>a L fun x L1=>wp (b9a x) fun b=>Q b L1
noncomputable def c2o (a b:BW):BW:=fun L Q=>a L fun r L1=>if r=true then b L1 Q else Q false L1
noncomputable def bOr (a b:BW):BW:=fun L Q=>a L fun r L1=>if r=true then Q true L1 else b L1 Q
noncomputable def b4t (a:BW):BW:=fun L Q=>a L fun r L1=>Q (!r) L1
noncomputable def a1s:BW:=fun L Q=>Q true L
noncomputable def a0i:AW:=fun L Q=>Q [] L
noncomputable def a0a (a:EW) (r:AW):AW:=fun L Q=>a L fun x L1=>r L1 fun xs L2=>Q (x :: xs) L2
noncomputable def a3b (a:AW):EW:=fun L Q=>a L fun xs L1=>xs.length≤big∧Q (.tup xs) L1
noncomputable def a6u (a:AW):EW:=fun L Q=>a L fun xs L1=>xs.length≤big∧Q (.lst xs) L1
noncomputable def c0d:OW:=fun L Q=>Q none L
noncomputable def c0c (a:EW):OW:=fun L Q=>a L fun x L1=>wp (a5b x) fun i=>Q (some i) L1
noncomputable def eSl (a:EW) (l h:OW):EW:=fun L Q=>a L fun x L1=>l L1 fun i L2=>h L2 fun j L3=>wp (a6b x i j) fun z=>Q z L3
noncomputable def d0m (k:Nat) (l h:OW):EW:=fun L Q=>wp (lk L k) fun _=>l L fun i L2=>h L2 fun j L3=>wp (lk L3 k) fun x=>wp (a6b x i j) fun z=>Q z L3
abbrev CW:=Nat→List FV→(FV×FV→Prop)→Prop
noncomputable def a1l (call:CW) (f:Nat) (a:AW):EW:=fun L Q=>a L fun xs L1=>call f xs fun z=>Q z.1 L1
noncomputable def a0g (call:CW) (f i:Nat) (a:AW):EW:=fun L Q=>wp (lk L i) fun _=>a L fun xs L1=>wp (lk L1 i) fun x=>call f (x :: xs) fun z=>Q z.1 (L1.set i (some z.2))
noncomputable def d1a (v y:FV):Option FV:=(a7g v).bind fun xs=>if xs.length < big then some (.lst (xs++[y])) else none
noncomputable def nscF:FV→Option (List FV) | .tup xs=>some xs | .lst xs=>some xs | _=>none
noncomputable def extF (v y:FV):Option FV:=(a7g v).bind fun xs=>(nscF y).bind fun ys=>if xs.length + ys.length≤big then some (.lst (xs++ys)) else none
noncomputable def b7m (f:FV→FV→Option FV) (i:Nat) (a:EW):EW:=fun L Q=>wp (lk L i) fun v=>wp (a7g v) fun _=>a L fun y L1=>wp (lk L1 i) fun x=>wp (f x y) fun z=>Q .non (L1.set i (some z))
noncomputable def upF (lo:Int):Nat→List FV
 | 0=>[]
 | n + 1=>.int lo :: upF (lo + 1) n
noncomputable def a3p (xs ys:List FV):List FV:=xs.zipWith (fun p q=>.tup [p,q]) ys
noncomputable def b2v (a:EW):AW:=fun L Q=>a L fun x L1=>wp (a4z x) fun xs=>Q xs L1
noncomputable def a8r (a:EW):AW:=fun L Q=>a L fun x L1=>wp (a5b x) fun j=>a1r j=true∧Q (upF 0 j.toNat) L1
noncomputable def iRng2 (a b:EW):AW:=fun L Q=>a L fun x L1=>b L1 fun y L2=>wp (a5b x) fun i=>wp (a5b y) fun j=>(a1r i && a1r j)=true∧Q (upF i (j - i).toNat) L2
noncomputable def c6m (a b:EW):AW:=fun L Q=>a L fun x L1=>b L1 fun y L2=>wp (a4z x) fun xs=>wp (a4z y) fun ys=>Q (a3p xs ys) L2
noncomputable def b7a (a:EW):AW:=fun L Q=>a L fun x L1=>wp (a4z x) fun xs=>Q (a3p (upF 0 xs.length) xs) L1
inductive Tg where | nm (i:Nat) | tp (is:List Nat) | tn (i:Nat) (is:List Nat)
noncomputable def d4k:List FV→Option (FV×FV) | [a,b]=>some (a,b) | _=>none
noncomputable def a7z:a0d→List Nat→List FV→Option a0d
 | L,[],[]=>some L
 | L,i :: is,v :: vs=>a7z (L.set i (some v)) is vs
 | _,_,_=>none
noncomputable def gW (tg:Tg) (v:FV) (L:a0d) (Q:a0d→Prop):Prop:=match tg with
 | .nm i=>Q (L.set i (some v))
 | .tp is=>wp (a7c v) fun xs=>wp (a7z L is xs) Q
 | .tn i is=>wp (a7c v) fun xs=>wp (d4k xs) fun p=>wp (a7c p.2) fun ys=>wp (a7z (L.set i (some p.1)) is ys) Q
noncomputable def a5m (n m:Nat) (tg:Tg) (t:BW) (e:EW):List FV→List FV→a0d→(List FV→a0d→Prop)→Prop
 | [],acc,L,Q=>Q acc L
 | x :: xs,acc,L,Q=>gW tg x (L++List.replicate m none) fun L1=>t L1 fun b L2=>if b=true then e L2 fun v L3=>a5m n m tg t e xs (acc++[v]) (L3.take n) Q else a5m n m tg t e xs acc (L2.take n) Q
noncomputable def a1t (n m:Nat) (it:AW) (tg:Tg) (t:BW) (e:EW):EW:=fun L Q=>it L fun xs L1=>L1.length=n∧xs.length≤big∧a5m n m tg t e xs [] L1 fun ys L2=>Q (.lst ys) L2
inductive FFl where | next | ret (v:FV) | brk | cont
abbrev SW:=a0d→(FFl→a0d→Prop)→Prop
noncomputable def aft (k:a0d→Prop) (Q:FFl→a0d→Prop):FFl→a0d→Prop
 | .next,L=>k L
 | .ret v,L=>Q (.ret v) L
 | .brk,L=>Q .brk L
 | .cont,L=>Q .cont L
noncomputable def a5a:SW:=fun L Q=>Q .next L
noncomputable def a0x (s r:SW):SW:=fun L Q=>s L (aft (fun L1=>r L1 Q) Q)
noncomputable def a1j (e:EW) (tg:Tg):SW:=fun L Q=>e L fun x L1=>gW tg x L1 fun L2=>Q .next L2
noncomputable def d3g (v j x:FV):Option FV:=(a7g v).bind fun xs=>(a5b j).bind fun n=>(ixN xs.length n).map fun p=>.lst (xs.set p x)
noncomputable def c1v (k:Nat) (i e:EW):SW:=fun L Q=>wp (lk L k) fun _=>e L fun x L1=>i L1 fun j L2=>wp (lk L2 k) fun y=>wp (d3g y j x) fun z=>Q .next (L2.set k (some z))
noncomputable def sAug (f:FV→FV→Option FV) (i:Nat) (e:EW):SW:=fun L Q=>wp (lk L i) fun a=>e L fun x L1=>wp (f a x) fun z=>Q .next (L1.set i (some z))
noncomputable def a1n (e:EW):SW:=fun L Q=>e L fun x L1=>Q (.ret x) L1
noncomputable def sRetN:SW:=fun L Q=>Q (.ret .non) L
noncomputable def c3j (e:EW):SW:=fun L Q=>e L fun _ L1=>Q .next L1
noncomputable def sIf (c:BW) (a b:SW):SW:=fun L Q=>c L fun r L1=>if r=true then a L1 Q else b L1 Q
noncomputable def sBrk:SW:=fun L Q=>Q .brk L
noncomputable def sCont:SW:=fun L Q=>Q .cont L
noncomputable def b0k (k:a0d→Prop) (Q:FFl→a0d→Prop):FFl→a0d→Prop
 | .next,L=>k L
 | .cont,L=>k L
 | .brk,L=>Q .next L
 | .ret v,L=>Q (.ret v) L
noncomputable def c5n (tg:Tg) (b:SW):List FV→a0d→(FFl→a0d→Prop)→Prop
 | [],L,Q=>Q .next L
 | x :: xs,L,Q=>gW tg x L fun L1=>b L1 (b0k (fun L2=>c5n tg b xs L2 Q) Q)
noncomputable def a8u (it:AW) (tg:Tg) (b:SW):SW:=fun L Q=>it L fun xs L1=>c5n tg b xs L1 Q
noncomputable def c6h (c:BW) (b:SW):Nat→a0d→(FFl→a0d→Prop)→Prop
 | 0,_,_=>False
 | n + 1,L,Q=>c L fun r L1=>if r=true then b L1 (b0k (fun L2=>c6h c b n L2 Q) Q) else Q .next L1
noncomputable def c7g (c:BW) (b:SW):SW:=fun L Q=>∃ n,c6h c b n L Q
structure FD where
 np:Nat
 ns:Nat
 body:CW→SW
 io:Bool
 fr:Bool
noncomputable def b8v (io fr:Bool) (Q:FV×FV→Prop):FFl→a0d→Prop
 | .ret v,L=>match io with
  | true=>wp (lk L 0) fun x=>Q (v,x)
  | false=>Q (v,.non)
 | .next,L=>match fr with
  | true=>False
  | false=>match io with
   | true=>wp (lk L 0) fun x=>Q (.non,x)
   | false=>Q (.non,.non)
 | _,_=>False
noncomputable def callW (tb:List FD):Nat→CW
 | 0,_,_,_=>False
 | d + 1,f,args,Q=>match tb[f]? with
  | none=>False
  | some fd=>args.length=fd.np∧fd.body (callW tb d) (args.map some++List.replicate (fd.ns - fd.np) none) (b8v fd.io fd.fr Q)
end Kq
end
section
namespace Kq
open PySem PySem.Spec PyProof.Rows L2
theorem a9h {x y:String} (h:Γe x=Γe y):x=y:=by
 rw [Str.ofString_eq_toList,Str.ofString_eq_toList] at h
 have h2:x.toList.map Char.toNat=y.toList.map Char.toNat:=by
  injection h with h
  simpa using congrArg Array.toList h
 have inj:∀ (a b:List Char),a.map Char.toNat=b.map Char.toNat→a=b:=by
  intro a
  induction a with
  | nil=>intro b hb; cases b <;> simp_all
  | cons c a ih =>
   intro b hb
   cases b with
   | nil=>simp at hb
   | cons d b =>
    simp only [List.map_cons,List.cons.injEq] at hb
    rw [ih b hb.2,Char.toNat_inj.mp hb.1]
 exact String.toList_inj.mp (inj _ _ h2)
theorem c7b (a b:String):(Γe a == Γe b)=(a == b):=by
 rw [Bool.eq_iff_iff]
 simp only [beq_iff_eq]
 exact ⟨a9h,fun h=>by rw [h]⟩
theorem c6z (x:String):PyData.strOk (Γe x)=true:=by
 rw [Str.ofString_eq_toList]
 unfold PyData.strOk
 simp only [List.all_toArray,List.all_map,List.all_eq_true,Function.comp_apply,decide_eq_true_eq]
 intro c _
 have h:c.val.toNat < 0xd800 ∨ (0xdfff < c.val.toNat∧c.val.toNat < 0x110000):=c.valid
 show c.val.toNat < 1114112
 lia
mutual
theorem a5r:∀ d:D,(dPy d).canLay0=true
 | .non=>rfl
 | .bl _=>rfl
 | .int _=>rfl
 | .str x=>by simp only [dPy,PyData.canLay0]; exact c6z x
 | .tup xs=>by simp only [dPy,PyData.canLay0]; exact a6p xs
 | .lst xs=>by simp only [dPy,PyData.canLay0]; exact a6p xs
theorem a6p:∀ xs:List D,PyData.canLayAll0 (a4u xs)=true
 | []=>rfl
 | x :: xs=>by simp only [a4u,PyData.canLayAll0,a5r x,a6p xs,Bool.and_self]
end
mutual
theorem b8c:∀ a b:D,PyData.eqv (dPy a) (dPy b)=D.eqv a b
 | .non,b=>by cases b <;> simp only [dPy,PyData.eqv,D.eqv]
 | .bl _,b=>by cases b <;> simp only [dPy,PyData.eqv,D.eqv]
 | .int _,b=>by cases b <;> simp only [dPy,PyData.eqv,D.eqv]
 | .str x,b=>by cases b <;> simp only [dPy,PyData.eqv,D.eqv,c7b]
 | .tup xs,b=>by cases b <;> simp only [dPy,PyData.eqv,D.eqv,b8b]
 | .lst xs,b=>by cases b <;> simp only [dPy,PyData.eqv,D.eqv,b8b]
theorem b8b:∀ a b:List D,PyData.eqvAll (a4u a) (a4u b)=D.eqvs a b
 | [],b=>by cases b <;> simp only [a4u,PyData.eqvAll,D.eqvs]
 | x :: xs,b=>by cases b <;> simp only [a4u,PyData.eqvAll,D.eqvs,b8c,b8b]
end
theorem b8d (x:D):∀ xs:List D,((a4u xs).any fun y=>PyData.eqv y (dPy x))=xs.any fun y=>D.eqv y x
 | []=>rfl
 | y :: r=>by simp only [a4u,List.any_cons,b8c,b8d x r]
mutual
theorem b3g:∀ d:D,(dPy d).hasDict=false
 | .non=>rfl
 | .bl _=>rfl
 | .int _=>rfl
 | .str x=>rfl
 | .tup xs=>by simp only [dPy,PyData.hasDict]; exact a6o xs
 | .lst xs=>by simp only [dPy,PyData.hasDict]; exact a6o xs
theorem a6o:∀ xs:List D,PyData.hasDictAll (a4u xs)=false
 | []=>rfl
 | x :: xs=>by simp only [a4u,PyData.hasDictAll,b3g x,a6o xs,Bool.or_self]
end
theorem log2_lt {i:Int} {k:Nat} (hk:0 < k) (h:-(2 ^ k:Int) < i∧i < 2 ^ k):i.natAbs.log2 < k:=by
 by_cases h0:i.natAbs=0
 ·rw [h0]; simpa using hk
 ·rw [Nat.log2_lt h0]
  have e:((2 ^ k:Nat):Int)=(2:Int) ^ k:=by rw [Int.natCast_pow]; rfl
  lia
mutual
theorem c5w:∀ d:D,d.fit=true→(dPy d).showable=true∧(dPy d).intsShort 160=true∧(dPy d).weight≤d.wt
 | .non,_=>⟨rfl,rfl,Nat.le_refl _⟩
 | .bl _,_=>⟨rfl,rfl,Nat.le_refl _⟩
 | .int i,h=>by
  have h:-(2 ^ 150:Int) < i∧i < 2 ^ 150:=by simpa [D.fit] using h
  have l1:=log2_lt (k:=150) (by decide) h
  refine ⟨?_,?_,?_⟩
  ·simp only [dPy,PyData.showable,decide_eq_true_eq]; lia
  ·simp only [dPy,PyData.intsShort,decide_eq_true_eq]
   have e:=int_text_length_le (k:=150) (by decide) l1
   show (Γe (toString i)).length≤160
   rw [PySem.ofString_length]; lia
  ·simp only [dPy,PyData.weight,D.wt]
   split
   ·lia
   ·split
    ·rename_i hs
     have l2:=log2_lt (k:=40) (by decide) hs
     lia
    ·lia
 | .str x,_=>by
  refine ⟨rfl,rfl,?_⟩
  simp only [dPy,PyData.weight,D.wt]
  have:(Γe x).length=x.length:=PySem.ofString_length x
  exact Nat.le_of_eq this
 | .tup xs,h=>by
  obtain ⟨h1,h2,h3⟩:=b8a xs (by simpa only [D.fit] using h)
  exact ⟨by simpa only [dPy,PyData.showable] using h1,by simpa only [dPy,PyData.intsShort] using h2,by simpa only [dPy,PyData.weight,D.wt] using h3⟩
 | .lst xs,h=>by
  obtain ⟨h1,h2,h3⟩:=b8a xs (by simpa only [D.fit] using h)
  exact ⟨by simpa only [dPy,PyData.showable] using h1,by simpa only [dPy,PyData.intsShort] using h2,by simpa only [dPy,PyData.weight,D.wt] using h3⟩
theorem b8a:∀ xs:List D,D.fits xs=true→PyData.showableAll (a4u xs)=true∧PyData.intsShortAll 160 (a4u xs)=true∧PyData.weightAll (a4u xs)≤D.wts xs
 | [],_=>⟨rfl,rfl,Nat.le_refl _⟩
 | x :: xs,h=>by
  have h:x.fit=true∧D.fits xs=true:=by simpa only [D.fits,Bool.and_eq_true] using h
  obtain ⟨a1,a2,a3⟩:=c5w x h.1
  obtain ⟨b1,b2,b3⟩:=b8a xs h.2
  refine ⟨?_,?_,?_⟩
  ·simp only [a4u,PyData.showableAll,a1,b1,Bool.and_self]
  ·simp only [a4u,PyData.intsShortAll,a2,b2,Bool.and_self]
  ·simp only [a4u,PyData.weightAll,D.wts]; lia
end
theorem c5v {d:D} (h:d.fit=true) (hw:d.wt≤big):(dPy d).shown.length≤sizeLine:=by
 obtain ⟨_,h2,h3⟩:=c5w d h
 have:=PyData.shown_le 160 (by decide) (dPy d) (PyData.leavesShort_of_canLay0 160 _ (a5r d) h2)
 unfold big at hw
 have e:sizeLine=16777216:=rfl
 lia
theorem bnd {α β:Type} {o:Option α} {f:α→Option β} {z:β} (h:o.bind f=some z):∃ a,o=some a∧f a=some z:=Option.bind_eq_some_iff.mp h
theorem mpd {α β:Type} {o:Option α} {f:α→β} {z:β} (h:o.map f=some z):∃ a,o=some a∧f a=z:=Option.map_eq_some_iff.mp h
theorem itd {α:Type} {c:Prop} [Decidable c] {a b:α} (h:(if c then some a else none)=some b):c∧a=b:=by
 by_cases z:c
 ·rw [if_pos z] at h; exact ⟨z,Option.some.inj h⟩
 ·rw [if_neg z] at h; cases h
theorem a5x:∀ {n:Nat} {p:FV} {d:D},fD n p=some d→(dPy d).depth≤n
 | 0,p,d,h=>by cases h
 | n + 1,p,d,h=>by
  have ds:∀ {ps:List FV} {ds:List D},b4q (fD n) ps=some ds→PyData.depthAll (a4u ds)≤n:=by
   intro ps
   induction ps with
   | nil=>intro ds h; cases h; simp [a4u,PyData.depthAll]
   | cons q ps ih =>
    intro ds h
    obtain ⟨y,e1,h⟩:=bnd h
    obtain ⟨zs,e2,rfl⟩:=mpd h
    simp only [a4u,PyData.depthAll]
    exact Nat.max_le.mpr ⟨a5x e1,ih e2⟩
  cases p with
  | tup ps=>obtain ⟨zs,e,rfl⟩:=mpd (show (b4q (fD n) ps).map D.tup=some d from h); simp only [dPy,PyData.depth]; have:=ds e; lia
  | lst ps=>obtain ⟨zs,e,rfl⟩:=mpd (show (b4q (fD n) ps).map D.lst=some d from h); simp only [dPy,PyData.depth]; have:=ds e; lia
  | non=>cases h; simp [dPy,PyData.depth]
  | bl _=>cases h; simp [dPy,PyData.depth]
  | int _=>cases h; simp [dPy,PyData.depth]
  | str _=>cases h; simp [dPy,PyData.depth]
  | scr _=>cases h
  | shn _=>cases h
  | dct _ _=>cases h
  | dci _ _=>cases h
  | dcz _ _ _=>cases h
section
variable {X:Cx} {pins:List (Addr×Obj)} {σ:L2.St} {S H:Hp} {s:Shared}
noncomputable def d8t (X:Cx) (S:Hp) (s:Shared) (n:Nat):Prop:=∀ (p:FV) (v:V) (u:Value) (d:D),RV X.K S p v→RelV v u→fD n p=some d→∃ as,Reads s.heap u (dPy d) as
theorem a6c {n:Nat} (R:d8t X S s n):∀ {ps:List FV} {vs:List V} {us:List Value} {ds:List D},RVs X.K S ps vs→Vals vs us→b4q (fD n) ps=some ds→∃ as,ReadsAll s.heap us (a4u ds) as
 | [],vs,us,ds,r,q,h=>by
  cases (show vs=[] from r)
  cases q
  cases h
  exact ⟨[],.nil⟩
 | p :: ps,vs,us,ds,r,rq,h=>by
  obtain ⟨v1,vr,rfl,r1,r2⟩:=r
  cases rq with
  | cons q1 q2 =>
   obtain ⟨y,e1,h⟩:=bnd h
   obtain ⟨zs,e2,rfl⟩:=mpd h
   obtain ⟨as,ra⟩:=R _ _ _ _ r1 q1 e1
   obtain ⟨bs,rb⟩:=a6c R r2 q2 e2
   exact ⟨as++bs,.cons ra rb⟩
theorem a9e {n:Nat} (I:Inv X pins σ H s) (R:d8t X S s n) {a:Addr} {xs:List V} {ps:List FV} {d:D} (h1:H a=some (.lst xs)) (h2:RVs X.K S ps xs) (h:(b4q (fD n) ps).map D.lst=some d):∃ as,Reads s.heap (.ref a) (dPy d) as:=by
 obtain ⟨zs,e,rfl⟩:=mpd h
 obtain ⟨its,rr,⟨o,k,e1,e2,e2',e3⟩,_⟩:=I.list (SqL.of h1)
 obtain ⟨as,ra⟩:=a6c R h2 rr e
 exact ⟨a :: as,.list e1 e2 e3 (by simpa using ra)⟩
theorem a8d (I:Inv X pins σ H s) (hs:Same S H):∀ n,d8t X S s n
 | 0,p,v,u,d,_,_,h=>by cases h
 | n + 1,p,v,u,d,rp,rv,h=>by
  have R:=a8d I hs n
  cases p with
  | tup ps =>
   obtain ⟨a,xs,rfl,h1,h2⟩:=rp
   cases (show u=Value.ref a from rv)
   obtain ⟨zs,e,rfl⟩:=mpd (show (b4q (fD n) ps).map D.tup=some d from h)
   obtain ⟨its,rr,⟨o,e1,e2,k,e3⟩,_⟩:=I.tuple (SqT.of (hs _ _ h1))
   obtain ⟨as,ra⟩:=a6c R h2 rr e
   exact ⟨as,.tuple e1 e2 e3 (by simpa using ra)⟩
  | lst ps =>
   obtain ⟨a,xs,rfl,h1,h2⟩:=rp
   cases (show u=Value.ref a from rv)
   exact a9e I R (hs _ _ h1) h2 h
  | non=>cases h; cases (show v=_ from rp); cases (show u=_ from rv); exact ⟨_,.none⟩
  | bl _=>cases h; cases (show v=_ from rp); cases (show u=_ from rv); exact ⟨_,.bool _⟩
  | int _=>cases h; cases (show v=_ from rp); obtain ⟨t,rfl⟩:=rv; exact ⟨_,.int _ _⟩
  | str _=>cases h; cases (show v=_ from rp); obtain ⟨t,rfl⟩:=rv; exact ⟨_,.str _ _⟩
  | scr _=>cases h
  | shn _=>cases h
  | dct _ _=>cases h
  | dci _ _=>cases h
  | dcz _ _ _=>cases h
theorem a4h (I:Inv X pins σ H s) (hs:Same S H) {n:Nat} {p:FV} {v:V} {u:Value} {d:D} (rp:RH X.K S H p v) (rv:RelV v u) (h:fD n p=some d):∃ as,Reads s.heap u (dPy d) as:=by
 rcases rp with rp | ⟨a,rfl,_,ps,xs,e,h1,h2⟩
 ·exact a8d I hs n p v u d rp rv h
 ·cases (show u=Value.ref a from rv)
  cases n with
  | zero=>cases h
  | succ n =>
   cases p with
   | lst qs=>cases e; exact a9e I (a8d I hs n) h1 h2 h
   | dct _ _=>cases h
   | dci _ _=>cases h
   | dcz _ _ _=>cases h
   | _=>cases e
end
theorem a1m:big≤sizeLine:=by decide
theorem a1d {v:FV} {i:Int} (h:a5b v=some i):v=.int i:=by cases v <;> cases h; rfl
theorem d0y {v:FV} {i:Bool} (h:blF v=some i):v=.bl i:=by cases v <;> cases h; rfl
theorem a1q {v:FV} {i:List FV} (h:a7c v=some i):v=.tup i:=by cases v <;> cases h; rfl
theorem a3x {v:FV} {i:List FV} (h:a7g v=some i):v=.lst i:=by cases v <;> cases h; rfl
structure NewOr (K:Γd) (S H:Hp) (Q:VK) (z:FV):Prop where
 old:∀ x,(∀ ps,z≠.lst ps)→RV K S z x→Q x H
 tup:∀ ps xs p,z=.tup ps→RVs K S ps xs→H p=none→Q (.ref p) (upd H p (.tup xs))
 lst:∀ ps xs p,z=.lst ps→RVs K S ps xs→H p=none→Q (.ref p) (upd H p (.lst xs))
section
variable {X:Cx} {K:Γd} {S H:Hp} {Q:VK}
theorem NewOr.bl {b:Bool} (k:NewOr K S H Q (.bl b)):Q (.bl b) H:=k.old _ (fun _ z=>nomatch z) rfl
theorem NewOr.int {b:Int} (k:NewOr K S H Q (.int b)):Q (.int b) H:=k.old _ (fun _ z=>nomatch z) rfl
theorem NewOr.str {b:String} (k:NewOr K S H Q (.str b)):Q (.str (Γe b)) H:=k.old _ (fun _ z=>nomatch z) rfl
theorem RH.int {i:Int} {x:V} (h:RH K S H (.int i) x):x=.int i:=h.val rfl
theorem RH.bl {i:Bool} {x:V} (h:RH K S H (.bl i) x):x=.bl i:=h.val rfl
noncomputable def Rq (K:Γd) (f:FV→FV→Option FV):R2:=fun x y H Q=>∃ S v w z,Same S H∧RH K S H v x∧RH K S H w y∧f v w=some z∧NewOr K S H Q z
theorem a8e {g:Value→Value→Sem Value} {f:Int→Int→Option FV} {r:R2} (o:OpR X g r) (h:∀ i j z H Q,f i j=some z→(∀ x,(∀ S,RV X.K S z x)→Q x H)→r (.int i) (.int j) H Q) (n:∀ i j z,f i j=some z→∀ ps,z≠.lst ps):OpR X g (Rq X.K (a3h f)):=by
 intro pins s σ H x y u1 u2 Q I rx ry ⟨S,v,w,z,hs,hv,hw,e,k⟩
 obtain ⟨i,e1,e⟩:=bnd e
 obtain ⟨j,e2,e⟩:=bnd e
 cases a1d e1; cases a1d e2
 obtain rfl:=hv.int
 obtain rfl:=hw.int
 exact o pins s σ H _ _ u1 u2 Q I rx ry (h i j z H Q e fun x hx=>k.old x (n i j z e) (hx S))
theorem d3u:OpR X (binaryOp .Sub) (Rq X.K c6k):=a8e c8t (fun i j z H Q e k=>⟨i,j,rfl,rfl,k _ fun S=>by cases e; rfl⟩) fun i j z e ps=>by cases e; exact fun z=>nomatch z
theorem c7r:OpR X (binaryOp .FloorDiv) (Rq X.K b7g):=a8e c4n (fun i j z H Q e k=>⟨i,j,rfl,rfl,(itd e).1,k _ fun S=>by cases (itd e).2; rfl⟩) fun i j z e ps=>by cases (itd e).2; exact fun z=>nomatch z
theorem d3x:OpR X (binaryOp .Mod) (Rq X.K c0f):=a8e c8x (fun i j z H Q e k=>⟨i,j,rfl,rfl,(itd e).1,k _ fun S=>by cases (itd e).2; rfl⟩) fun i j z e ps=>by cases (itd e).2; exact fun z=>nomatch z
theorem d3v:OpR X (binaryOp .Pow) (Rq X.K c8d):=a8e c8v (fun i j z H Q e k=>⟨i,j,rfl,rfl,by
 obtain ⟨h1,h2,h3⟩:=(itd e).1
 have:-(2 ^ 64) < i∧i < 2 ^ 64:=by simpa [a2c] using h3
 exact ⟨h1,by lia,by lia⟩,k _ fun S=>by cases (itd e).2; rfl⟩) fun i j z e ps=>by cases (itd e).2; exact fun z=>nomatch z
theorem q_gt:OpR X (compareOp .Gt) (Rq X.K gtB):=a8e d4n (fun i j z H Q e k=>⟨i,j,rfl,rfl,k _ fun S=>by cases e; rfl⟩) fun i j z e ps=>by cases e; exact fun z=>nomatch z
theorem q_ge:OpR X (compareOp .GtE) (Rq X.K geB):=a8e d4o (fun i j z H Q e k=>⟨i,j,rfl,rfl,k _ fun S=>by cases e; rfl⟩) fun i j z e ps=>by cases e; exact fun z=>nomatch z
theorem c7u:OpR X (binaryOp .Add) (Rq X.K (a3h fun i j=>some (.int (i + j)))):=a8e c9a (fun i j z H Q e k=>⟨i,j,rfl,rfl,k _ fun S=>by cases e; rfl⟩) fun i j z e ps=>by cases e; exact fun z=>nomatch z
theorem c7o:OpR X (binaryOp .Mult) (Rq X.K (a3h fun i j=>if (a2c i || a2c j)=true then some (.int (i * j)) else none)):=a8e c8w (fun i j z H Q e k=>⟨i,j,rfl,rfl,by
 have:=(itd e).1
 simp only [a2c,Bool.or_eq_true,decide_eq_true_eq] at this
 exact this,k _ fun S=>by cases (itd e).2; rfl⟩) fun i j z e ps=>by cases (itd e).2; exact fun z=>nomatch z
theorem d3y:OpR X (compareOp .Lt) (Rq X.K (a3h fun i j=>some (.bl (decide (i < j))))):=a8e d4m (fun i j z H Q e k=>⟨i,j,rfl,rfl,k _ fun S=>by cases e; rfl⟩) fun i j z e ps=>by cases e; exact fun z=>nomatch z
theorem c7t {xs ys:List FV} {x y:V} {z:FV} {pins:List (Addr×Obj)} {σ:L2.St} {s:Shared} {u1 u2:Value} (I:Inv X pins σ H s) (rx:RelV x u1) (ry:RelV y u2) (hs:Same S H) (hv:RH X.K S H (.tup xs) x) (hw:RH X.K S H (.tup ys) y)
  (e:(if xs.length + ys.length≤big then some (FV.tup (xs++ys)) else none)=some z) (k:NewOr X.K S H Q z):wpAny (model X.prog X.w) X.A (binaryOp .Add u1 u2) (EP X pins σ Q) X.xe s:=by
 obtain ⟨hc,rfl⟩:=itd e
 have rv:=hv.val rfl
 have rw':=hw.val rfl
 obtain ⟨a,as,rfl,ha,ra⟩:=hv.tup hs
 obtain ⟨b,bs,rfl,hb,rb⟩:=hw.tup hs
 have l1:=ra.length
 have l2:=rb.length
 have hl:=a1m
 by_cases h0:as=[]
 ·subst h0
  have z2:xs=[]:=List.eq_nil_of_length_eq_zero (by simpa using l1)
  subst z2
  exact c0b pins s σ H _ _ u1 u2 Q I rx ry ⟨a,b,bs,rfl,rfl,SqT.of ha,SqT.of hb,k.old _ (fun _ z=>nomatch z) rw'⟩
 refine c4o pins s σ H _ _ u1 u2 Q I rx ry ⟨a,b,as,bs,rfl,rfl,SqT.of ha,SqT.of hb,h0,by lia,fun z=>?_,fun _ p hp=>k.tup _ _ p rfl (ra.append rb) hp⟩
 subst z
 have z2:ys=[]:=List.eq_nil_of_length_eq_zero (by simpa using l2)
 subst z2
 exact k.old _ (fun _ z=>nomatch z) (by rw [List.append_nil]; exact rv)
theorem d4a:OpR X (binaryOp .Add) (Rq X.K a4c):=by
 intro pins s σ H x y u1 u2 Q I rx ry ⟨S,v,w,z,hs,hv,hw,e,k⟩
 cases v with
 | tup xs =>
  obtain ⟨ys,e1,e⟩:=bnd e
  cases a1q e1
  exact c7t I rx ry hs hv hw e k
 | lst xs =>
  obtain ⟨ys,e1,e⟩:=bnd e
  cases a3x e1
  obtain ⟨hc,rfl⟩:=itd e
  obtain ⟨a,as,rfl,ha,ra⟩:=hv.lst hs
  obtain ⟨b,bs,rfl,hb,rb⟩:=hw.lst hs
  have l1:=ra.length
  have l2:=rb.length
  have hl:=a1m
  exact c8z pins s σ H _ _ u1 u2 Q I rx ry ⟨a,b,as,bs,rfl,rfl,ha,hb,by lia,fun p hp=>k.lst _ _ p rfl (ra.append rb) hp⟩
 | _=>exact c7u pins s σ H x y u1 u2 Q I rx ry ⟨S,_,w,z,hs,hv,hw,e,k⟩
theorem c7p:OpR X (binaryOp .Mult) (Rq X.K b4p):=by
 intro pins s σ H x y u1 u2 Q I rx ry ⟨S,v,w,z,hs,hv,hw,e,k⟩
 cases v with
 | lst xs =>
  obtain ⟨j,e1,e⟩:=bnd e
  cases a1d e1
  obtain ⟨hc,rfl⟩:=itd e
  obtain ⟨a,as,rfl,ha,ra⟩:=hv.lst hs
  obtain rfl:=hw.int
  have l1:=ra.length
  have hl:=a1m
  exact c8u pins s σ H _ _ u1 u2 Q I rx ry ⟨a,j,as,rfl,rfl,ha,hc.1,hc.2.1,by rw [← l1]; lia,fun p hp=>k.lst _ _ p rfl (ra.rep _) hp⟩
 | _=>exact c7o pins s σ H x y u1 u2 Q I rx ry ⟨S,_,w,z,hs,hv,hw,e,k⟩
theorem a2s:∀ {ps:List FV} {xs:List V} {ns:List Int},RVs K S ps xs→a0r ps=some ns→xs=ns.map V.int
 | [],xs,ns,r,e=>by cases (show xs=[] from r); cases e; rfl
 | p :: ps,xs,ns,r,e=>by
  obtain ⟨v,q,rfl,h1,h2⟩:=r
  cases p with
  | int i =>
   obtain ⟨ms,z,rfl⟩:=mpd (show (a0r ps).map (i :: ·)=some ns from e)
   rw [a2s h2 z,List.map_cons,show v=.int i from h1]
  | _=>cases e
theorem a5o:∀ {ps:List FV} {xs:List V} {ns:List Bool},RVs K S ps xs→a4v ps=some ns→xs=ns.map V.bl
 | [],xs,ns,r,e=>by cases (show xs=[] from r); cases e; rfl
 | p :: ps,xs,ns,r,e=>by
  obtain ⟨v,q,rfl,h1,h2⟩:=r
  cases p with
  | bl i =>
   obtain ⟨ms,z,rfl⟩:=mpd (show (a4v ps).map (i :: ·)=some ns from e)
   rw [a5o h2 z,List.map_cons,show v=.bl i from h1]
  | _=>cases e
theorem c2g:∀ a b:List Int,Kq.lexLt a b=HT.lexLt a b
 | [],[]=>by simp [Kq.lexLt,HT.lexLt]
 | [],_ :: _=>by simp [Kq.lexLt,HT.lexLt]
 | _ :: _,[]=>by simp [Kq.lexLt,HT.lexLt]
 | a :: r,b :: q=>by
  simp only [Kq.lexLt,HT.lexLt,c2g r q]
  try (by_cases h:a=b <;> simp [h])
theorem q_lt (hu:X.A.units + 64 < cLine):OpR X (compareOp .Lt) (Rq X.K ltB):=by
 intro pins s σ H x y u1 u2 Q I rx ry ⟨S,v,w,z,hs,hv,hw,e,k⟩
 cases v with
 | tup xs =>
  obtain ⟨ys,e1,e⟩:=bnd e
  cases a1q e1
  obtain ⟨ns,e2,e⟩:=bnd e
  obtain ⟨ms,e3,e⟩:=bnd e
  cases e
  obtain ⟨a,as,rfl,ha,ra⟩:=hv.tup hs
  obtain ⟨b,bs,rfl,hb,rb⟩:=hw.tup hs
  cases a2s ra e2; cases a2s rb e3
  exact c8y (by lia) pins s σ H _ _ u1 u2 Q I rx ry ⟨a,b,ns,ms,rfl,rfl,SqT.of ha,SqT.of hb,by rw [← c2g]; exact k.bl⟩
 | _=>exact d3y pins s σ H x y u1 u2 Q I rx ry ⟨S,_,w,z,hs,hv,hw,e,k⟩
theorem d0j {p q:FV} {b:Bool} (e:eqF p q=some b):(∃ d,p=.shn d∧q=.shn d∧b=true) ∨ ∃ x y,fD a1c p=some x∧fD a1c q=some y∧b=D.eqv x y:=by
 have gen:eqD p q=some b→∃ x y,fD a1c p=some x∧fD a1c q=some y∧b=D.eqv x y:=fun e=>by
  obtain ⟨x,e1,e⟩:=bnd e
  obtain ⟨y,e2,e⟩:=bnd e
  cases e
  exact ⟨x,y,e1,e2,rfl⟩
 unfold eqF at e
 split at e
 ·obtain ⟨rfl,rfl⟩:=@itd _ _ (Classical.propDecidable _) _ _ e
  exact .inl ⟨_,rfl,rfl,rfl⟩
 ·exact .inr (gen e)
theorem c7s (hu:X.A.units + 64 < cLine) (neg:Bool):OpR X (compareOp (if neg then .NotEq else .Eq)) (Rq X.K fun p q=>(eqF p q).map fun r=>.bl (neg != r)):=by
 intro pins s σ H x y v u Q I rx ry ⟨S,p,q,z,hs,rp,rq,e,k⟩
 obtain ⟨b,e',rfl⟩:=mpd (show (eqF p q).map (fun r=>FV.bl (neg != r))=some z from e)
 have fin:=k.bl
 rcases d0j e' with ⟨d,rfl,rfl,rfl⟩ | ⟨dx,dy,e1,e2,rfl⟩
 ·obtain rfl:x=.str (dPy d).shown:=rp.val rfl
  obtain rfl:y=.str (dPy d).shown:=rq.val rfl
  cases neg with
  | false=>exact d4p pins s σ H _ _ v u Q I rx ry ⟨rfl,by simpa using fin⟩
  | true=>exact d4l pins s σ H _ _ v u Q I rx ry ⟨rfl,by simpa using fin⟩
 ·obtain ⟨as,ra⟩:=a4h I hs rp rx e1
  obtain ⟨bs,rb⟩:=a4h I hs rq ry e2
  have hd:X.A.units + min (dPy dx).depth (dPy dy).depth < cLine:=by
   have h1:=a5x e1
   unfold a1c at h1
   lia
  cases neg with
  | false=>exact PySem.SeqAt.compareEq_reads ra rb (a5r dx) (a5r dy) hd ⟨.bl _,H,I,rfl,by rw [b8c]; simpa using fin⟩
  | true=>exact PySem.SeqAt.compareNe_reads ra rb (a5r dx) (a5r dy) hd ⟨.bl _,H,I,rfl,by rw [b8c]; simpa using fin⟩
theorem q_eq (hu:X.A.units + 64 < cLine):OpR X (compareOp .Eq) (Rq X.K eqB):=fun pins s σ H x y v u Q I rx ry ⟨S,p,q,z,hs,rp,rq,e,k⟩=>c7s hu false pins s σ H x y v u Q I rx ry ⟨S,p,q,z,hs,rp,rq,by
 obtain ⟨b,e1,rfl⟩:=mpd e
 show (eqF p q).map _=_
 rw [e1]; cases b <;> rfl,k⟩
theorem q_ne (hu:X.A.units + 64 < cLine):OpR X (compareOp .NotEq) (Rq X.K neB):=fun pins s σ H x y v u Q I rx ry ⟨S,p,q,z,hs,rp,rq,e,k⟩=>c7s hu true pins s σ H x y v u Q I rx ry ⟨S,p,q,z,hs,rp,rq,by
 obtain ⟨b,e1,rfl⟩:=mpd e
 show (eqF p q).map _=_
 rw [e1]; cases b <;> rfl,k⟩
theorem c7q (hu:X.A.units + 64 < cLine) (neg:Bool):OpR X (compareOp (if neg then .NotIn else .In)) (Rq X.K fun p q=>(inF p q).map fun r=>.bl (neg != r)):=by
 intro pins s σ H x y v u Q I rx ry ⟨S,p,q,z,hs,rp,rq,e,k⟩
 obtain ⟨b,e',rfl⟩:=mpd (show (inF p q).map (fun r=>FV.bl (neg != r))=some z from e)
 have fin:=k.bl
 obtain ⟨dx,e1,e'⟩:=bnd e'
 obtain ⟨dy,e2,e'⟩:=bnd e'
 obtain ⟨as,ra⟩:=a4h I hs rp rx e1
 obtain ⟨bs,rb⟩:=a4h I hs rq ry e2
 have hd:∀ ys,X.A.units + 1 + min (PyData.depthAll (a4u ys)) (dPy dx).depth < cLine:=fun ys=>by
  have h1:=a5x e1
  unfold a1c at h1
  lia
 cases dy with
 | lst ys =>
  cases e'
  simp only [dPy] at rb
  cases neg with
  | false=>exact PySem.SeqAt.in_list_reads rb ra (a6p ys) (a5r dx) (hd ys) ⟨.bl _,H,I,rfl,by rw [b8d]; simpa using fin⟩
  | true=>exact PySem.SeqAt.notIn_list_reads rb ra (a6p ys) (a5r dx) (hd ys) ⟨.bl _,H,I,rfl,by rw [b8d]; simpa using fin⟩
 | tup ys =>
  cases e'
  simp only [dPy] at rb
  cases neg with
  | false=>exact PySem.SeqAt.in_tuple_reads rb ra (a6p ys) (a5r dx) (hd ys) ⟨.bl _,H,I,rfl,by rw [b8d]; simpa using fin⟩
  | true=>exact PySem.SeqAt.notIn_tuple_reads rb ra (a6p ys) (a5r dx) (hd ys) ⟨.bl _,H,I,rfl,by rw [b8d]; simpa using fin⟩
 | _=>cases e'
theorem q_in (hu:X.A.units + 64 < cLine):OpR X (compareOp .In) (Rq X.K inB):=fun pins s σ H x y v u Q I rx ry ⟨S,p,q,z,hs,rp,rq,e,k⟩=>c7q hu false pins s σ H x y v u Q I rx ry ⟨S,p,q,z,hs,rp,rq,by
 obtain ⟨b,e1,rfl⟩:=mpd e
 show (inF p q).map _=_
 rw [e1]; cases b <;> rfl,k⟩
theorem q_ni (hu:X.A.units + 64 < cLine):OpR X (compareOp .NotIn) (Rq X.K niB):=fun pins s σ H x y v u Q I rx ry ⟨S,p,q,z,hs,rp,rq,e,k⟩=>c7q hu true pins s σ H x y v u Q I rx ry ⟨S,p,q,z,hs,rp,rq,by
 obtain ⟨b,e1,rfl⟩:=mpd e
 show (inF p q).map _=_
 rw [e1]; cases b <;> rfl,k⟩
theorem c6c {ps:List FV} {xs:List V} {i:Int} {p:FV} (r:RVs K S ps xs) (e:atF ps i=some p):∃ v,L2.atI xs i=some v∧RV K S p v:=by
 obtain ⟨j,e1,e2⟩:=bnd e
 obtain ⟨v,h1,h2⟩:=r.get e2
 refine ⟨v,?_,h2⟩
 show (L2.ixN xs.length i).bind (fun j=>xs[j]?)=some v
 rw [← r.length,show L2.ixN ps.length i=some j from e1]
 exact h1
noncomputable def Ri (K:Γd):R2:=fun x y H Q=>∃ S v w z,Same S H∧RH K S H v x∧RH K S H w y∧ixF v w=some z∧∀ u,RV K S z u→Q u H
theorem q_ix:IxR X (Ri X.K):=by
 intro value slice pins s σ H x y v u Q I rx ry ⟨S,p,q,z,hs,rp,rq,e,k⟩ hsl
 obtain ⟨j,e1,e3⟩:=bnd e
 obtain ⟨ps,e2,e4⟩:=bnd e3
 cases a1d e1
 obtain rfl:=rq.int
 obtain ⟨a,xs,rfl,hq,r⟩:=rp.seq hs e2
 obtain ⟨w,h1,h2⟩:=c6c r e4
 cases hb:isL p with
 | true=>rw [hb] at hq; exact c5e value slice pins s σ H _ _ v u Q I rx ry ⟨a,xs,j,w,rfl,rfl,hq,h1,k w h2⟩ hsl
 | false=>rw [hb] at hq; exact c9v value slice pins s σ H _ _ v u Q I rx ry ⟨a,xs,j,w,rfl,rfl,hq,h1,k w h2⟩ hsl
theorem b1v (n d:Nat) (o:Option Int):Kq.sIx n d o=HT.sIx n d o:=by
 cases o with
 | none=>rfl
 | some v=>simp only [Kq.sIx,HT.sIx]; try (split <;> split <;> lia)
theorem b8f {ps:List FV} {xs:List V} {lo hi:Option Int} (r:RVs K S ps xs):RVs K S (b4i ps lo hi) (c2l xs lo hi):=by
 unfold b4i c2l
 rw [b1v,b1v,r.length]
 exact (r.drop _).take _
noncomputable def Rsl (K:Γd):V→Option Int→Option Int→Hp→VK→Prop:=fun x lo hi H Q=>∃ S v z,Same S H∧RH K S H v x∧a6b v lo hi=some z∧NewOr K S H Q z
theorem q_sl:SlR X (Rsl X.K):=by
 intro pins s σ H x v vl vu lo hi sl Q I rx hsl pl pu ⟨S,p,z,hs,rp,e,k⟩
 cases p with
 | tup ps =>
  cases e
  have rv:=rp.val rfl
  obtain ⟨a,xs,rfl,ha,ra⟩:=rp.tup hs
  by_cases hc:HT.sIx xs.length 0 lo=0∧HT.sIx xs.length xs.length hi=xs.length
  ·refine b9f pins s σ H _ v vl vu lo hi sl Q I rx hsl pl pu ⟨a,xs,rfl,SqT.of ha,hc.1,hc.2,k.old _ (fun _ z=>nomatch z) ?_⟩
   have e:b4i ps lo hi=ps:=by
    unfold b4i
    rw [b1v,b1v,ra.length,hc.1,hc.2,List.drop_zero,Nat.sub_zero,List.take_of_length_le (Nat.le_of_eq ra.length)]
   rw [e]; exact rv
  ·exact c7e pins s σ H _ v vl vu lo hi sl Q I rx hsl pl pu ⟨a,xs,rfl,SqT.of ha,hc,fun p hp=>k.tup _ _ p rfl (b8f ra) hp⟩
 | lst ps =>
  cases e
  obtain ⟨a,xs,rfl,ha,ra⟩:=rp.lst hs
  exact c3i pins s σ H _ v vl vu lo hi sl Q I rx hsl pl pu ⟨a,xs,rfl,SqL.of ha,fun p hp=>k.lst _ _ p rfl (b8f ra) hp⟩
 | _=>cases e
end
section
variable {X:Cx} {K:Γd} {S H:Hp} {Q:VK}
noncomputable def Rc (K:Γd) (f:FV→Option FV):List V→Hp→VK→Prop:=fun xs H Q=>∃ S v x z,xs=[x]∧Same S H∧RH K S H v x∧f v=some z∧NewOr K S H Q z
noncomputable def Rc2 (K:Γd) (f:FV→FV→Option FV):List V→Hp→VK→Prop:=fun xs H Q=>∃ S v w x y z,xs=[x,y]∧Same S H∧RH K S H v x∧RH K S H w y∧f v w=some z∧NewOr K S H Q z
theorem c7c {b:Bool} {a:Addr} {xs:List V} (h:SqB b K H a xs):SqL K H a xs ∨ SqT K H a xs:=by cases b; exact .inr h; exact .inl h
theorem d7r:a1k X (.builtin "len") (Rc X.K a7h):=by
 rintro pins s σ H xs us Q I r ⟨S,v,x,z,rfl,hs,rv,e,k⟩
 obtain ⟨ps,e1,rfl⟩:=mpd e
 obtain ⟨a,ys,rfl,hq,ry⟩:=rv.seq hs e1
 refine b0b pins s σ H _ us Q I r ⟨a,ys,rfl,c7c hq,?_⟩
 rw [← ry.length]
 exact k.int
theorem d7v:a1k X (.builtin "abs") (Rc X.K d1c):=by
 rintro pins s σ H xs us Q I r ⟨S,v,x,z,rfl,hs,rv,e,k⟩
 obtain ⟨i,e1,rfl⟩:=mpd e
 cases a1d e1
 obtain rfl:=rv.int
 exact c1e pins s σ H _ us Q I r ⟨i,rfl,k.int⟩
theorem d7s:a1k X (.type "int") (Rc X.K b1o):=by
 rintro pins s σ H xs us Q I r ⟨S,v,x,z,rfl,hs,rv,e,k⟩
 cases v with
 | int i =>
  cases e
  obtain rfl:=rv.int
  exact b0c pins s σ H _ us Q I r (.inl ⟨i,rfl,k.int⟩)
 | bl b =>
  cases e
  obtain rfl:=rv.bl
  exact b0c pins s σ H _ us Q I r (.inr ⟨b,rfl,k.int⟩)
 | _=>cases e
theorem c5z:a1k X (.type "tuple") (Rc X.K a2l):=by
 rintro pins s σ H xs us Q I r ⟨S,v,x,z,rfl,hs,rv,e,k⟩
 obtain ⟨ps,e1,rfl⟩:=mpd e
 obtain ⟨a,ys,rfl,hq,ry⟩:=rv.seq hs e1
 cases v with
 | tup qs=>cases e1; exact a3a pins s σ H _ us Q I r ⟨a,ys,rfl,.inr ⟨hq,k.old _ (fun _ z=>nomatch z) (rv.val rfl)⟩⟩
 | lst qs=>exact a3a pins s σ H _ us Q I r ⟨a,ys,rfl,.inl ⟨hq,fun l hl=>k.tup _ _ l rfl ry hl⟩⟩
 | scr qs=>exact a3a pins s σ H _ us Q I r ⟨a,ys,rfl,.inl ⟨hq,fun l hl=>k.tup _ _ l rfl ry hl⟩⟩
 | _=>cases e1
theorem c2m:a1k X (.type "list") (Rc X.K a3g):=by
 rintro pins s σ H xs us Q I r ⟨S,v,x,z,rfl,hs,rv,e,k⟩
 obtain ⟨ps,e1,rfl⟩:=mpd e
 obtain ⟨a,ys,rfl,hq,ry⟩:=rv.seq hs e1
 exact b0a pins s σ H _ us Q I r ⟨a,ys,rfl,c7c hq,fun l hl=>k.lst _ _ l rfl ry hl⟩
theorem d0w (hc:X.calm=true):a1k X (.builtin "min") (Rc2 X.K b3v):=by
 rintro pins s σ H xs us Q I r ⟨S,v,w,x,y,z,rfl,hs,rv,rw',e,k⟩
 obtain ⟨i,e1,e2⟩:=bnd e
 obtain ⟨j,e3,e4⟩:=bnd e2
 cases a1d e1; cases a1d e3; cases e4
 obtain rfl:=rv.int
 obtain rfl:=rw'.int
 exact b8k hc pins s σ H _ us Q I r ⟨i,j,rfl,k.int⟩
theorem d0x (hc:X.calm=true):a1k X (.builtin "max") (Rc2 X.K b6i):=by
 rintro pins s σ H xs us Q I r ⟨S,v,w,x,y,z,rfl,hs,rv,rw',e,k⟩
 obtain ⟨i,e1,e2⟩:=bnd e
 obtain ⟨j,e3,e4⟩:=bnd e2
 cases a1d e1; cases a1d e3; cases e4
 obtain rfl:=rv.int
 obtain rfl:=rw'.int
 exact b8l hc pins s σ H _ us Q I r ⟨i,j,rfl,k.int⟩
theorem Vals.mapInt {ns:List Int}:∀ {us:List Value},Vals (ns.map V.int) us→∀ i:Nat,i < ns.length→∃ t,us[i]?=some (.int (ns.getD i 0) t):=fun {us} r i hi=>by
 obtain ⟨u,e,t,rfl⟩:=r.get (i:=i) (x:=.int (ns.getD i 0)) (by simp [hi])
 exact ⟨t,e⟩
theorem a3u (ns:List Int):∀ j,j≤ns.length→preSum (fun i=>ns.getD i 0) j=(ns.take j).sum
 | 0,_=>by simp [preSum]
 | j + 1,h=>by
  have hj:j < ns.length:=h
  show preSum _ j + ns.getD j 0=_
  rw [a3u ns j (by lia),List.take_succ_eq_append_getElem hj,List.sum_append]
  simp [List.getD,hj]
theorem c1u (B:Int) (hB:0≤B):∀ ns:List Int,(∀ n∈ns,-B≤n∧n≤B)→-(B * ns.length)≤ns.sum∧ns.sum≤B * ns.length
 | [],_=>by simp
 | n :: r,h=>by
  have ih:=c1u B hB r fun m hm=>h m (List.mem_cons_of_mem _ hm)
  have hn:=h n List.mem_cons_self
  rw [List.sum_cons,List.length_cons]
  have e:B * ((r.length + 1:Nat):Int)=B * (r.length:Int) + B:=by rw [Int.natCast_add,Int.mul_add]; simp
  rw [e]
  lia
theorem b4k (hc:X.calm=true):a1k X (.builtin "sum") (fun xs H Q=>∃ (a:Addr) (ns:List Int),xs=[.ref a]∧SqL X.K H a (ns.map V.int)∧ns.length≤big∧(∀ n∈ns,-(2 ^ 40)≤n∧n≤2 ^ 40)∧Q (.int ns.sum) H):=by
 intro pins s σ H xs us Q I r h
 obtain ⟨a,ns,rfl,hq,hz,hb,q⟩:=h
 obtain ⟨u,rfl,rx⟩:=a3o r
 cases rx
 obtain ⟨its,r',pl,hz'⟩:=I.list hq
 have hlen:ns.length=its.length:=by have:=r'.length; simpa using this
 have alt:a < s.heap.objs.size:=by obtain ⟨_,e,_⟩:=pl.isList; exact Heap.lt_size e
 have hh:X.A.in1.handled=none:=I.ok.hd hc
 refine call_sum_walk (wpAny_pyIter_list pl.isList ?_)
 refine ⟨s.heap.objs.size,_,_,_,_,_,fun i=>ns.getD i 0,rfl,Walks.list hh s.heap.objs.size a (Nat.ne_of_lt alt) its.toArray,⟨⟨_,Heap.get?_push_size _ rfl,rfl,rfl⟩,pl.isList.at fun o e=>Γc _ e⟩,?_,?_,?_,?_⟩
 ·intro b hb'
  simp at hb'
  rcases hb' with rfl | rfl
  ·show _ < (s.heap.push _).objs.size; rw [Heap.size_push]; exact Nat.lt_succ_self _
  ·show _ < (s.heap.push _).objs.size; rw [Heap.size_push]; exact Nat.lt_succ_of_lt alt
 ·intro i v hv
  have hv:its.toArray[i]?=some v:=hv
  have hi:i < ns.length:=by rw [hlen]; simpa using (Array.getElem?_eq_some_iff.mp hv).1
  obtain ⟨t,e⟩:=Vals.mapInt r' i hi
  refine ⟨t,?_⟩
  have e':its.toArray[i]?=some (.int (ns.getD i 0) t):=by simpa using e
  rw [hv] at e'
  exact Option.some.inj e'
 ·intro j hj
  have hj':j < ns.length:=by rw [hlen]; simpa using hj
  have hm:ns.getD j 0∈ns:=by simp [List.getD,hj']
  refine ⟨?_,?_⟩
  ·have:=hb _ hm
   show -(2 ^ 63)≤ns.getD j 0∧ns.getD j 0 < 2 ^ 63
   lia
  ·rw [a3u ns (j + 1) hj']
   have b2:=c1u 1099511627776 (by decide) (ns.take (j + 1)) fun n hn=>by have:=hb n (List.mem_of_mem_take hn); lia
   have l2:(ns.take (j + 1)).length≤100000:=by rw [List.length_take]; unfold big at hz; lia
   unfold InLong; lia
 ·intro h' tk t' hk
  have e:preSum (fun i=>ns.getD i 0) its.toArray.size=ns.sum:=by
   rw [List.size_toArray,← hlen,a3u ns _ (Nat.le_refl _),List.take_length]
  rw [e]
  refine ⟨.int ns.sum,H,?_,⟨t',rfl⟩,q⟩
  exact I.kept (t':=tk) fun b o e=>hk b o (by simp; exact Nat.ne_of_lt (Heap.lt_size e)) (Γc _ e)
theorem b1n {prog:Program} {w:World} {A:Around} {its:List Value} {bs:List Bool} (r:Vals (bs.map V.bl) its):TruthOf prog w A (fun i v=>its.toArray[i]?=some v) (fun i=>bs.getD i false):=by
 intro i v s Q E hv hq
 have hlen:bs.length=its.length:=by have:=r.length; simpa using this
 have hi:i < bs.length:=by rw [hlen]; simpa using (Array.getElem?_eq_some_iff.mp hv).1
 obtain ⟨u,e,ru⟩:=r.get (i:=i) (x:=.bl (bs.getD i false)) (by simp [hi])
 have e':its.toArray[i]?=some u:=by simpa using e
 rw [hv] at e'
 cases e'
 cases ru
 exact Γb hq
theorem b5q (bs:List Bool):(List.range bs.length).all (fun i=>bs.getD i false)=bs.all id:=by
 rw [Bool.eq_iff_iff]
 simp only [List.all_eq_true,List.mem_range,id]
 constructor
 ·intro h b hb
  obtain ⟨i,hi,e⟩:=List.mem_iff_getElem.mp hb
  have:=h i hi
  simpa [List.getD,hi,e] using this
 ·intro h i hi
  have:=h bs[i] (List.getElem_mem hi)
  simpa [List.getD,hi] using this
theorem b5p (bs:List Bool):(List.range bs.length).any (fun i=>bs.getD i false)=bs.any id:=by
 rw [Bool.eq_iff_iff]
 simp only [List.any_eq_true,List.mem_range,id]
 constructor
 ·rintro ⟨i,hi,e⟩
  exact ⟨bs[i],List.getElem_mem hi,by simpa [List.getD,hi] using e⟩
 ·rintro ⟨b,hb,e⟩
  obtain ⟨i,hi,e'⟩:=List.mem_iff_getElem.mp hb
  exact ⟨i,hi,by simpa [List.getD,hi,e'] using e⟩
theorem b4n (hc:X.calm=true):a1k X (.builtin "all") (fun xs H Q=>∃ (a:Addr) (bs:List Bool),xs=[.ref a]∧SqL X.K H a (bs.map V.bl)∧Q (.bl (bs.all id)) H):=by
 intro pins s σ H xs us Q I r h
 obtain ⟨a,bs,rfl,hq,q⟩:=h
 obtain ⟨u,rfl,rx⟩:=a3o r
 cases rx
 obtain ⟨its,r',pl,hz'⟩:=I.list hq
 have hlen:bs.length=its.length:=by have:=r'.length; simpa using this
 have alt:a < s.heap.objs.size:=by obtain ⟨_,e,_⟩:=pl.isList; exact Heap.lt_size e
 have hh:X.A.in1.handled=none:=I.ok.hd hc
 refine call_all_walk (wpAny_pyIter_list pl.isList ?_)
 refine ⟨s.heap.objs.size,_,_,_,_,_,fun i=>bs.getD i false,rfl,Walks.list hh s.heap.objs.size a (Nat.ne_of_lt alt) its.toArray,⟨⟨_,Heap.get?_push_size _ rfl,rfl,rfl⟩,pl.isList.at fun o e=>Γc _ e⟩,b1n r',?_⟩
 intro h' tk hk
 rw [List.size_toArray,← hlen,b5q]
 exact ⟨.bl _,H,I.kept (t':=tk) fun b o e=>hk b o (by simp; exact Nat.ne_of_lt (Heap.lt_size e)) (Γc _ e),rfl,q⟩
theorem b4m (hc:X.calm=true):a1k X (.builtin "any") (fun xs H Q=>∃ (a:Addr) (bs:List Bool),xs=[.ref a]∧SqL X.K H a (bs.map V.bl)∧Q (.bl (bs.any id)) H):=by
 intro pins s σ H xs us Q I r h
 obtain ⟨a,bs,rfl,hq,q⟩:=h
 obtain ⟨u,rfl,rx⟩:=a3o r
 cases rx
 obtain ⟨its,r',pl,hz'⟩:=I.list hq
 have hlen:bs.length=its.length:=by have:=r'.length; simpa using this
 have alt:a < s.heap.objs.size:=by obtain ⟨_,e,_⟩:=pl.isList; exact Heap.lt_size e
 have hh:X.A.in1.handled=none:=I.ok.hd hc
 refine call_any_walk (wpAny_pyIter_list pl.isList ?_)
 refine ⟨s.heap.objs.size,_,_,_,_,_,fun i=>bs.getD i false,rfl,Walks.list hh s.heap.objs.size a (Nat.ne_of_lt alt) its.toArray,⟨⟨_,Heap.get?_push_size _ rfl,rfl,rfl⟩,pl.isList.at fun o e=>Γc _ e⟩,b1n r',?_⟩
 intro h' tk hk
 rw [List.size_toArray,← hlen,b5p]
 exact ⟨.bl _,H,I.kept (t':=tk) fun b o e=>hk b o (by simp; exact Nat.ne_of_lt (Heap.lt_size e)) (Γc _ e),rfl,q⟩
theorem d7p (hc:X.calm=true):a1k X (.builtin "sum") (Rc X.K c6y):=by
 rintro pins s σ H xs us Q I r ⟨S,v,x,z,rfl,hs,rv,e,k⟩
 obtain ⟨ps,e1,e2⟩:=bnd e
 obtain ⟨n,e3,rfl⟩:=mpd e2
 obtain ⟨ns,e4,e5⟩:=bnd e3
 obtain ⟨hb,rfl⟩:=itd e5
 obtain ⟨a,ys,rfl,hq,ry⟩:=rv.list hs e1
 cases a2s ry e4
 refine b4k hc pins s σ H _ us Q I r ⟨a,ns,rfl,hq,hb.1,fun n hn=>?_,k.int⟩
 have:=List.all_eq_true.mp hb.2 n hn
 simpa [b0r] using this
theorem d7u (hc:X.calm=true):a1k X (.builtin "all") (Rc X.K c6n):=by
 rintro pins s σ H xs us Q I r ⟨S,v,x,z,rfl,hs,rv,e,k⟩
 obtain ⟨ps,e1,e2⟩:=bnd e
 obtain ⟨bs,e3,rfl⟩:=mpd e2
 obtain ⟨a,ys,rfl,hq,ry⟩:=rv.list hs e1
 cases a5o ry e3
 exact b4n hc pins s σ H _ us Q I r ⟨a,bs,rfl,hq,k.bl⟩
theorem d7t (hc:X.calm=true):a1k X (.builtin "any") (Rc X.K c2p):=by
 rintro pins s σ H xs us Q I r ⟨S,v,x,z,rfl,hs,rv,e,k⟩
 obtain ⟨ps,e1,e2⟩:=bnd e
 obtain ⟨bs,e3,rfl⟩:=mpd e2
 obtain ⟨a,ys,rfl,hq,ry⟩:=rv.list hs e1
 cases a5o ry e3
 exact b4m hc pins s σ H _ us Q I r ⟨a,bs,rfl,hq,k.bl⟩
theorem b1r (hu:X.A.units + 64 < cLine) (hg:X.A.guards=some []) {pins:List (Addr×Obj)} {s:Shared} {σ:L2.St} {v z:FV} {a:Addr} (I:Inv X pins σ H s) (hs:Same S H) (rv:RH X.K S H v (.ref a)) (e:d3f v=some z) (k:NewOr X.K S H Q z):wpAny (model X.prog X.w) X.A (PySem.call (.type "str") [.ref a]) (EP X pins σ Q) X.xe s:=by
 obtain ⟨d,e1,e2⟩:=bnd e
 obtain ⟨hf,rfl⟩:=itd e2
 obtain ⟨as,ra⟩:=a4h I hs rv (show RelV (.ref a) (.ref a) from rfl) e1
 have hdp:=a5x e1
 unfold a1c at hdp
 refine str_of_reads (h₀:=s.heap) ra (c5w d hf.1).1 (fun z=>by rw [b3g] at z; cases z) hg (by lia) (fun _ _ h=>h) (fun h' u' tk hk=>?_) (c5v hf.1 hf.2)
 exact ⟨.str (dPy d).shown,H,I.kept (t':=tk) hk,⟨u',rfl⟩,k.old _ (fun _ z=>nomatch z) rfl⟩
theorem d7q (hu:X.A.units + 64 < cLine) (hg:X.A.guards=some []):a1k X (.type "str") (Rc X.K c3e):=by
 rintro pins s σ H xs us Q I r ⟨S,v,x,z,rfl,hs,rv,e,k⟩
 obtain ⟨u,rfl,ru⟩:=a3o r
 cases v with
 | int i =>
  obtain ⟨hc,rfl⟩:=itd e
  obtain rfl:=rv.int
  exact a9z pins s σ H _ _ Q I r ⟨i,rfl,by have:=log2_lt (k:=150) (by decide) hc; lia,k.str⟩
 | non =>
  cases e
  cases (show x=.non from rv.val rfl); cases (show u=_ from ru)
  exact PySem.P.str_of_none ⟨.str _,H,I.tok _,⟨_,rfl⟩,k.str⟩
 | bl b =>
  cases e
  obtain rfl:=rv.bl
  cases (show u=_ from ru)
  exact PySem.P.str_of_bool ⟨.str (Γe (if b then "True" else "False")),H,I.tok _,⟨_,by cases b <;> rfl⟩,k.str⟩
 | str x =>
  cases e
  cases (show _=V.str _ from rv.val rfl); obtain ⟨t,rfl⟩:=ru
  exact PySem.P.str_of_str ⟨.str _,H,I,⟨_,rfl⟩,k.str⟩
 | tup xs =>
  obtain ⟨a,ys,rfl,_⟩:=rv.tup hs
  cases (show u=_ from ru)
  exact b1r hu hg I hs rv e k
 | lst xs =>
  obtain ⟨a,ys,rfl,_⟩:=rv.lst hs
  cases (show u=_ from ru)
  exact b1r hu hg I hs rv e k
 | _=>cases e
end
structure CC where
 N:List Str
 sc:List (Str×NameKind)
 fns:List Str
 md:Md
 top:Bool
noncomputable def CC.vis (C:CC) (x:Str):Bool:=match C.sc.lookup x with
 | some .local=>true
 | some .cell=>true
 | some .free=>true
 | _=>false
noncomputable def CC.gl (C:CC) (x:Str):Bool:=decide (C.sc.lookup x=some .globalImplicit)
noncomputable def CC.loc (C:CC) (x:Str):Bool:=match C.sc.lookup x with
 | some .local=>true
 | some .cell=>C.top
 | _=>false
noncomputable def CC.nm (C:CC) (i:Nat) (x:Str):Bool:=decide (C.N[i]?=some x) && C.vis x && !(x == ("__debug__":Str)) && !(x == ("__classdict__":Str))
noncomputable def bltNames:List String:=["len","abs","int","sum","all","any","min","max","tuple","list","isinstance","range","zip","bool","str","enumerate","reversed","sorted","dict","set"]
structure Good (X:Cx) (C:CC) (n:Nat) (sp:Γd→Nat→Sp):Prop where
 N:X.N=C.N
 sc:X.env.scope.names=C.sc
 kind:X.env.scope.kind=.function
 nd:C.N.Nodup
 calm:X.calm=true
 fn:C.top=true→∀ x,X.fn x=true
 room:Room n X.A
 fns:∀ (f:Nat) (x:Str),C.fns[f]?=some x→∃ fa fd ps,X.mg x=some (.ref fa)∧PySem.W.keepIn X.K (.ref fa)=true∧Binds X.K fd ps []∧FnOk X.prog X.w X.K X.mg X.base CX0 n fa fd ps (sp X.K f)
 blt:∀ b∈bltNames,X.mg (Γe b)=none
theorem b2 {a b:Bool} (h:(a && b)=true):a=true∧b=true:=by simpa using h
theorem nb {a:Bool} (h:(!a)=true):a=false:=by simpa using h
theorem de {p:Prop} [Decidable p] (h:decide p=true):p:=by simpa using h
noncomputable def lv (K:Γd) (md:Md) (e:EW):TE:=fun σ H Q=>∃ c L S Q0,Iv K c md L σ S H∧e L Q0∧∀ v L',Q0 v L'→∀ x S' H',RV K S' v x→Iv K c md L' σ S' H'→Same S S'→Q x H'
noncomputable def lr (K:Γd) (md:Md) (e:EW):TE:=fun σ H Q=>∃ c L S Q0,Iv K c md L σ S H∧e L Q0∧∀ v L',Q0 v L'→∀ x S' H',RH K S' H' v x→Iv K c md L' σ S' H'→Same S S'→Q x H'
noncomputable def b0h (c:Cn) (md:Md) (L:a0d) (σ:L2.St) (a:Addr):Prop:=c.H0 a=none∧(∀ p∈c.pr,p.1≠a)∧∀ j w,a0u md j≠.imm→L[j]?=some (some w)→σ[j]?≠some (some (.ref a))
noncomputable def lf (K:Γd) (md:Md) (e:EW):TE:=fun σ H Q=>∃ c L S Q0,Iv K c md L σ S H∧e L Q0∧∀ v L',Q0 v L'→∀ a S' H',a4y K S' H' a v→b0h c md L' σ a→Iv K c md L' σ S' H'→Same S S'→Q (.ref a) H'
noncomputable def lb (K:Γd) (md:Md) (e:BW):TT:=fun σ H Q=>∃ c L S Q0,Iv K c md L σ S H∧e L Q0∧∀ v L',Q0 v L'→∀ S' H',Iv K c md L' σ S' H'→Same S S'→Q v H'
noncomputable def la (K:Γd) (md:Md) (e:AW):TA:=fun σ H Q=>∃ c L S Q0,Iv K c md L σ S H∧e L Q0∧∀ v L',Q0 v L'→∀ x S' H',RVs K S' v x→Iv K c md L' σ S' H'→Same S S'→Q x H'
noncomputable def lo (K:Γd) (md:Md) (e:OW):TO:=fun σ H Q=>∃ c L S Q0,Iv K c md L σ S H∧e L Q0∧∀ v L',Q0 v L'→∀ S' H',Iv K c md L' σ S' H'→Same S S'→Q v H'
noncomputable def FE (X:Cx) (C:CC) (x:Expr) (e:EW):Prop:=PE X.nox x (lv X.K C.md e)
noncomputable def FR (X:Cx) (C:CC) (x:Expr) (e:EW):Prop:=PE X.nox x (lr X.K C.md e)
noncomputable def FF (X:Cx) (C:CC) (x:Expr) (e:EW):Prop:=PE X.nox x (lf X.K C.md e)
noncomputable def FB (X:Cx) (C:CC) (x:Expr) (e:BW):Prop:=PT X.nox x (lb X.K C.md e)
noncomputable def FW (X:Cx) (C:CC) (x:Expr) (e:BW):Prop:=PW X.nox x (lb X.K C.md e)
noncomputable def FA (X:Cx) (C:CC) (x:List Expr) (e:AW):Prop:=PA X.nox x (la X.K C.md e)
noncomputable def FO (X:Cx) (C:CC) (x:Option Expr) (e:OW):Prop:=L2.PO X.nox x (lo X.K C.md e)
section
variable {X:Cx}
theorem PE.imp {e:Expr} {t u:TE} (h:PE X e t) (f:∀ σ H Q,u σ H Q→t σ H Q):PE X e u:=fun pins s σ H Q I hu=>h pins s σ H Q I (f σ H Q hu)
theorem PT.imp {e:Expr} {t u:TT} (h:PT X e t) (f:∀ σ H Q,u σ H Q→t σ H Q):PT X e u:=fun pins s σ H Q I hu=>h pins s σ H Q I (f σ H Q hu)
theorem PW.imp {e:Expr} {t u:TT} (h:PW X e t) (f:∀ σ H Q,u σ H Q→t σ H Q):PW X e u:=fun w pins s σ H Q I hu=>h w pins s σ H Q I (f σ H Q hu)
theorem PA.imp {e:List Expr} {t u:TA} (h:PA X e t) (f:∀ σ H Q,u σ H Q→t σ H Q):PA X e u:=fun p pins s σ H Q I hu=>h p pins s σ H Q I (f σ H Q hu)
theorem PO.imp {e:Option Expr} {t u:TO} (h:L2.PO X e t) (f:∀ σ H Q,u σ H Q→t σ H Q):L2.PO X e u:=fun pins s σ H Q I hu=>h pins s σ H Q I (f σ H Q hu)
end
section
variable {X:Cx} {C:CC} {n:Nat} {sp:Γd→Nat→Sp}
theorem Good.vis (G:Good X C n sp) {x:Str} (h:C.vis x=true):Vis X.env.scope x:=by
 unfold CC.vis at h
 unfold Vis
 rw [G.sc]
 split at h
 ·rename_i e; exact .inl e
 ·rename_i e; exact .inr (.inl e)
 ·rename_i e; exact .inr (.inr e)
 ·cases h
theorem Good.gl (G:Good X C n sp) {x:Str} (h:C.gl x=true):Gl X x:=by
 show X.env.scope.names.lookup x=_
 rw [G.sc]; exact de h
theorem Good.loc (G:Good X C n sp) {x:Str} (h:C.loc x=true):L2.Loc X.env.scope x∧(X.fn x=true ∨ X.env.scope.names.lookup x=some .local):=by
 unfold CC.loc at h
 unfold L2.Loc
 rw [G.sc]
 split at h
 ·rename_i e; exact ⟨.inl e,.inr e⟩
 ·rename_i e; exact ⟨.inr e,.inl (G.fn h x)⟩
 ·cases h
variable {K:Γd} {c:Cn} {md:Md} {L:a0d} {σ:L2.St} {S H:Hp}
theorem Iv.rd (I:Iv K c md L σ S H) {i:Nat} {v:FV} (e:lk L i=some v):∃ x,σ[i]?=some (some x)∧RH K S H v x:=by
 rw [a2y] at e
 by_cases m:a0u md i=.imm
 ·obtain ⟨x,h1,h2⟩:=I.imm i v m e
  exact ⟨x,h1,.inl h2⟩
 ·obtain ⟨a,h1,h2,_⟩:=I.own i v m e
  exact ⟨_,h1,.inr ⟨a,rfl,h2⟩⟩
theorem a9j {Q:VK} {z:FV} (I:Iv K c md L σ S H) (k:∀ x S' H',RV K S' z x→Iv K c md L σ S' H'→Same S S'→Q x H'):NewOr K S H Q z where
 old:=fun x _ r=>k x S H r I (Same.refl S)
 tup:=fun ps xs p e r hp=>k _ _ _ (by rw [e]; exact ⟨p,xs,rfl,a0f,r.mono (a0m (I.sn hp))⟩) (I.new hp _) (a0m (I.sn hp))
 lst:=fun ps xs p e r hp=>k _ _ _ (by rw [e]; exact ⟨p,xs,rfl,a0f,r.mono (a0m (I.sn hp))⟩) (I.new hp _) (a0m (I.sn hp))
theorem Iv.fresh (I:Iv K c md L σ S H) {p:Addr} (h:H p=none):b0h c md L σ p:=by
 refine ⟨I.h0 h,fun q hq z=>?_,fun j w m e z=>?_⟩
 ·rw [← z,(I.prs q hq).1] at h; cases h
 ·obtain ⟨a,e1,⟨_,_,_,_,e2,_⟩,_⟩:=I.own j w m e
  rw [z] at e1; cases e1
  rw [h] at e2; cases e2
theorem c4r {Q:VK} {z:FV} (I:Iv K c md L σ S H) (hz:∃ ps,z=.lst ps) (k:∀ a S' H',a4y K S' H' a z→b0h c md L σ a→Iv K c md L σ S' H'→Same S S'→Q (.ref a) H'):NewOr K S H Q z where
 old:=fun x n _=>let ⟨ps,e⟩:=hz; absurd e (n ps)
 tup:=fun ps xs p e r hp=>by obtain ⟨qs,e2⟩:=hz; rw [e2] at e; cases e
 lst:=fun ps xs p e r hp=>by subst e; exact k p S _ ⟨I.sn hp,ps,xs,rfl,a0f,r⟩ (I.fresh hp) (I.lay hp _) (Same.refl S)
theorem fe_var (G:Good X C n sp) {i:Nat} {x:Str} {pos:Pos} (h:C.nm i x=true) (m:a0u C.md i=.imm):FE X C (.Name x pos) (a0b i):=by
 have h:=b2 h; have h1:=b2 h.1; have h2:=b2 h1.1
 refine PE.imp (b5y (by show X.N[i]?=_; rw [G.N]; exact de h2.1) (G.vis h2.2) (nb h1.2) (nb h.2)) fun σ H Q ⟨c,L,S,Q0,I,h,k⟩=>?_
 obtain ⟨v,e,q⟩:=wpx h
 obtain ⟨x,e1,r⟩:=I.imm i v m ((a2y _ _ _).mp e)
 exact ⟨x,e1,k v L q x S H r I (Same.refl S)⟩
theorem fr_var (G:Good X C n sp) {i:Nat} {x:Str} {pos:Pos} (h:C.nm i x=true):FR X C (.Name x pos) (a0b i):=by
 have h:=b2 h; have h1:=b2 h.1; have h2:=b2 h1.1
 refine PE.imp (b5y (by show X.N[i]?=_; rw [G.N]; exact de h2.1) (G.vis h2.2) (nb h1.2) (nb h.2)) fun σ H Q ⟨c,L,S,Q0,I,h,k⟩=>?_
 obtain ⟨v,e,q⟩:=wpx h
 obtain ⟨x,e1,r⟩:=I.rd e
 exact ⟨x,e1,k v L q x S H r I (Same.refl S)⟩
theorem fr_of {x:Expr} {e:EW} (h:FE X C x e):FR X C x e:=PE.imp h fun σ H Q ⟨c,L,S,Q0,I,h,k⟩=>⟨c,L,S,Q0,I,h,fun v L' q x S' H' r=>k v L' q x S' H' (.inl r)⟩
theorem d2b {x:Expr} {v:FV} {u:V} (h:PE X.nox x (tC u)) (r:∀ S,RV X.K S v u):FE X C x (eC v):=PE.imp h fun σ H Q ⟨c,L,S,Q0,I,h,k⟩=>k v L h u S H (r S) I (Same.refl S)
theorem fe_int {i j pos}:FE X C (.Constant (.int i) j pos) (eC (.int i)):=d2b c8p fun _=>rfl
theorem fe_bl {i j pos}:FE X C (.Constant (.bool i) j pos) (eC (.bl i)):=d2b d4g fun _=>rfl
theorem fe_non {j pos}:FE X C (.Constant .none j pos) (eC .non):=d2b c8n fun _=>rfl
theorem fe_str {i:String} {j pos}:FE X C (.Constant (.str (Γe i)) j pos) (eC (.str i)):=d2b c8j fun _=>rfl
section
variable {f:FV→FV→Option FV} {a b:Expr} {ea eb:EW} {pos:Pos} {i:Nat} {x:Str}
theorem a1u (G:Good X C n sp) (h:C.nm i x=true):PE X.nox (.Name x pos) (c6j i):=by
 have h:=b2 h; have h1:=b2 h.1; have h2:=b2 h1.1
 exact b5y (by show X.N[i]?=_; rw [G.N]; exact de h2.1) (G.vis h2.2) (nb h1.2) (nb h.2)
theorem go2 {r:R2} {σ:L2.St} {H:Hp} {Q:VK} (hh:∃ (c:Cn) (L:a0d) (S:Hp) (Q0:FV→FV→a0d→Prop),Iv K c md L σ S H∧ea L (fun x L1=>eb L1 fun y L2=>Q0 x y L2)∧∀ v w L' S' H' x y,Q0 v w L'→RV K S' v x→RH K S' H' w y→Iv K c md L' σ S' H'→Same S S'→r x y H' Q):tOp r (lv K md ea) (lr K md eb) σ H Q:=by
 obtain ⟨c,L,S,Q0,I,h,k⟩:=hh
 exact ⟨c,L,S,_,I,h,fun v L1 hv x S1 H1 r1 I1 s1=>⟨c,L1,S1,_,I1,hv,fun w L2 hw y S2 H2 r2 I2 s2=>k v w L2 S2 H2 x y hw (r1.mono s2) r2 I2 (s1.trans s2)⟩⟩
theorem go2N {r:R2} {σ:L2.St} {H:Hp} {Q:VK} (hh:∃ (c:Cn) (L:a0d) (S:Hp) (Q0:FV→FV→a0d→Prop),Iv K c md L σ S H∧(wp (lk L i) fun _=>eb L fun y L1=>wp (lk L1 i) fun x=>Q0 x y L1)∧∀ v w L' S' H' x y,Q0 v w L'→RH K S' H' v x→RH K S' H' w y→Iv K c md L' σ S' H'→Same S S'→r x y H' Q):tOp r (c6j i) (lr K md eb) σ H Q:=by
 obtain ⟨c,L,S,Q0,I,h,k⟩:=hh
 obtain ⟨_,e,h⟩:=wpx h
 obtain ⟨x,e1,_⟩:=I.rd e
 refine ⟨x,e1,c,L,S,_,I,h,fun w L2 hw y S2 H2 r2 I2 s2=>?_⟩
 obtain ⟨v,e2,q⟩:=wpx hw
 obtain ⟨x',e3,r1⟩:=I2.rd e2
 rw [e1] at e3; cases e3
 exact k v w L2 S2 H2 x y q r1 r2 I2 s2
theorem rq_v {Q0:FV→a0d→Prop} {Q:VK} {v w:FV} {x y:V} (I:Iv K c md L σ S H) (rv:RH K S H v x) (rw':RH K S H w y) (h:wp (f v w) fun z=>Q0 z L) (k:∀ z,Q0 z L→∀ x S' H',RV K S' z x→Iv K c md L σ S' H'→Same S S'→Q x H'):Rq K f x y H Q:=by
 obtain ⟨z,e,q⟩:=wpx h
 exact ⟨S,v,w,z,I.sub,rv,rw',e,a9j I (k z q)⟩
theorem op_v (h:PE X.nox a (tOp (Rq X.K f) (lv X.K C.md ea) (lr X.K C.md eb))):FE X C a (eOp f ea eb):=PE.imp h fun σ H Q ⟨c,L,S,Q0,I,h,k⟩ =>
 go2 ⟨c,L,S,fun x y L2=>wp (f x y) fun z=>Q0 z L2,I,h,fun v w L' S' H' x y q r1 r2 I' s'=>rq_v I' (.inl r1) r2 q fun z qz x S2 H2 r I2 s2=>k z L' qz x S2 H2 r I2 (s'.trans s2)⟩
variable {op:Operator}
theorem b4e (ho:OpR X.nox (binaryOp op) (Rq X.K f)) (ha:FE X C a ea) (hb:FR X C b eb):FE X C (.BinOp a op b pos) (eOp f ea eb):=op_v (c8k ho ha hb)
theorem fe_add (ha:FE X C a ea) (hb:FR X C b eb):FE X C (.BinOp a .Add b pos) (eOp a4c ea eb):=b4e d4a ha hb
theorem fe_sub (ha:FE X C a ea) (hb:FR X C b eb):FE X C (.BinOp a .Sub b pos) (eOp c6k ea eb):=b4e d3u ha hb
theorem fe_mul (ha:FE X C a ea) (hb:FR X C b eb):FE X C (.BinOp a .Mult b pos) (eOp b4p ea eb):=b4e c7p ha hb
theorem d6f (ha:FE X C a ea) (hb:FR X C b eb):FE X C (.BinOp a .FloorDiv b pos) (eOp b7g ea eb):=b4e c7r ha hb
theorem fe_mod (ha:FE X C a ea) (hb:FR X C b eb):FE X C (.BinOp a .Mod b pos) (eOp c0f ea eb):=b4e d3x ha hb
theorem fe_pow (ha:FE X C a ea) (hb:FR X C b eb):FE X C (.BinOp a .Pow b pos) (eOp c8d ea eb):=b4e d3v ha hb
noncomputable def a5j (f:FV→FV→Option FV) (v w:FV):Option FV:=(f v w).bind fun z=>(a7g z).map fun xs=>.lst xs
theorem d5w (ho:OpR X.nox (binaryOp op) (Rq X.K f)) (ha:FE X C a ea) (hb:FR X C b eb):FF X C (.BinOp a op b pos) (eOp (a5j f) ea eb):=PE.imp (c8k ho ha hb) fun σ H Q ⟨c,L,S,Q0,I,h,k⟩ =>
 go2 ⟨c,L,S,fun x y L2=>wp (a5j f x y) fun z=>Q0 z L2,I,h,fun v w L' S' H' x y q r1 r2 I' s'=>by
  obtain ⟨z,e,q⟩:=wpx q
  obtain ⟨z',e1,e2⟩:=bnd e
  obtain ⟨xs,e3,rfl⟩:=mpd e2
  cases a3x e3
  exact ⟨S',v,w,_,I'.sub,.inl r1,r2,e1,c4r I' ⟨xs,rfl⟩ fun a S2 H2 o fr I2 s2=>k _ L' q a S2 H2 o fr I2 (s'.trans s2)⟩⟩
theorem ff_mul (ha:FE X C a ea) (hb:FR X C b eb):FF X C (.BinOp a .Mult b pos) (eOp (a5j b4p) ea eb):=d5w c7p ha hb
variable {cop:CmpOp}
theorem b3a (ho:OpR X.nox (compareOp cop) (Rq X.K f)) (ha:FE X C a ea) (hb:FR X C b eb) (hm:behindInMarks cop b=false):FE X C (.Compare a [cop] [b] pos) (eOp f ea eb):=op_v (c4h ho ha hb hm)
noncomputable def a7o (f:FV→FV→Option FV):Prop:=∀ v w z,f v w=some z→∃ b,z=.bl b
theorem c6u {Q0:Bool→a0d→Prop} {Q:Bool→Hp→Prop} {v w:FV} {x y:V} (tb:a7o f) (I:Iv K c md L σ S H) (rv:RH K S H v x) (rw':RH K S H w y) (h:wp (f v w) fun z=>wp (b9a z) fun b=>Q0 b L) (k:∀ z,Q0 z L→Q z H):Rq K f x y H (fun x H'=>∃ k,x=.bl k∧Q k H'):=by
 obtain ⟨z,e,q⟩:=wpx h
 obtain ⟨b,rfl⟩:=tb v w z e
 exact ⟨S,v,w,_,I.sub,rv,rw',e,⟨fun x _ r=>⟨b,r,k b q⟩,fun _ _ _ e=>(nomatch e),fun _ _ _ e=>(nomatch e)⟩⟩
theorem a9t (tb:a7o f) (ho:OpR X.nox (compareOp cop) (Rq X.K f)) (ha:FE X C a ea) (hb:FR X C b eb) (hm:behindInMarks cop b=false):FB X C (.Compare a [cop] [b] pos) (a1o (eOp f ea eb)):=PT.imp (c3u ho ha hb hm) fun σ H Q ⟨c,L,S,Q0,I,h,k⟩ =>
 go2 ⟨c,L,S,fun x y L2=>wp (f x y) fun z=>wp (b9a z) fun b=>Q0 b L2,I,h,fun v w L' S' H' x y q r1 r2 I' s'=>c6u tb I' (.inl r1) r2 q fun z qz=>k z L' qz S' H' I' s'⟩
end
end
noncomputable def a0k:Expr→Bool | .Starred ..=>true | _=>false
noncomputable def a3y:Expr→Bool | .Slice ..=>true | _=>false
noncomputable def c2a:Expr→Bool
 | .UnaryOp .Not _ _=>false
 | .BoolOp ..=>false
 | .IfExp ..=>false
 | .Compare ..=>false
 | _=>true
section
variable {X:Cx} {C:CC} {n:Nat} {sp:Γd→Nat→Sp} {a b d x y z:Expr} {ea eb ec:EW} {pos:Pos}
theorem a0c {xs:List Expr} {env:Env} (h:a0k x=false):starEach (x :: xs) env=(false,eval x env) :: starEach xs env:=by
 cases x <;> first | rfl | (cases h; done)
theorem a8f (h:a3y y=false):b8r y:=by
 intro o i
 cases y <;> first | rfl | (cases h; done)
theorem a9g {env:Env} (h:c2a x=true):∀ whole,isTrue x env whole=(do let v ← whole; standAt x.pos; holding [v] (PySem.truthy v)):=by
 intro whole
 cases x <;> first | rfl | (cases h; done) | (rename_i op x pos; cases op <;> first | rfl | (cases h; done))
theorem fe_eq (G:Good X C n sp) (ha:FE X C a ea) (hb:FR X C b eb):FE X C (.Compare a [.Eq] [b] pos) (eOp eqB ea eb):=b3a (q_eq G.room.units) ha hb (a1x _ (by decide) (by decide))
theorem fe_gt (ha:FE X C a ea) (hb:FR X C b eb):FE X C (.Compare a [.Gt] [b] pos) (eOp gtB ea eb):=b3a q_gt ha hb (a1x _ (by decide) (by decide))
theorem fe_ge (ha:FE X C a ea) (hb:FR X C b eb):FE X C (.Compare a [.GtE] [b] pos) (eOp geB ea eb):=b3a q_ge ha hb (a1x _ (by decide) (by decide))
theorem c1o {f:FV→FV→Option Bool} {g:Bool→FV} (h:∀ b,∃ c,g b=.bl c):a7o fun v w=>(f v w).map g:=fun v w z e=>by
 obtain ⟨b,_,rfl⟩:=mpd e
 exact h b
theorem c1p {f:Int→Int→Bool}:a7o (a3h fun i j=>some (.bl (f i j))):=fun v w z e=>by
 obtain ⟨i,_,e⟩:=bnd e
 obtain ⟨j,_,e⟩:=bnd e
 cases e; exact ⟨_,rfl⟩
theorem d2s:a7o ltB:=fun v w z e=>by
 cases v with
 | tup xs =>
  obtain ⟨_,_,e⟩:=bnd e
  obtain ⟨_,_,e⟩:=bnd e
  obtain ⟨_,_,e⟩:=bnd e
  cases e; exact ⟨_,rfl⟩
 | _=>exact c1p _ w z e
theorem fb_eq (G:Good X C n sp) (ha:FE X C a ea) (hb:FR X C b eb):FB X C (.Compare a [.Eq] [b] pos) (a1o (eOp eqB ea eb)):=a9t (c1o fun b=>⟨b,rfl⟩) (q_eq G.room.units) ha hb (a1x _ (by decide) (by decide))
theorem fb_ne (G:Good X C n sp) (ha:FE X C a ea) (hb:FR X C b eb):FB X C (.Compare a [.NotEq] [b] pos) (a1o (eOp neB ea eb)):=a9t (c1o fun b=>⟨!b,rfl⟩) (q_ne G.room.units) ha hb (a1x _ (by decide) (by decide))
theorem fb_lt (G:Good X C n sp) (ha:FE X C a ea) (hb:FR X C b eb):FB X C (.Compare a [.Lt] [b] pos) (a1o (eOp ltB ea eb)):=a9t d2s (q_lt G.room.units) ha hb (a1x _ (by decide) (by decide))
theorem fb_gt (ha:FE X C a ea) (hb:FR X C b eb):FB X C (.Compare a [.Gt] [b] pos) (a1o (eOp gtB ea eb)):=a9t c1p q_gt ha hb (a1x _ (by decide) (by decide))
variable {i:Nat} {nx:Str} {p:Pos}
section
variable {cop cop':CmpOp} {f g:FV→FV→Option FV}
end
end
section
variable {X:Cx} {C:CC} {n:Nat} {sp:Γd→Nat→Sp} {a b d x y z:Expr} {ea eb ec:EW} {ba bb:BW} {pos p:Pos}
variable {K:Γd} {c:Cn} {md:Md} {L:a0d} {σ:L2.St} {S H:Hp}
theorem b6f {v:FV} {x:V} (r1:RH K S H v x):a2m v=some (.bl (decide (x=V.non)))∧a0q v=some (.bl (!decide (x=V.non))):=by
 rcases r1 with r1 | ⟨a,rfl,_,ps,xs,e9,_⟩
 ·cases v <;> first | (cases (show x=_ from r1); simp [a2m,a0q]; done) | (obtain ⟨a,_,rfl,_⟩:=r1; simp [a2m,a0q]; done) | (obtain ⟨a,rfl,_⟩:=r1; simp [a2m,a0q]; done)
 ·cases v <;> first | (cases e9; done) | simp [a2m,a0q]
theorem fb_isN {j pos'} (ha:FR X C a ea):FB X C (.Compare a [.Is] [.Constant .none j pos'] pos) (a1o (eUn a2m ea)):=PT.imp (c1x (c8s ha)) fun σ H Q ⟨c,L,S,Q0,I,h,k⟩ =>
 ⟨c,L,S,_,I,h,fun v L1 hv x S1 H1 r1 I1 s1=>by
  obtain ⟨z,e3,q⟩:=wpx hv
  rw [(b6f r1).1] at e3; cases e3
  exact ⟨_,rfl,k _ L1 q S1 H1 I1 s1⟩⟩
theorem d6b {j pos'} (ha:FR X C a ea):FE X C (.Compare a [.IsNot] [.Constant .none j pos'] pos) (eUn a0q ea):=PE.imp (c8q (b6a ha)) fun σ H Q ⟨c,L,S,Q0,I,h,k⟩ =>
 ⟨c,L,S,_,I,h,fun v L1 hv x S1 H1 r1 I1 s1=>by
  obtain ⟨z,e3,q⟩:=wpx hv
  rw [(b6f r1).2] at e3; cases e3
  exact k _ L1 q _ S1 H1 rfl I1 s1⟩
theorem d7a {j pos'} (ha:FR X C a ea):FB X C (.Compare a [.IsNot] [.Constant .none j pos'] pos) (a1o (eUn a0q ea)):=PT.imp (c1x (b6a ha)) fun σ H Q ⟨c,L,S,Q0,I,h,k⟩ =>
 ⟨c,L,S,_,I,h,fun v L1 hv x S1 H1 r1 I1 s1=>by
  obtain ⟨z,e3,q⟩:=wpx hv
  rw [(b6f r1).2] at e3; cases e3
  exact ⟨_,rfl,k _ L1 q S1 H1 I1 s1⟩⟩
theorem fe_not (ha:FE X C a ea):FE X C (.UnaryOp .Not a pos) (eUn d1k ea):=PE.imp (c8m ha) fun σ H Q ⟨c,L,S,Q0,I,h,k⟩ =>
 ⟨c,L,S,_,I,h,fun v L1 hv x S1 H1 r1 I1 s1=>by
  obtain ⟨z,e,q⟩:=wpx hv
  obtain ⟨b,e1,rfl⟩:=mpd e
  cases d0y e1
  exact ⟨b,r1,k _ L1 q _ S1 H1 rfl I1 s1⟩⟩
theorem fe_neg (ha:FE X C a ea):FE X C (.UnaryOp .USub a pos) (eUn d4s ea):=PE.imp (d4f c6r ha) fun σ H Q ⟨c,L,S,Q0,I,h,k⟩ =>
 ⟨c,L,S,_,I,h,fun v L1 hv x S1 H1 r1 I1 s1=>by
  obtain ⟨z,e,q⟩:=wpx hv
  obtain ⟨b,e1,rfl⟩:=mpd e
  cases a1d e1
  exact ⟨b,r1,k _ L1 q _ S1 H1 rfl I1 s1⟩⟩
theorem b5f {v:FV} {u:V} {t:Bool} (s:Same S H) (r:RH K S H v u) (e:b9a v=some t):d2q K u H t:=by
 have em:∀ {ps:List FV} {xs:List V},RVs K S ps xs→(!ps.isEmpty) = !xs.isEmpty:=fun {ps xs} h=>by cases ps <;> cases xs <;> first | rfl | (have:=h.length; simp at this)
 cases v with
 | non=>cases (show u=V.non from r.val rfl); cases e; exact rfl
 | bl c=>cases r.bl; cases e; exact rfl
 | int c=>cases r.int; cases e; exact rfl
 | str c=>cases e
 | shn c=>cases e
 | dct _ _=>cases e
 | dci _ _=>cases e
 | dcz _ _ _=>cases e
 | tup ps =>
  obtain ⟨a,xs,rfl,h1,h2⟩:=r.tup s
  cases e
  exact .inr (.inl ⟨xs,SqT.of h1,em h2⟩)
 | lst l =>
  obtain ⟨a,xs,rfl,h1,h2⟩:=r.lst s
  cases e
  exact .inl ⟨xs,SqL.of h1,em h2⟩
 | scr ns =>
  cases e
  obtain ⟨a,xs,rfl,h1,h2⟩:=r.list s (show a1v (.scr ns)=_ from rfl)
  refine .inl ⟨_,h1,?_⟩
  rw [← em h2]; cases ns <;> rfl
theorem c4k {rest:List Expr} {ta tb:TE} (ha:PE X a ta) (hb:PE X (.BoolOp .And (b :: rest) pos) tb) :
  PE X (.BoolOp .And (a :: b :: rest) pos) (fun σ H Q=>ta σ H fun x H1=>∃ c,d2q X.K x H1 c∧(if c=true then tb σ H1 Q else Q x H1)):=by
 intro pins s σ H Q I h
 refine BoolOp_and (thn (ha pins s σ H _ I h) fun v s1 ⟨x,H1,I1,r1,c,tv,q1⟩=>?_)
 refine thn (c1n pins s1 σ H1 x v (fun c' H'=>c'=c∧H'=H1) I1 r1 ⟨c,tv,rfl,rfl⟩) fun b s2 ⟨H2,I2,e1,e2⟩=>?_
 subst e1 e2
 cases b with
 | true=>exact hb pins s2 σ H2 Q I2 (by simpa using q1)
 | false=>exact ⟨x,H2,I2,r1,by simpa using q1⟩
theorem fe_one {op:BoolOp} (ha:FE X C a ea):FE X C (.BoolOp op [a] pos) ea:=c8l ha
theorem fe_and {rest:List Expr} (ha:FE X C a ea) (hb:FE X C (.BoolOp .And (b :: rest) pos) eb):FE X C (.BoolOp .And (a :: b :: rest) pos) (c5r ea eb):=PE.imp (c4k ha hb) fun σ H Q ⟨c,L,S,Q0,I,h,k⟩ =>
 ⟨c,L,S,_,I,h,fun v L1 hv x S1 H1 r1 I1 s1=>by
  obtain ⟨t,e,q⟩:=wpx hv
  refine ⟨t,b5f I1.sub (.inl r1) e,?_⟩
  cases t with
  | true=>exact ⟨c,L1,S1,Q0,I1,q,fun v L' q x S' H' r I' s'=>k v L' q x S' H' r I' (s1.trans s')⟩
  | false=>exact k v L1 q x S1 H1 r1 I1 s1⟩
theorem fe_if (hc:FB X C d ba) (ha:FE X C a ea) (hb:FE X C b eb):FE X C (.IfExp d a b pos) (eIf ba ea eb):=PE.imp (b9y hc ha hb) fun σ H Q ⟨c,L,S,Q0,I,h,k⟩ =>
 ⟨c,L,S,_,I,h,fun t L1 hv S1 H1 I1 s1=>by
  cases t with
  | true=>exact ⟨c,L1,S1,Q0,I1,hv,fun v L' q x S' H' r I' s'=>k v L' q x S' H' r I' (s1.trans s')⟩
  | false=>exact ⟨c,L1,S1,Q0,I1,hv,fun v L' q x S' H' r I' s'=>k v L' q x S' H' r I' (s1.trans s')⟩⟩
theorem fb_val (hp:c2a a=true) (ha:FR X C a ea):FB X C a (a1o ea):=PT.imp (b9s ha (a9g hp)) fun σ H Q ⟨c,L,S,Q0,I,h,k⟩ =>
 ⟨c,L,S,_,I,h,fun v L1 hv x S1 H1 r1 I1 s1=>by
  obtain ⟨t,e,q⟩:=wpx hv
  exact ⟨t,b5f I1.sub r1 e,k t L1 q S1 H1 I1 s1⟩⟩
theorem fb_not (ha:FB X C a ba):FB X C (.UnaryOp .Not a pos) (b4t ba):=PT.imp (c7y ha) fun σ H Q ⟨c,L,S,Q0,I,h,k⟩=>⟨c,L,S,_,I,h,fun t L1 hv S1 H1 I1 s1=>k _ L1 hv S1 H1 I1 s1⟩
theorem d5e (ha:FB X C a ba):FW X C (.BoolOp .And [a] pos) ba:=c3t ha
theorem fw_or1 (ha:FB X C a ba):FW X C (.BoolOp .Or [a] pos) ba:=c7v ha
theorem fw_and {rest:List Expr} (ha:FB X C a ba) (hb:FW X C (.BoolOp .And (b :: rest) pos) bb):FW X C (.BoolOp .And (a :: b :: rest) pos) (c2o ba bb):=PW.imp (c7w ha hb) fun σ H Q ⟨c,L,S,Q0,I,h,k⟩ =>
 ⟨c,L,S,_,I,h,fun t L1 hv S1 H1 I1 s1=>by
  cases t with
  | true=>exact ⟨c,L1,S1,Q0,I1,hv,fun v L' q S' H' I' s'=>k v L' q S' H' I' (s1.trans s')⟩
  | false=>exact k _ L1 hv S1 H1 I1 s1⟩
theorem fw_or {rest:List Expr} (ha:FB X C a ba) (hb:FW X C (.BoolOp .Or (b :: rest) pos) bb):FW X C (.BoolOp .Or (a :: b :: rest) pos) (bOr ba bb):=PW.imp (d4b ha hb) fun σ H Q ⟨c,L,S,Q0,I,h,k⟩ =>
 ⟨c,L,S,_,I,h,fun t L1 hv S1 H1 I1 s1=>by
  cases t with
  | false=>exact ⟨c,L1,S1,Q0,I1,hv,fun v L' q S' H' I' s'=>k v L' q S' H' I' (s1.trans s')⟩
  | true=>exact k _ L1 hv S1 H1 I1 s1⟩
theorem fb_w (h:FW X C a ba):FB X C a ba:=PW.pt h
theorem fa_nil:FA X C [] a0i:=PA.imp a1p fun σ H Q ⟨c,L,S,Q0,I,h,k⟩=>k [] L h [] S H rfl I (Same.refl S)
theorem d7b {xs:List Expr} {as:AW} (hs:a0k a=false) (ha:FE X C a ea) (hr:FA X C xs as):FA X C (a :: xs) (a0a ea as):=PA.imp (a0p ha hr (a0c hs)) fun σ H Q ⟨c,L,S,Q0,I,h,k⟩ =>
 ⟨c,L,S,_,I,h,fun v L1 hv x S1 H1 r1 I1 s1=>⟨c,L1,S1,_,I1,hv,fun vs L2 hvs us S2 H2 r2 I2 s2=>k _ L2 hvs _ S2 H2 ⟨x,us,rfl,r1.mono s2,r2⟩ I2 (s1.trans s2)⟩⟩
theorem fe_tup {xs:List Expr} {as:AW} {m:Nat} (h:FA X C xs as):FE X C (.Tuple xs m pos) (a3b as):=PE.imp (c8i h) fun σ H Q ⟨c,L,S,Q0,I,h,k⟩ =>
 ⟨c,L,S,_,I,h,fun vs L1 hv us S1 H1 r1 I1 s1=>⟨by have:=a1m; rw [← r1.length]; exact Nat.le_trans hv.1 this,fun p hp=>(a9j I1 fun x S' H' r I' s'=>k _ L1 hv.2 x S' H' r I' (s1.trans s')).tup _ _ p rfl r1 hp⟩⟩
theorem fe_lst {xs:List Expr} {as:AW} (h:FA X C xs as):FE X C (.List xs pos) (a6u as):=PE.imp (c2b h) fun σ H Q ⟨c,L,S,Q0,I,h,k⟩ =>
 ⟨c,L,S,_,I,h,fun vs L1 hv us S1 H1 r1 I1 s1=>⟨by have:=a1m; rw [← r1.length]; exact Nat.le_trans hv.1 this,fun p hp=>(a9j I1 fun x S' H' r I' s'=>k _ L1 hv.2 x S' H' r I' (s1.trans s')).lst _ _ p rfl r1 hp⟩⟩
theorem ff_lst {xs:List Expr} {as:AW} (h:FA X C xs as):FF X C (.List xs pos) (a6u as):=PE.imp (c2b h) fun σ H Q ⟨c,L,S,Q0,I,h,k⟩ =>
 ⟨c,L,S,_,I,h,fun vs L1 hv us S1 H1 r1 I1 s1=>⟨by have:=a1m; rw [← r1.length]; exact Nat.le_trans hv.1 this,fun p hp=>(c4r I1 ⟨vs,rfl⟩ fun a S' H' o fr I' s'=>k _ L1 hv.2 a S' H' o fr I' (s1.trans s')).lst _ _ p rfl r1 hp⟩⟩
theorem fe_ix (hs:a3y b=false) (ha:FE X C a ea) (hb:FR X C b eb):FE X C (.Subscript a b pos) (eOp ixF ea eb):=PE.imp (c8o q_ix ha hb (a8f hs)) fun σ H Q ⟨c,L,S,Q0,I,h,k⟩ =>
 go2 ⟨c,L,S,fun x y L2=>wp (ixF x y) fun z=>Q0 z L2,I,h,fun v w L' S' H' x y q r1 r2 I' s'=>by
  obtain ⟨z,e,q⟩:=wpx q
  exact ⟨S',v,w,z,I'.sub,.inl r1,r2,e,fun u r=>k z L' q u S' H' r I' s'⟩⟩
theorem fe_ixN (G:Good X C n sp) {i:Nat} {nx:Str} (hs:a3y b=false) (h:C.nm i nx=true) (hb:FR X C b eb):FE X C (.Subscript (.Name nx p) b pos) (a6z ixF i eb):=PE.imp (c8o q_ix (a1u G h) hb (a8f hs)) fun σ H Q ⟨c,L,S,Q0,I,h,k⟩ =>
 go2N ⟨c,L,S,fun x y L2=>wp (ixF x y) fun z=>Q0 z L2,I,h,fun v w L' S' H' x y q r1 r2 I' s'=>by
  obtain ⟨z,e,q⟩:=wpx q
  exact ⟨S',v,w,z,I'.sub,r1,r2,e,fun u r=>k z L' q u S' H' r I' s'⟩⟩
theorem d5o:FO X C none c0d:=PO.imp c4c fun σ H Q ⟨c,L,S,Q0,I,h,k⟩=>k none L h S H I (Same.refl S)
theorem d5n (h:FE X C a ea):FO X C (some a) (c0c ea):=PO.imp (c4b h) fun σ H Q ⟨c,L,S,Q0,I,h,k⟩ =>
 ⟨c,L,S,_,I,h,fun v L1 hv x S1 H1 r1 I1 s1=>by
  obtain ⟨i,e,q⟩:=wpx hv
  cases a1d e
  exact ⟨i,r1,k _ L1 q S1 H1 I1 s1⟩⟩
variable {xl xh:Option Expr} {wl wh:OW} {p2:Pos}
theorem fe_sl (ha:FE X C a ea) (hl:FO X C xl wl) (hh:FO X C xh wh):FE X C (.Subscript a (.Slice xl xh none p2) pos) (eSl ea wl wh):=PE.imp (b1y q_sl ha hl hh) fun σ H Q ⟨c,L,S,Q0,I,h,k⟩ =>
 ⟨c,L,S,_,I,h,fun v L1 hv x S1 H1 r1 I1 s1=>⟨c,L1,S1,_,I1,hv,fun o1 L2 h1 S2 H2 I2 s2=>⟨c,L2,S2,_,I2,h1,fun o2 L3 h2 S3 H3 I3 s3=>by
  obtain ⟨z,e,q⟩:=wpx h2
  exact ⟨S3,v,z,I3.sub,.inl (r1.mono (s2.trans s3)),e,a9j I3 fun x S' H' r I' s'=>k z L3 q x S' H' r I' (s1.trans (s2.trans (s3.trans s')))⟩⟩⟩⟩
theorem sl_n {σ:L2.St} {i:Nat} {Q:VK} {Q1:FV→a0d→Prop} (I:Iv K c md L σ S H) (h:d0m i wl wh L Q1) (k:∀ v z o1 o2 L' S' H' x,a6b v o1 o2=some z→Q1 z L'→RH K S' H' v x→Iv K c md L' σ S' H'→Same S S'→NewOr K S' H' Q z):tSl (Rsl K) (c6j i) (lo K md wl) (lo K md wh) σ H Q:=by
 obtain ⟨_,e,h⟩:=wpx h
 obtain ⟨x,e1,_⟩:=I.rd e
 refine ⟨x,e1,c,L,S,_,I,h,fun o1 L2 h1 S2 H2 I2 s2=>⟨c,L2,S2,_,I2,h1,fun o2 L3 h2 S3 H3 I3 s3=>?_⟩⟩
 obtain ⟨v,e2,h3⟩:=wpx h2
 obtain ⟨z,e3,q⟩:=wpx h3
 obtain ⟨x',e4,r⟩:=I3.rd e2
 rw [e1] at e4; cases e4
 exact ⟨S3,v,z,I3.sub,r,e3,k v z o1 o2 L3 S3 H3 x e3 q r I3 (s2.trans s3)⟩
end
section
variable {X:Cx} {C:CC} {n:Nat} {sp:Γd→Nat→Sp} {a b d x y z:Expr} {ea eb ec:EW} {ba bb:BW} {pos p:Pos}
variable {K:Γd} {c:Cn} {md:Md} {L:a0d} {σ:L2.St} {S H:Hp} {i:Nat} {nx:Str}
variable {xl xh:Option Expr} {wl wh:OW} {p2:Pos}
theorem fe_slN (G:Good X C n sp) (h:C.nm i nx=true) (hl:FO X C xl wl) (hh:FO X C xh wh):FE X C (.Subscript (.Name nx p) (.Slice xl xh none p2) pos) (d0m i wl wh):=PE.imp (b1y q_sl (a1u G h) hl hh) fun σ H Q ⟨c,L,S,Q0,I,h,k⟩ =>
 sl_n I h fun v z o1 o2 L' S' H' x e q r I' s'=>a9j I' fun x S2 H2 r I2 s2=>k z L' q x S2 H2 r I2 (s'.trans s2)
noncomputable def sliceL (k:Nat) (l h:OW):EW:=fun L Q=>d0m k l h L fun z L'=>isL z=true∧(∃ ps,z=.lst ps)∧Q z L'
theorem d0v {f:FV→Option FV} {Q:VK} (hh:lv K md (eUn f ea) σ H Q):tCB (Rc K f) (b9b (lr K md ea) tNil) σ H Q:=by
 obtain ⟨c,L,S,Q0,I,h,k⟩:=hh
 refine ⟨c,L,S,_,I,h,fun v L1 hv x S1 H1 r1 I1 s1=>?_⟩
 obtain ⟨z,e,q⟩:=wpx hv
 exact ⟨S1,v,x,z,rfl,I1.sub,r1,e,a9j I1 fun x S' H' r I' s'=>k z L1 q x S' H' r I' (s1.trans s')⟩
theorem b7f {id nm:String} {f:FV→Option FV} (hc:a1k X.nox (.builtin id) (Rc X.K f)) (G:Good X C n sp) (hb:nm∈bltNames) (hv:bootBuiltins (Γe nm)=some (.builtin id)) (h1:Γe nm≠"__name__") (h2:(Γe nm == ("__debug__":Str))=false) (hg:C.gl (Γe nm)=true) (hs:a0k a=false) (ha:FR X C a ea) :
  FE X C (.Call (.Name (Γe nm) p) [a] [] pos) (eUn f ea):=PE.imp (a4k hc (G.gl hg) (G.blt nm hb) hv (a0p ha a1p (a0c hs)) h1 h2 (a0c hs) rfl) fun σ H Q h=>d0v h
theorem c0v {T nm:String} {f:FV→Option FV} (hc:a1k X.nox (.type T) (Rc X.K f)) (G:Good X C n sp) (hb:nm∈bltNames) (hv:bootBuiltins (Γe nm)=some (.type T)) (h1:Γe nm≠"__name__") (h2:(Γe nm == ("__debug__":Str))=false) (hg:C.gl (Γe nm)=true) (hs:a0k a=false) (ha:FR X C a ea) :
  FE X C (.Call (.Name (Γe nm) p) [a] [] pos) (eUn f ea):=PE.imp (a4j hc (G.gl hg) (G.blt nm hb) hv (a0p ha a1p (a0c hs)) h1 h2 (a0c hs) rfl) fun σ H Q h=>d0v h
theorem fe_len (G:Good X C n sp) (hg:C.gl (Γe "len")=true) (hs:a0k a=false) (ha:FR X C a ea):FE X C (.Call (.Name (Γe "len") p) [a] [] pos) (eUn a7h ea):=b7f d7r G (by decide) (by nofun) (by nofun) (by nofun) hg hs ha
theorem fe_abs (G:Good X C n sp) (hg:C.gl (Γe "abs")=true) (hs:a0k a=false) (ha:FR X C a ea):FE X C (.Call (.Name (Γe "abs") p) [a] [] pos) (eUn d1c ea):=b7f d7v G (by decide) (by nofun) (by nofun) (by nofun) hg hs ha
theorem fe_sum (G:Good X C n sp) (hg:C.gl (Γe "sum")=true) (hs:a0k a=false) (ha:FR X C a ea):FE X C (.Call (.Name (Γe "sum") p) [a] [] pos) (eUn c6y ea):=b7f (d7p G.calm) G (by decide) (by nofun) (by nofun) (by nofun) hg hs ha
theorem fe_all (G:Good X C n sp) (hg:C.gl (Γe "all")=true) (hs:a0k a=false) (ha:FR X C a ea):FE X C (.Call (.Name (Γe "all") p) [a] [] pos) (eUn c6n ea):=b7f (d7u G.calm) G (by decide) (by nofun) (by nofun) (by nofun) hg hs ha
theorem fe_any (G:Good X C n sp) (hg:C.gl (Γe "any")=true) (hs:a0k a=false) (ha:FR X C a ea):FE X C (.Call (.Name (Γe "any") p) [a] [] pos) (eUn c2p ea):=b7f (d7t G.calm) G (by decide) (by nofun) (by nofun) (by nofun) hg hs ha
theorem d1w (G:Good X C n sp) (hg:C.gl (Γe "int")=true) (hs:a0k a=false) (ha:FR X C a ea):FE X C (.Call (.Name (Γe "int") p) [a] [] pos) (eUn b1o ea):=c0v d7s G (by decide) (by nofun) (by nofun) (by nofun) hg hs ha
theorem d1u (G:Good X C n sp) (hg:C.gl (Γe "tuple")=true) (hs:a0k a=false) (ha:FR X C a ea):FE X C (.Call (.Name (Γe "tuple") p) [a] [] pos) (eUn a2l ea):=c0v c5z G (by decide) (by nofun) (by nofun) (by nofun) hg hs ha
theorem d6e (G:Good X C n sp) (hg:C.gl (Γe "list")=true) (hs:a0k a=false) (ha:FR X C a ea):FE X C (.Call (.Name (Γe "list") p) [a] [] pos) (eUn a3g ea):=c0v c2m G (by decide) (by nofun) (by nofun) (by nofun) hg hs ha
theorem d1v (G:Good X C n sp) (hg:C.gl (Γe "str")=true) (hs:a0k a=false) (ha:FR X C a ea):FE X C (.Call (.Name (Γe "str") p) [a] [] pos) (eUn c3e ea):=c0v (d7q G.room.units G.room.gd) G (by decide) (by nofun) (by nofun) (by nofun) hg hs ha
theorem d5x (G:Good X C n sp) (hg:C.gl (Γe "list")=true) (hs:a0k a=false) (ha:FR X C a ea):FF X C (.Call (.Name (Γe "list") p) [a] [] pos) (eUn a3g ea) :=
 PE.imp (a4j c2m (G.gl hg) (G.blt "list" (by decide)) (by nofun) (a0p ha a1p (a0c hs)) (by nofun) (by nofun) (a0c hs) rfl) fun σ H Q ⟨c,L,S,Q0,I,h,k⟩ =>
 ⟨c,L,S,_,I,h,fun v L1 hv x S1 H1 r1 I1 s1=>by
  obtain ⟨z,e,q⟩:=wpx hv
  obtain ⟨ps,e1,rfl⟩:=mpd e
  exact ⟨S1,v,x,_,rfl,I1.sub,r1,e,c4r I1 ⟨ps,rfl⟩ fun a S' H' o fr I' s'=>k _ L1 q a S' H' o fr I' (s1.trans s')⟩⟩
theorem d0f {id nm:String} {f:FV→FV→Option FV} (hc:a1k X.nox (.builtin id) (Rc2 X.K f)) (G:Good X C n sp) (hb:nm∈bltNames) (hv:bootBuiltins (Γe nm)=some (.builtin id)) (h1:Γe nm≠"__name__") (h2:(Γe nm == ("__debug__":Str))=false) (hg:C.gl (Γe nm)=true) (hs:a0k a=false) (hs2:a0k b=false) (ha:FE X C a ea) (hb':FR X C b eb) :
  FE X C (.Call (.Name (Γe nm) p) [a,b] [] pos) (eOp f ea eb):=PE.imp (a4k hc (G.gl hg) (G.blt nm hb) hv (a0p ha (a0p hb' a1p (a0c hs2)) (a0c hs)) h1 h2 (a0c hs) (by rw [a0c hs2]; rfl)) fun σ H Q ⟨c,L,S,Q0,I,h,k⟩ =>
 ⟨c,L,S,_,I,h,fun v L1 hv x S1 H1 r1 I1 s1=>⟨c,L1,S1,_,I1,hv,fun w L2 hw y S2 H2 r2 I2 s2=>by
  obtain ⟨z,e,q⟩:=wpx hw
  exact ⟨S2,v,w,x,y,z,rfl,I2.sub,.inl (r1.mono s2),r2,e,a9j I2 fun x S' H' r I' s'=>k z L2 q x S' H' r I' (s1.trans (s2.trans s'))⟩⟩⟩
theorem d6c (G:Good X C n sp) (hg:C.gl (Γe "min")=true) (hs:a0k a=false) (hs2:a0k b=false) (ha:FE X C a ea) (hb':FR X C b eb):FE X C (.Call (.Name (Γe "min") p) [a,b] [] pos) (eOp b3v ea eb):=d0f (d0w G.calm) G (by decide) (by nofun) (by nofun) (by nofun) hg hs hs2 ha hb'
theorem d6d (G:Good X C n sp) (hg:C.gl (Γe "max")=true) (hs:a0k a=false) (hs2:a0k b=false) (ha:FE X C a ea) (hb':FR X C b eb):FE X C (.Call (.Name (Γe "max") p) [a,b] [] pos) (eOp b6i ea eb):=d0f (d0x G.calm) G (by decide) (by nofun) (by nofun) (by nofun) hg hs hs2 ha hb'
noncomputable def b1m:Ty→String | .int=>"int" | .bool=>"bool" | .str=>"str" | .list=>"list" | .tuple=>"tuple"
theorem b8z {v:FV} {u:V} {t:Ty} {r:Bool} (s:Same S H) (rv:RH K S H v u) (e:a6j v t=some r):∃ T,TyOf K H u (.type T)∧PySem.W.kitOne K (.type T) (.type (b1m t))=some r:=by
 cases v with
 | non=>cases (show u=V.non from rv.val rfl); exact ⟨_,.non,by cases e; cases t <;> rfl⟩
 | bl c=>cases rv.bl; exact ⟨_,.bl _,by cases e; cases t <;> rfl⟩
 | int c=>cases rv.int; exact ⟨_,.int _,by cases e; cases t <;> rfl⟩
 | str c=>cases (show u=V.str _ from rv.val rfl); exact ⟨_,.str _,by cases e; cases t <;> rfl⟩
 | tup ps =>
  obtain ⟨a,xs,rfl,h1,h2⟩:=rv.tup s
  exact ⟨_,.tup h1,by cases e; cases t <;> rfl⟩
 | lst l =>
  obtain ⟨a,xs,rfl,h1,h2⟩:=rv.lst s
  exact ⟨_,.lst h1,by cases e; cases t <;> rfl⟩
 | scr ns=>cases e
 | dct _ _=>cases e
 | dci _ _=>cases e
 | dcz _ _ _=>cases e
 | shn d=>cases (show u=V.str _ from rv.val rfl); exact ⟨_,.str _,by cases e; cases t <;> rfl⟩
theorem fe_isi {t:Ty} {tn:Str} (G:Good X C n sp) (hg:C.gl (Γe "isinstance")=true) (ht:tn=Γe (b1m t)) (hg2:C.gl tn=true) (hs:a0k a=false) (ha:FR X C a ea) :
  FE X C (.Call (.Name (Γe "isinstance") p) [a,.Name tn p2] [] pos) (eUn (b8u t) ea):=by
 subst ht
 have cc:a1k X.nox (.builtin "isinstance") (fun xs H Q=>∃ v c b T,xs=[v,.ty c]∧TyOf X.K H v (.type T)∧PySem.W.kitOne X.K (.type T) (.type c)=some b∧Q (.bl b) H):=by
  rintro pins s σ H xs us Q I r ⟨v,c,b,T,rfl,h1,h2,q⟩
  obtain ⟨u,u',rfl,ru,ru'⟩:=b5c r
  obtain rfl:u'=.type c:=ru'
  exact b6w I ru h1 h2 fun tk=>⟨.bl b,H,I.tok _,rfl,q⟩
 have tt:PE X.nox (.Name (Γe (b1m t)) p2) (tC (.ty (b1m t))):=by
  cases t <;> exact c4j (G.gl hg2) (G.blt _ (by decide)) (by nofun) rfl (by nofun) (by nofun)
 refine PE.imp (a4k cc (G.gl hg) (G.blt "isinstance" (by decide)) (by nofun) (a0p ha (a0p tt a1p rfl) (a0c hs)) (by nofun) (by nofun) (a0c hs) rfl) fun σ H Q ⟨c,L,S,Q0,I,h,k⟩ =>
  ⟨c,L,S,_,I,h,fun v L1 hv x S1 H1 r1 I1 s1=>?_⟩
 obtain ⟨z,e,q⟩:=wpx hv
 obtain ⟨r,e1,rfl⟩:=mpd e
 obtain ⟨T,t1,t2⟩:=b8z I1.sub r1 e1
 exact ⟨x,_,_,T,rfl,t1,t2,k _ L1 q _ S1 H1 rfl I1 s1⟩
noncomputable def bmOk (apos cpos:Pos):Bool:=apos.endLine == cpos.line
theorem fe_app (G:Good X C n sp) {apos cpos:Pos} (h:C.nm i nx=true) (m:a0u C.md i=.own) (hl:bmOk apos cpos=true) (hs:a0k a=false) (ha:FE X C a ea):FE X C (.Call (.Attribute (.Name nx p) (Γe "append") apos) [a] [] cpos) (b7m d1a i ea):=by
 refine PE.imp (c8r PySem.F.plainAttrs_list PySem.F.slot_list_append PySem.F.type_list_append a9k (a1u G h) (a0p ha a1p (a0c hs)) rfl (by rw [a0c hs]; rfl) hl (a0c hs) rfl) fun σ H Q ⟨c,L,S,Q0,I,h,k⟩=>?_
 obtain ⟨v,e,h⟩:=wpx h
 obtain ⟨v9,e9,h⟩:=wpx h
 cases a3x e9
 have e':=(a2y _ _ _).mp e
 have mi:a0u C.md i≠.imm:=fun z=>by rw [m] at z; cases z
 obtain ⟨l,e1,⟨_,ps,xs,e8,h1,_⟩,_⟩:=I.own i _ mi e'
 refine ⟨_,e1,.inl ⟨rfl,xs,SqL.of h1⟩,c,L,S,_,I,h,fun w L1 hw y S1 H1 r1 I1 s1=>?_⟩
 obtain ⟨v1,e2,hw⟩:=wpx hw
 obtain ⟨z,e3,q⟩:=wpx hw
 have e2':=(a2y _ _ _).mp e2
 obtain ⟨qs,e4,e5⟩:=bnd e3
 cases a3x e4
 obtain ⟨hb,rfl⟩:=itd e5
 obtain ⟨l',f1,⟨f2,rs,zs,f3,f4,f5⟩,_⟩:=I1.own i _ mi e2'
 rw [e1] at f1; cases f1
 cases f3
 have:=a1m
 exact ⟨l,zs,y,rfl,rfl,f4,by rw [← f5.length]; lia,k _ _ q .non S1 _ rfl (I1.write m e2' e1 (f5.append (RVs.one r1))) s1⟩
end
noncomputable def ArgsOk (K:Γd) (S H:Hp) (args:List FV) (vs:List V):Bool→Prop
 | false=>RVs K S args vs
 | true=>∃ v r a us,args=v :: r∧vs=.ref a :: us∧a4y K S H a v∧RVs K S r us
noncomputable def c6g (K:Γd) (S' H' H:Hp) (v:FV) (x:V):Bool→Prop
 | false=>RV K S' v x
 | true=>∃ a,x=.ref a∧a4y K S' H' a v∧H a=none
noncomputable def b2j (vs:List V):Bool→Option Addr
 | false=>none
 | true=>match vs with
  | .ref a :: _=>some a
  | _=>none
structure Kept (K:Γd) (S H S' H':Hp) (P:Option Addr) (w:FV):Prop where
 same:Same S S'
 sub:Same S' H'
 grow:∀ a o,S' a=some o→S a=some o ∨ H a=none ∨ a8q o=true
 keep:∀ a o,H a=some o→P≠some a→H' a=some o
 back:∀ a,P=some a→a4y K S' H' a w
noncomputable def spQ (K:Γd) (call:CW) (io fr:Bool) (f:Nat):Sp:=fun vs H Q E=>∃ S args Q0,Same S H∧ArgsOk K S H args vs io∧call f args Q0∧∀ z,Q0 z→∀ x S' H',Kept K S H S' H' (b2j vs io) z.2→c6g K S' H' H z.1 x fr→Q x H'
section
variable {X:Cx} {C:CC} {n:Nat} {sp:Γd→Nat→Sp} {a b d x y z:Expr} {ea eb ec:EW} {pos p:Pos} {call:CW}
variable {K:Γd} {c:Cn} {md:Md} {L:a0d} {σ:L2.St} {S H S' H':Hp} {i f:Nat} {nx:Str} {xs:List Expr} {as:AW}
noncomputable def a2d (xs:List Expr):Bool:=xs.all fun x=>!a0k x
theorem b1s:∀ {xs:List Expr} {env:Env},a2d xs=true→(backTo pos (starEach xs env)).any (·.1)=false
 | [],_,_=>rfl
 | x :: xs,env,h=>by
  have h:=b2 (show (!a0k x && a2d xs)=true from h)
  rw [a0c (nb h.1)]
  show (false || (backTo pos (starEach xs env)).any (·.1))=false
  rw [b1s h.2]; rfl
theorem Kept.iv (I:Iv K c md L σ S H) {w:FV} (k:Kept K S H S' H' none w):Iv K c md L σ S' H':=I.go3 k.same k.sub k.grow fun a o e=>k.keep a o e (by simp)
theorem b1h (G:Good X C n sp) {t:TA} (hf:C.fns[f]?=some nx) (hg:C.gl nx=true) (hd:(nx == ("__debug__":Str))=false) (hs:a2d (a :: xs)=true) (ha:PA X.nox (a :: xs) t):PE X.nox (.Call (.Name nx p) (a :: xs) [] pos) (fun σ H Q=>t σ H fun vs H1=>sp X.K f vs H1 Q E0):=by
 obtain ⟨fa,fd,ps,h1,h2,h3,h4⟩:=G.fns f nx hf
 have h:=b2 (show (!a0k a && a2d xs)=true from hs)
 refine PE.imp (c4i (X:=X.nox) h4 G.room (G.gl hg) h1 h2 h3 .nil d4h ha hd (a0c (nb h.1)) (b1s h.2)) fun σ H Q q=>?_
 show t σ H fun vs H1=>sp X.K f (vs++[]) H1 Q E0
 have e:(fun vs H1=>sp X.K f (vs++[]) H1 Q E0)=fun vs H1=>sp X.K f vs H1 Q E0:=by funext vs H1; rw [List.append_nil]
 rw [e]; exact q
theorem d6i (G:Good X C n sp) (e:sp X.K f=spQ X.K call false false f) (hf:C.fns[f]?=some nx) (hg:C.gl nx=true) (hd:(nx == ("__debug__":Str))=false) (hs:a2d (a :: xs)=true) (ha:FA X C (a :: xs) as):FE X C (.Call (.Name nx p) (a :: xs) [] pos) (a1l call f as) :=
 PE.imp (b1h G hf hg hd hs ha) fun σ H Q ⟨c,L,S,Q0,I,h,k⟩=>⟨c,L,S,_,I,h,fun vs L1 hv us S1 H1 r1 I1 s1=>by
  rw [e]
  exact ⟨S1,vs,_,I1.sub,r1,hv,fun z q x S' H' kp r=>k _ L1 q x S' H' r (kp.iv I1) (s1.trans kp.same)⟩⟩
theorem d5z (G:Good X C n sp) (e:sp X.K f=spQ X.K call false true f) (hf:C.fns[f]?=some nx) (hg:C.gl nx=true) (hd:(nx == ("__debug__":Str))=false) (hs:a2d (a :: xs)=true) (ha:FA X C (a :: xs) as):FF X C (.Call (.Name nx p) (a :: xs) [] pos) (a1l call f as) :=
 PE.imp (b1h G hf hg hd hs ha) fun σ H Q ⟨c,L,S,Q0,I,h,k⟩=>⟨c,L,S,_,I,h,fun vs L1 hv us S1 H1 r1 I1 s1=>by
  rw [e]
  refine ⟨S1,vs,_,I1.sub,r1,hv,fun z q x S' H' kp r=>?_⟩
  obtain ⟨a,rfl,o,hn⟩:=r
  exact k _ L1 q a S' H' o (I1.fresh hn) (kp.iv I1) (s1.trans kp.same)⟩
theorem b6g {v:FV} {q:Addr} (I:Iv K c md L σ S H) (o:a4y K S H q v) (fr:b0h c md L σ q):∃ u,H q=some u∧Iv K c md L σ (upd S q u) H∧RV K (upd S q u) v (.ref q):=by
 obtain ⟨h1,ps,us,e0,h2,h3⟩:=o
 have s:=a0m (o:=d1h v us) h1
 refine ⟨_,h2,⟨I.len,fun i v h e=>let ⟨x,e1,r⟩:=I.imm i v h e; ⟨x,e1,r.mono s⟩,fun i v h e=>?_,I.dis,fun a u e=>?_,I.frame,I.s0.trans s,fun a u e=>?_,I.lent,I.fzs,I.fzm,I.fzp,fun p hp=>let ⟨g1,g2,g3⟩:=I.prs p hp; ⟨g1,by rw [a0e (fr.2.1 p hp)]; exact g2,g3⟩,I.ntp⟩,?_⟩
 ·obtain ⟨b,e1,⟨g1,rs,zs,g2,g3,g4⟩,g5⟩:=I.own i v h e
  have hb:b≠q:=fun z=>by subst z; exact fr.2.2 i v h e e1
  exact ⟨b,e1,⟨by rw [a0e hb]; exact g1,rs,zs,g2,g3,g4.mono s⟩,g5⟩
 ·by_cases z:a=q
  ·subst z; rw [a0f] at e; cases e; exact h2
  ·rw [a0e z] at e; exact I.sub a u e
 ·by_cases z:a=q
  ·subst z; exact .inr (.inl fr.1)
  ·rw [a0e z] at e; exact I.grow a u e
 ·cases v with
  | lst qs=>cases e0; exact ⟨q,us,rfl,a0f,h3.mono s⟩
  | dct ks vs=>obtain ⟨hl,rfl⟩:=itd e0; exact ⟨q,us,rfl,hl,a0f,h3.mono s⟩
  | dci ks vs=>obtain ⟨hl,rfl⟩:=itd e0; exact ⟨q,us,rfl,hl,a0f,h3.mono s⟩
  | dcz o ks vs=>obtain ⟨hl,rfl⟩:=itd e0; exact ⟨q,us,rfl,hl,a0f,h3.mono s⟩
  | _=>cases e0
theorem a2n (h:FF X C a ea):FE X C a ea:=PE.imp h fun σ H Q ⟨c,L,S,Q0,I,h,k⟩=>⟨c,L,S,Q0,I,h,fun v L' q a S' H' o fr I' s'=>by
 obtain ⟨u,hu,I2,r⟩:=b6g I' o fr
 exact k v L' q _ _ H' r I2 (s'.trans (a0m o.1))⟩
theorem c4m (G:Good X C n sp) {t:TA} (h:C.nm i nx=true) (hr:PA X.nox xs t):PA X.nox (.Name nx p :: xs) (b9b (c6j i) t):=a0p (a1u G h) hr rfl
theorem c1f {Q:VK} {fr:Bool} {Q1:FV→a0d→Prop} (I:Iv K c md L σ S H) (m:a0u md i=.own) (h:a0g call f i as L Q1)
  (k:∀ v L' x H1 S' H',Q1 v L'→c6g K S' H' H1 v x fr→Iv K c md L' σ S' H'→Same S S'→(∀ a,H1 a=none→b0h c md L' σ a)→Q x H'):b9b (c6j i) (la K md as) σ H fun vs H1=>spQ K call true fr f vs H1 Q E0:=by
 obtain ⟨v0,e,h⟩:=wpx h
 have mi:a0u md i≠.imm:=fun z=>by rw [m] at z; cases z
 obtain ⟨l,e1,_⟩:=I.own i v0 mi ((a2y _ _ _).mp e)
 refine ⟨_,e1,c,L,S,_,I,h,fun vs L1 hv us S1 H1 r1 I1 s1=>?_⟩
 obtain ⟨v1,e2,q⟩:=wpx hv
 have e2:=(a2y _ _ _).mp e2
 obtain ⟨l',f1,o,_⟩:=I1.own i v1 mi e2
 rw [e1] at f1; cases f1
 refine ⟨S1,v1 :: vs,_,I1.sub,⟨v1,vs,l,us,rfl,rfl,o,r1⟩,q,fun z q x S' H' kp r=>?_⟩
 have I2:=I1.back3 m e2 e1 kp.same kp.sub kp.grow (fun b o e n=>kp.keep b o e fun z=>n (by cases z; rfl)) (kp.back l rfl)
 refine k _ _ x H1 S' H' q r I2 (s1.trans kp.same) fun a ha=>⟨I1.h0 ha,(I1.fresh ha).2.1,fun j w mj ej z=>?_⟩
 obtain ⟨_,_,g2⟩:=I1.fresh ha
 by_cases hj:j=i
 ·subst hj; exact g2 j v1 mj e2 z
 ·rw [List.getElem?_set_ne (Ne.symm hj)] at ej; exact g2 j w mj ej z
theorem d2a (G:Good X C n sp) {np:Str} {pp:Pos} (e:sp X.K f=spQ X.K call true false f) (hf:C.fns[f]?=some np) (hg:C.gl np=true) (hd:(np == ("__debug__":Str))=false) (h:C.nm i nx=true) (m:a0u C.md i=.own) (hs:a2d xs=true) (ha:FA X C xs as):FE X C (.Call (.Name np pp) (.Name nx p :: xs) [] pos) (a0g call f i as) :=
 PE.imp (b1h G hf hg hd (show (true && a2d xs)=true by rw [hs]; rfl) (c4m G h ha)) fun σ H Q ⟨c,L,S,Q0,I,h,k⟩=>by
  rw [e]
  exact c1f I m h fun v L' x H1 S' H' q r I' s' _=>k v L' q x S' H' r I' s'
end
section
variable {K:Γd} {c:Cn} {md:Md} {L:a0d} {σ:L2.St} {S H:Hp} {i:Nat} {v:FV} {x:V} {a:Addr}
theorem Iv.setI (I:Iv K c md L σ S H) (m:a0u md i=.imm) (r:RV K S v x):Iv K c md (L.set i (some v)) (σ.set i (some x)) S H :=
 I.set (fun a h z=>by subst z; exact (I.lent a h).1 m) (fun z=>by rw [m] at z; cases z) (.inl ⟨m,r⟩)
theorem Iv.prot (I:Iv K c md L σ S H) {o:HO} (h:H a=some o) (hs:S a=none) (ho:∀ i v,a0u md i=.own→L[i]?=some (some v)→σ[i]?≠some (some (.ref a))) (nt:a8q o=false:=by first | rfl | exact a6g _ _):Iv K { c with pr:=(a,o) :: c.pr } md L σ S H :=
 ⟨I.len,I.imm,I.own,I.dis,I.sub,I.frame,I.s0,I.grow,I.lent,I.fzs,I.fzm,fun p hp=>let ⟨xs,h⟩:=I.fzp p hp; ⟨xs,List.mem_cons_of_mem _ h⟩,fun p hp=>(List.mem_cons.mp hp).elim (fun e=>e ▸ ⟨h,hs,ho⟩) (I.prs p),fun p hp=>(List.mem_cons.mp hp).elim (fun e=>e ▸ nt) (I.ntp p)⟩
theorem b2f:∀ {md:Md} {i j:Nat} {m:Mo},i < md.length→a0u (md.set i m) j=if j=i then m else a0u md j
 | [],i,j,m,h=>absurd h (Nat.not_lt_zero _)
 | a :: md,0,0,m,h=>rfl
 | a :: md,0,j + 1,m,h=>by simp [a0u]
 | a :: md,i + 1,0,m,h=>by simp [a0u]
 | a :: md,i + 1,j + 1,m,h=>by
  have:=b2f (md:=md) (i:=i) (j:=j) (m:=m) (by simpa using h)
  simpa [a0u] using this
theorem c2d:∀ {md:Md} {i:Nat},a0u md i=.own→i < md.length
 | [],i,h=>by simp [a0u] at h
 | a :: md,0,h=>by simp
 | a :: md,i + 1,h=>by simpa using c2d (md:=md) (i:=i) h
theorem Iv.frz (I:Iv K c md L σ S H) {ob:HO} (m:a0u md i=.own) (e:L[i]?=some (some v)) (e1:σ[i]?=some (some (.ref a))) (h:H a=some ob) :
  Iv K { c with fz:=(i,a) :: c.fz,pr:=(a,ob) :: c.pr } (md.set i .frz) L σ S H∧∀ L σ S H,Iv K { c with fz:=(i,a) :: c.fz,pr:=(a,ob) :: c.pr } (md.set i .frz) L σ S H→Iv K c md L σ S H:=by
 have hl:=c2d m
 have mi:a0u md i≠.imm:=fun z=>by rw [m] at z; cases z
 have M:∀ j,a0u (md.set i .frz) j=if j=i then .frz else a0u md j:=fun j=>b2f hl
 have im:∀ {j},a0u (md.set i .frz) j=.imm↔a0u md j=.imm:=fun {j}=>by
  rw [M]
  by_cases q:j=i
  ·subst q; rw [if_pos rfl,m]; simp
  ·rw [if_neg q]
 have nfz:∀ p∈c.fz,p.1≠i:=fun p hp z=>by have:=(I.fzs p hp).1; rw [z,m] at this; cases this
 have npr:∀ p∈c.pr,p.1≠a:=fun p hp z=>(I.prs p hp).2.2 i v m e (by rw [z]; exact e1)
 obtain ⟨a',f1,o,_⟩:=I.own i v mi e
 rw [e1] at f1; cases f1
 have nt:a8q ob=false:=by
  obtain ⟨_,_,_,_,h5,_⟩:=o
  rw [h] at h5; rw [Option.some.inj h5,a6g]
 constructor
 ·refine ⟨I.len,fun j w h=>I.imm j w (im.mp h),fun j w h=>I.own j w (fun z=>h (im.mpr z)),fun j k w u b h1 h2=>I.dis j k w u b (fun z=>h1 (im.mpr z)) (fun z=>h2 (im.mpr z)),I.sub,I.frame,I.s0,I.grow,fun b hb=>let ⟨g1,g2⟩:=I.lent b hb; ⟨fun z=>g1 (im.mp z),g2⟩,fun p hp=>?_,fun j w hm hj=>?_,fun p hp=>?_,fun p hp=>?_,fun p hp=>(List.mem_cons.mp hp).elim (fun z=>by rw [z]; exact nt) (I.ntp p)⟩
  ·rcases List.mem_cons.mp hp with rfl | hp
   ·exact ⟨by rw [M,if_pos rfl],e1,v,e⟩
   ·obtain ⟨g1,g2⟩:=I.fzs p hp
    exact ⟨by rw [M,if_neg (nfz p hp)]; exact g1,g2⟩
  ·by_cases q:j=i
   ·subst q; exact ⟨a,List.mem_cons_self⟩
   ·rw [M,if_neg q] at hm
    obtain ⟨b,g1⟩:=I.fzm j w hm hj
    exact ⟨b,List.mem_cons_of_mem _ g1⟩
  ·rcases List.mem_cons.mp hp with rfl | hp
   ·exact ⟨_,List.mem_cons_self⟩
   ·obtain ⟨ys,g⟩:=I.fzp p hp
    exact ⟨ys,List.mem_cons_of_mem _ g⟩
  ·have own':∀ {j},a0u (md.set i .frz) j=.own→j≠i∧a0u md j=.own:=fun {j} z=>by
    by_cases q:j=i
    ·subst q; rw [M,if_pos rfl] at z; cases z
    ·rw [M,if_neg q] at z; exact ⟨q,z⟩
   rcases List.mem_cons.mp hp with rfl | hp
   ·exact ⟨h,o.1,fun j w hm hj hz=>(own' hm).1 (I.dis j i w v a (fun z=>by rw [(own' hm).2] at z; cases z) mi hj e hz e1)⟩
   ·obtain ⟨g1,g2,g3⟩:=I.prs p hp
    exact ⟨g1,g2,fun j w hm=>g3 j w (own' hm).2⟩
 ·intro L σ S H J
  obtain ⟨_,j1,_⟩:=J.fzs (i,a) List.mem_cons_self
  refine ⟨J.len,fun j w h=>J.imm j w (im.mpr h),fun j w h=>J.own j w (fun z=>h (im.mp z)),fun j k w u b h1 h2=>J.dis j k w u b (fun z=>h1 (im.mp z)) (fun z=>h2 (im.mp z)),J.sub,J.frame,J.s0,J.grow,fun b hb=>let ⟨g1,g2⟩:=J.lent b hb; ⟨fun z=>g1 (im.mpr z),g2⟩,fun p hp=>?_,fun j w hm hj=>?_,I.fzp,fun p hp=>?_,I.ntp⟩
  ·obtain ⟨g1,g2⟩:=J.fzs p (List.mem_cons_of_mem _ hp)
   rw [M,if_neg (nfz p hp)] at g1
   exact ⟨g1,g2⟩
  ·have q:j≠i:=fun z=>by rw [z,m] at hm; cases hm
   obtain ⟨b,g1⟩:=J.fzm j w (by rw [M,if_neg q]; exact hm) hj
   rcases List.mem_cons.mp g1 with z | g1
   ·exact absurd (Prod.mk.inj z).1 q
   ·exact ⟨b,g1⟩
  ·obtain ⟨g1,g2,g3⟩:=J.prs p (List.mem_cons_of_mem _ hp)
   refine ⟨g1,g2,fun j w hm hj=>?_⟩
   by_cases q:j=i
   ·subst q; rw [j1]; exact fun z=>npr p hp (by cases z; rfl)
   ·exact g3 j w (by rw [M,if_neg q]; exact hm) hj
end
noncomputable def ItR (K:Γd) (c:Cn) (md:Md) (J:It) (xs:List FV) (S1:Hp):Prop :=
 ∀ (i:Nat) (L:a0d) (σ:L2.St) (S H:Hp),Iv K c md L σ S H→Same S1 S→(xs[i]?=none→J.stop i H)∧∀ p,xs[i]?=some p→J.go i H∧∀ v H',J.yld i H v H'→∃ S',Same S S'∧(∀ c md L σ,Iv K c md L σ S H→Iv K c md L σ S' H')∧RV K S' p v
noncomputable def li (K:Γd) (md md':Md) (it:AW):TI:=fun σ H R=>∃ c L S Q0,Iv K c md L σ S H∧it L Q0∧∀ xs L',Q0 xs L'→∀ J c' S' H',Iv K c' md' L' σ S' H'→(∀ L σ S H,Iv K c' md' L σ S H→Iv K c md L σ S H)→c'.H0=c.H0→ItR K c' md' J xs S'→Same S S'→R J H'
noncomputable def FI (X:Cx) (C:CC) (md':Md) (tg iter:Expr) (it:AW):Prop:=PI X.nox tg iter (li X.K C.md md' it)
section
variable {X:Cx} {C:CC} {n:Nat} {sp:Γd→Nat→Sp} {a b d x y z tg:Expr} {ea eb ec:EW} {pos p:Pos}
variable {K:Γd} {c:Cn} {md:Md} {L:a0d} {σ:L2.St} {S H:Hp} {i:Nat} {nx:Str}
theorem PI.imp {X:Cx} {tg it:Expr} {t u:TI} (h:PI X tg it t) (f:∀ σ H R,u σ H R→t σ H R):PI X tg it u:=fun pins s σ H R I hu=>h pins s σ H R I (f σ H R hu)
noncomputable def Its (K:Γd):Bool→Addr→It
 | true,a=>Itl K a
 | false,a=>Itt K a
theorem c8f {X:Cx} {tg it:Expr} {te:TE} (h:PE X it te):PI X tg it (fun σ H R=>te σ H fun v H1=>∃ b a xs,v=.ref a∧SqB b X.K H1 a xs∧R (Its X.K b a) H1):=by
 intro pins s σ H R I hh
 refine thn (h pins s σ H _ I hh) fun v s1 ⟨x,H1,I1,r1,b,a,xs,e,hq,q⟩=>?_
 subst e
 cases r1
 cases b with
 | true =>
  obtain ⟨its,rv,p,hz⟩:=I1.list hq
  refine wpAny_pyIter_list p.isList ?_
  refine ⟨s1.heap.objs.size,[s1.heap.objs.size],_,_,H1,rfl,I1.kept (t':=s1.toks) fun b o e=>Γc _ e,b5d a _,⟨_,Heap.get?_push_size _ rfl,rfl,rfl⟩,fun b hb=>?_,q⟩
  have e:b=s1.heap.objs.size:=by simpa using hb
  subst e
  exact I1.fpOk (Nat.le_refl _) (I1.hok.fresh (Nat.le_refl _))
 | false =>
  obtain ⟨its,rv,p,hz⟩:=I1.tuple hq
  refine wpAny_pyIter_tuple p ?_
  refine ⟨s1.heap.objs.size,[s1.heap.objs.size],_,_,H1,rfl,I1.kept (t':=s1.toks) fun b o e=>Γc _ e,b3n a _,⟨_,Heap.get?_push_size _ rfl,rfl,rfl⟩,fun b hb=>?_,q⟩
  have e:b=s1.heap.objs.size:=by simpa using hb
  subst e
  exact I1.fpOk (Nat.le_refl _) (I1.hok.fresh (Nat.le_refl _))
theorem c9w {t:Bool} {q:Addr} {ps:List FV} {S1:Hp} (h:∀ L σ S H,Iv K c md L σ S H→Same S1 S→∃ vs,SqB t K H q vs∧RVs K S ps vs):ItR K c md (Its K t q) ps S1:=by
 intro i L σ S H I s
 obtain ⟨vs,h1,h2⟩:=h L σ S H I s
 cases t with
 | true =>
  refine ⟨fun e=>⟨vs,h1,by rw [← h2.length]; exact List.getElem?_eq_none_iff.mp e⟩,fun p ep=>?_⟩
  obtain ⟨v,e1,r1⟩:=h2.get ep
  refine ⟨⟨vs,v,h1,e1⟩,fun w H' ⟨eh,y⟩=>?_⟩
  have:=y vs h1
  rw [e1] at this; cases this
  subst eh
  exact ⟨S,Same.refl S,fun _ _ _ _ I=>I,r1⟩
 | false =>
  refine ⟨fun e=>⟨vs,h1,by rw [← h2.length]; exact List.getElem?_eq_none_iff.mp e⟩,fun p ep=>?_⟩
  obtain ⟨v,e1,r1⟩:=h2.get ep
  refine ⟨⟨vs,v,h1,e1⟩,fun w H' ⟨eh,y⟩=>?_⟩
  have:=y vs h1
  rw [e1] at this; cases this
  subst eh
  exact ⟨S,Same.refl S,fun _ _ _ _ I=>I,r1⟩
theorem RV.stays {v:FV} {ps:List FV} {u:V} {S1:Hp} (r:RV K S1 v u) (e:a4z v=some ps):∃ q,u=.ref q∧∀ S H,Same S1 S→Same S H→∃ vs,SqB (isL v) K H q vs∧RVs K S ps vs:=by
 cases v with
 | tup qs=>cases e; obtain ⟨q,vs,rfl,h1,h2⟩:=r; exact ⟨q,rfl,fun S H s s'=>⟨vs,SqT.of (s' _ _ (s _ _ h1)),h2.mono s⟩⟩
 | lst qs=>cases e; obtain ⟨q,vs,rfl,h1,h2⟩:=r; exact ⟨q,rfl,fun S H s s'=>⟨vs,SqL.of (s' _ _ (s _ _ h1)),h2.mono s⟩⟩
 | scr ns=>cases e; obtain ⟨q,rfl,h⟩:=r; exact ⟨q,rfl,fun S H s s'=>⟨_,h.sq (s.trans s'),RVs.ns ns⟩⟩
 | _=>cases e
theorem fi_seq (ha:FE X C a ea):FI X C C.md tg a (b2v ea):=PI.imp (c8f ha) fun σ H R ⟨c,L,S,Q0,I,h,k⟩ =>
 ⟨c,L,S,_,I,h,fun v L1 hv x S1 H1 r1 I1 s1=>by
  obtain ⟨ps,e,q⟩:=wpx hv
  obtain ⟨l,rfl,st⟩:=r1.stays e
  obtain ⟨vs,h1,h2⟩:=st S1 H1 (Same.refl _) I1.sub
  exact ⟨isL v,l,vs,rfl,h1,k ps L1 q _ c S1 H1 I1 (fun _ _ _ _ I=>I) rfl (c9w fun L σ S H I s=>st S H s I.sub) s1⟩⟩
theorem c4l {v:FV} {qs ps:List FV} (e2:d1g v=some qs) (e0:a4z v=some ps):v=.lst ps∧qs=ps:=by
 cases v <;> first | (cases e2; cases e0; exact ⟨rfl,rfl⟩) | cases e2 | cases e0
theorem b0j:∀ (n:Nat) (lo:Int) (i:Nat),(upF lo n)[i]?=if i < n then some (.int (lo + i)) else none
 | 0,lo,i=>by simp [upF]
 | n + 1,lo,0=>by simp [upF]
 | n + 1,lo,i + 1=>by
  show (upF (lo + 1) n)[i]?=_
  rw [b0j n (lo + 1) i]
  have e:lo + 1 + (i:Int)=lo + ((i + 1:Nat):Int):=by lia
  rw [e]
  simp
theorem c9x {lo:Int} {m:Nat} {S1:Hp}:ItR K c md (Itr lo m) (upF lo m) S1:=by
 intro i L σ S H I s
 rw [b0j]
 by_cases h:i < m
 ·rw [if_pos h]
  refine ⟨fun e=>(nomatch e),fun p e=>?_⟩
  cases e
  exact ⟨h,fun v H' ⟨e1,e2⟩=>⟨S,Same.refl S,by rw [e1]; exact fun _ _ _ _ I=>I,e2⟩⟩
 ·rw [if_neg h]
  exact ⟨fun _=>show m≤i by lia,fun p e=>(nomatch e)⟩
theorem fi_rng (G:Good X C n sp) (hg:C.gl (Γe "range")=true) (hs:a0k a=false) (ha:FE X C a ea):FI X C C.md tg (.Call (.Name (Γe "range") p) [a] [] pos) (a8r ea):=PI.imp (b5x (G.gl hg) (G.blt "range" (by decide)) (a0p ha a1p (a0c hs)) (a0c hs)) fun σ H R ⟨c,L,S,Q0,I,h,k⟩ =>
 ⟨c,L,S,_,I,h,fun v L1 hv x S1 H1 r1 I1 s1=>by
  obtain ⟨j,e,hb,q⟩:=wpx hv
  cases a1d e
  have hb:=de hb
  exact ⟨j,by rw [show x=.int j from r1],hb.1,hb.2,k _ L1 q _ c S1 H1 I1 (fun _ _ _ _ I=>I) rfl c9x s1⟩⟩
theorem b2d {P Q:FV} {u w:V} {pp:Addr} (I:Iv K c md L σ S H) (hp:H pp=none) (r1:RV K S P u) (r2:RV K S Q w):∃ S',Same S S'∧(∀ c md L σ,Iv K c md L σ S H→Iv K c md L σ S' (upd H pp (.tup [u,w])))∧RV K S' (.tup [P,Q]) (.ref pp) :=
 ⟨upd S pp (.tup [u,w]),a0m (I.sn hp),fun _ _ _ _ I=>I.new hp _,pp,[u,w],rfl,a0f,u,[w],rfl,r1.mono (a0m (I.sn hp)),w,[],rfl,r2.mono (a0m (I.sn hp)),rfl⟩
theorem b6u {t t':Bool} {q q':Addr} {ps qs:List FV} {S1:Hp} (h:∀ L σ S H,Iv K c md L σ S H→Same S1 S→∃ vs,SqB t K H q vs∧RVs K S ps vs) (h':∀ L σ S H,Iv K c md L σ S H→Same S1 S→∃ vs,SqB t' K H q' vs∧RVs K S qs vs):ItR K c md (Iz2 K t t' q q') (a3p ps qs) S1:=by
 intro i L σ S H I s
 obtain ⟨vs,h1,h2⟩:=h L σ S H I s
 obtain ⟨ws,g1,g2⟩:=h' L σ S H I s
 unfold a3p
 rw [List.getElem?_zipWith]
 refine ⟨fun z=>⟨vs,ws,h1,g1,?_⟩,fun y ey=>?_⟩
 ·rw [← h2.length,← g2.length]
  cases c1:ps[i]? with
  | none=>exact .inl (List.getElem?_eq_none_iff.mp c1)
  | some _ =>
   cases c2:qs[i]? with
   | none=>exact .inr (List.getElem?_eq_none_iff.mp c2)
   | some _=>rw [c1,c2] at z; cases z
 ·cases c1:ps[i]? with
  | none=>rw [c1] at ey; cases ey
  | some p1 =>
   cases c2:qs[i]? with
   | none=>rw [c1,c2] at ey; cases ey
   | some q1 =>
    rw [c1,c2] at ey
    cases ey
    obtain ⟨v,f1,f2⟩:=h2.get c1
    obtain ⟨w,f3,f4⟩:=g2.get c2
    refine ⟨⟨vs,ws,v,w,h1,g1,f1,f3⟩,fun z H' ⟨pp,hp,ez,yy⟩=>?_⟩
    have:=yy vs ws v w h1 g1 f1 f3
    subst this ez
    exact b2d I hp f2 f4
theorem c5f {t:Bool} {q:Addr} {ps:List FV} {S1:Hp} (h:∀ L σ S H,Iv K c md L σ S H→Same S1 S→∃ vs,SqB t K H q vs∧RVs K S ps vs):ItR K c md (Ien K t q) (a3p (upF 0 ps.length) ps) S1:=by
 intro i L σ S H I s
 obtain ⟨vs,h1,h2⟩:=h L σ S H I s
 unfold a3p
 rw [List.getElem?_zipWith,b0j]
 refine ⟨fun z=>⟨vs,h1,?_⟩,fun y ey=>?_⟩
 ·rw [← h2.length]
  by_cases hi:i < ps.length
  ·rw [if_pos hi,List.getElem?_eq_getElem hi] at z; cases z
  ·lia
 ·by_cases hi:i < ps.length
  ·rw [if_pos hi,List.getElem?_eq_getElem hi] at ey
   cases ey
   obtain ⟨v,f1,f2⟩:=h2.get (List.getElem?_eq_getElem hi)
   refine ⟨⟨vs,v,h1,f1⟩,fun z H' ⟨pp,hp,ez,yy⟩=>?_⟩
   have:=yy vs v h1 f1
   subst this ez
   exact b2d I hp (show RV K S (.int (0 + i)) (.int i) by show V.int i=V.int (0 + i); rw [Int.zero_add]) f2
  ·rw [if_neg hi] at ey; cases ey
variable {elts:List Expr} {kk:Nat} {tp:Pos}
theorem fi_zip (G:Good X C n sp) (hg:C.gl (Γe "zip")=true) (hs:a0k a=false) (hs2:a0k b=false) (ha:FE X C a ea) (hb:FE X C b eb):FI X C C.md (.Tuple elts kk tp) (.Call (.Name (Γe "zip") p) [a,b] [] pos) (c6m ea eb) :=
 PI.imp (c8e (G.gl hg) (G.blt "zip" (by decide)) (a0p ha (a0p hb a1p (a0c hs2)) (a0c hs)) (by rw [a0c hs,a0c hs2]; rfl) (a0c hs2)) fun σ H R ⟨c,L,S,Q0,I,h,k⟩ =>
 ⟨c,L,S,_,I,h,fun v L1 hv x S1 H1 r1 I1 s1=>⟨c,L1,S1,_,I1,hv,fun w L2 hw y S2 H2 r2 I2 s2=>by
  obtain ⟨ps,e,hw⟩:=wpx hw
  obtain ⟨qs,e',q⟩:=wpx hw
  obtain ⟨l,rfl,st⟩:=(r1.mono s2).stays e
  obtain ⟨l',rfl,st'⟩:=r2.stays e'
  obtain ⟨vs,h1,_⟩:=st S2 H2 (Same.refl _) I2.sub
  obtain ⟨ws,h2,_⟩:=st' S2 H2 (Same.refl _) I2.sub
  exact ⟨_,_,l,l',rfl,⟨vs,h1⟩,⟨ws,h2⟩,k _ L2 q _ c S2 H2 I2 (fun _ _ _ _ I=>I) rfl (b6u (fun L σ S H I s=>st S H s I.sub) fun L σ S H I s=>st' S H s I.sub) (s1.trans s2)⟩⟩⟩
theorem d5t (G:Good X C n sp) (hg:C.gl (Γe "enumerate")=true) (hs:a0k a=false) (ha:FE X C a ea):FI X C C.md (.Tuple elts kk tp) (.Call (.Name (Γe "enumerate") p) [a] [] pos) (b7a ea) :=
 PI.imp (d4e (G.gl hg) (G.blt "enumerate" (by decide)) (a0p ha a1p (a0c hs)) (a0c hs)) fun σ H R ⟨c,L,S,Q0,I,h,k⟩ =>
 ⟨c,L,S,_,I,h,fun v L1 hv x S1 H1 r1 I1 s1=>by
  obtain ⟨ps,e,q⟩:=wpx hv
  obtain ⟨l,rfl,st⟩:=r1.stays e
  obtain ⟨vs,h1,_⟩:=st S1 H1 (Same.refl _) I1.sub
  exact ⟨_,l,rfl,⟨vs,h1⟩,k _ L1 q _ c S1 H1 I1 (fun _ _ _ _ I=>I) rfl (c5f fun L σ S H I s=>st S H s I.sub) s1⟩⟩
end
noncomputable def gTs:List Nat→TGs
 | []=>d5d
 | i :: is=>c0t (a6m i) (gTs is)
noncomputable def gT (K:Γd):Tg→TG
 | .nm i=>a6m i
 | .tp is=>d1r K is.length (gTs is)
 | .tn i is=>d1r K 2 (c0t (a6m i) (c0t (d1r K is.length (gTs is)) d5d))
noncomputable def a5d (md:Md):Tg→Bool
 | .nm i=>decide (a0u md i=.imm)
 | .tp is=>is.all fun i=>decide (a0u md i=.imm)
 | .tn i is=>decide (a0u md i=.imm) && is.all fun i=>decide (a0u md i=.imm)
noncomputable def b3p (n:Nat):Tg→Bool
 | .nm i=>decide (n≤i)
 | .tp is=>is.all fun i=>decide (n≤i)
 | .tn i is=>decide (n≤i) && is.all fun i=>decide (n≤i)
noncomputable def FG (X:Cx) (t:Expr) (tg:Tg):Prop:=PG X.nox t (gT X.K tg)
section
variable {K:Γd} {c:Cn} {md:Md} {L:a0d} {σ:L2.St} {S H:Hp}
theorem a7y:∀ {is:List Nat} {ps:List FV} {vs:List V} {L L':a0d} {σ:L2.St},(is.all fun i=>decide (a0u md i=.imm))=true→Iv K c md L σ S H→RVs K S ps vs→a7z L is ps=some L' →
  ∃ σ',(∀ Q:L2.St→Hp→Prop,Q σ' H→gTs is vs σ H Q)∧Iv K c md L' σ' S H∧σ'.length=σ.length∧is.length=vs.length∧∀ n,(is.all fun i=>decide (n≤i))=true→∀ j,j < n→σ'[j]?=σ[j]?
 | [],[],vs,L,L',σ,_,I,r,e=>by cases (show vs=[] from r); cases e; exact ⟨σ,fun Q q=>⟨rfl,q⟩,I,rfl,rfl,fun _ _ _ _=>rfl⟩
 | i :: is,p :: ps,vs,L,L',σ,hm,I,r,e=>by
  obtain ⟨v,q,rfl,h1,h2⟩:=r
  have hm:=b2 (show (decide (a0u md i=.imm) && is.all fun i=>decide (a0u md i=.imm))=true from hm)
  obtain ⟨σ',g,I',l1,l2,far⟩:=a7y (is:=is) (ps:=ps) (vs:=q) hm.2 (I.setI (de hm.1) h1) h2 e
  refine ⟨σ',fun Q q'=>⟨v,q,rfl,g Q q'⟩,I',by rw [l1,List.length_set],by rw [List.length_cons,List.length_cons,l2],fun n hn j hj=>?_⟩
  have hn:=b2 (show (decide (n≤i) && is.all fun i=>decide (n≤i))=true from hn)
  have:=de hn.1
  rw [far n hn.2 j hj,List.getElem?_set_ne (by lia)]
 | [],p :: ps,_,_,_,_,_,_,_,e=>by cases e
 | i :: is,[],_,_,_,_,_,_,_,e=>by cases e
theorem b2y {tg:Tg} {v:FV} {x:V} {Q:a0d→Prop} (hm:a5d md tg=true) (I:Iv K c md L σ S H) (r:RV K S v x) (h:gW tg v L Q) :
  ∃ σ' L',(∀ Q':L2.St→Hp→Prop,Q' σ' H→gT K tg x σ H Q')∧Q L'∧Iv K c md L' σ' S H∧σ'.length=σ.length∧∀ n,b3p n tg=true→∀ j,j < n→σ'[j]?=σ[j]?:=by
 cases tg with
 | nm i =>
  refine ⟨σ.set i (some x),L.set i (some v),fun Q q=>q,h,I.setI (de hm) r,List.length_set ..,fun n hn j hj=>?_⟩
  have:n≤i:=de hn
  exact List.getElem?_set_ne (by lia)
 | tp is =>
  obtain ⟨ps,e,h⟩:=wpx h
  obtain ⟨L',e1,q⟩:=wpx h
  cases a1q e
  obtain ⟨a,vs,rfl,h1,h2⟩:=r
  obtain ⟨σ',g,I',l1,l2,far⟩:=a7y hm I h2 e1
  exact ⟨σ',L',fun Q q=>⟨a,vs,rfl,SqT.of (I.sub _ _ h1),l2.symm,g Q q⟩,q,I',l1,far⟩
 | tn i is =>
  have hm:=b2 hm
  obtain ⟨ps,e,h⟩:=wpx h
  obtain ⟨p,e1,h⟩:=wpx h
  obtain ⟨qs,e2,h⟩:=wpx h
  obtain ⟨L',e3,q⟩:=wpx h
  cases a1q e
  obtain ⟨p1,p2⟩:=p
  obtain rfl:ps=[p1,p2]:=by
   rcases ps with _ | ⟨a,_ | ⟨b,_ | ⟨c,r⟩⟩⟩ <;> first | (cases e1; done) | (cases e1; rfl)
  obtain ⟨a,vs,rfl,h1,h2⟩:=r
  obtain ⟨u,w,rfl,r1,r2⟩:=h2.two_of
  cases a1q e2
  obtain ⟨b,ws,rfl,h3,h4⟩:=r2
  obtain ⟨σ',g,I',l1,l2,far⟩:=a7y hm.2 (I.setI (de hm.1) r1) h4 e3
  refine ⟨σ',L',fun Q q=>⟨a,_,rfl,SqT.of (I.sub _ _ h1),rfl,_,_,rfl,_,_,rfl,b,ws,rfl,SqT.of (I.sub _ _ h3),l2.symm,g _ ⟨rfl,q⟩⟩,q,I',by rw [l1,List.length_set],fun n hn j hj=>?_⟩
  have hn:=b2 hn
  have:=de hn.1
  rw [far n hn.2 j hj,List.getElem?_set_ne (by lia)]
theorem Iv.regrow {a:Addr} {o o':HO} (I:Iv K { c with pr:=(a,o) :: c.pr } md L σ S H) (h0:c.H0 a=none) (hp:∀ p∈c.pr,p.1≠a) (hz:∀ p∈c.fz,∃ o,(p.2,o)∈c.pr) (nt:a8q o'=false:=by first | rfl | exact a6g _ _):Iv K { c with pr:=(a,o') :: c.pr } md L σ S (upd H a o'):=by
 obtain ⟨_,sa,na⟩:=I.prs (a,o) List.mem_cons_self
 have oa:∀ j w b,a0u md j≠.imm→L[j]?=some (some w)→σ[j]?=some (some (.ref b))→b≠a:=fun j w b hm hj hs z=>by
  subst z
  by_cases m:a0u md j=.own
  ·exact na j w m hj hs
  ·have m:a0u md j=.frz:=by cases q:a0u md j with | imm=>exact absurd q hm | own=>exact absurd q m | frz=>rfl
   obtain ⟨b',g1⟩:=I.fzm j w m hj
   obtain ⟨_,g2,_⟩:=I.fzs _ g1
   rw [hs] at g2; cases g2
   obtain ⟨xs,g3⟩:=hz _ g1
   exact hp _ g3 rfl
 refine ⟨I.len,I.imm,fun j w hm hj=>?_,I.dis,fun b u e=>?_,fun b u e n=>?_,I.s0,I.grow,I.lent,I.fzs,I.fzm,fun p hpz=>let ⟨xs,g⟩:=hz p hpz; ⟨xs,List.mem_cons_of_mem _ g⟩,fun p hpr=>?_,fun p hpr=>(List.mem_cons.mp hpr).elim (fun z=>by rw [z]; exact nt) fun z=>I.ntp p (List.mem_cons_of_mem _ z)⟩
 ·obtain ⟨b,e1,⟨g1,ps,xs,g2,g3,g4⟩,g5⟩:=I.own j w hm hj
  exact ⟨b,e1,⟨g1,ps,xs,g2,by rw [a0e (oa j w b hm hj e1)]; exact g3,g4⟩,g5⟩
 ·rw [a0e fun z=>by subst z; rw [sa] at e; cases e]; exact I.sub b u e
 ·rw [a0e fun z=>by subst z; rw [h0] at e; cases e]; exact I.frame b u e n
 ·rcases List.mem_cons.mp hpr with rfl | hpr
  ·exact ⟨a0f,sa,na⟩
  ·obtain ⟨g1,g2,g3⟩:=I.prs p (List.mem_cons_of_mem _ hpr)
   exact ⟨by rw [a0e (hp p hpr)]; exact g1,g2,g3⟩
theorem Iv.unprot {a:Addr} {o:HO} (I:Iv K { c with pr:=(a,o) :: c.pr } md L σ S H) (hz:∀ p∈c.fz,∃ o,(p.2,o)∈c.pr):Iv K c md L σ S H :=
 ⟨I.len,I.imm,I.own,I.dis,I.sub,I.frame,I.s0,I.grow,I.lent,I.fzs,I.fzm,hz,fun p hp=>I.prs p (List.mem_cons_of_mem _ hp),fun p hp=>I.ntp p (List.mem_cons_of_mem _ hp)⟩
theorem c2e:∀ {md:Md} {i:Nat},md.length≤i→a0u md i=.imm
 | [],i,_=>rfl
 | a :: md,0,h=>absurd h (by simp)
 | a :: md,i + 1,h=>c2e (md:=md) (i:=i) (by simpa using h)
theorem Iv.more (I:Iv K c md L σ S H) (m:Nat):Iv K c md (L++List.replicate m none) (σ++List.replicate m none) S H:=by
 have look:∀ j w,(L++List.replicate m none)[j]?=some (some w)→L[j]?=some (some w)∧(σ++List.replicate m none)[j]?=σ[j]?:=fun j w z=>by
  by_cases h:j < L.length
  ·rw [List.getElem?_append_left h] at z
   exact ⟨z,List.getElem?_append_left (by rw [← I.len]; exact h)⟩
  ·rw [List.getElem?_append_right (by lia),List.getElem?_replicate] at z
   split at z <;> cases z
 have up:∀ j w,L[j]?=some (some w)→(L++List.replicate m none)[j]?=some (some w)∧(σ++List.replicate m none)[j]?=σ[j]?:=fun j w z=>by
  have h:=(List.getElem?_eq_some_iff.mp z).1
  exact ⟨by rw [List.getElem?_append_left h]; exact z,List.getElem?_append_left (by rw [← I.len]; exact h)⟩
 refine ⟨by simp [I.len],fun j w hm z=>?_,fun j w hm z=>?_,fun j k w u b m1 m2 z1 z2 y1 y2=>?_,I.sub,I.frame,I.s0,I.grow,fun b hb=>?_,fun p hp=>?_,fun j w hm z=>I.fzm j w hm (look j w z).1,I.fzp,fun p hp=>?_,I.ntp⟩
 ·obtain ⟨z,y⟩:=look j w z; rw [y]; exact I.imm j w hm z
 ·obtain ⟨z,y⟩:=look j w z; rw [y]; exact I.own j w hm z
 ·obtain ⟨z1,q1⟩:=look j w z1
  obtain ⟨z2,q2⟩:=look k u z2
  rw [q1] at y1; rw [q2] at y2
  exact I.dis j k w u b m1 m2 z1 z2 y1 y2
 ·obtain ⟨g1,g2,w,g3⟩:=I.lent b hb
  obtain ⟨f1,f2⟩:=up 0 w g3
  exact ⟨g1,by rw [f2]; exact g2,w,f1⟩
 ·obtain ⟨g1,g2,w,g3⟩:=I.fzs p hp
  obtain ⟨f1,f2⟩:=up p.1 w g3
  exact ⟨g1,by rw [f2]; exact g2,w,f1⟩
 ·obtain ⟨g1,g2,g3⟩:=I.prs p hp
  refine ⟨g1,g2,fun j w hm z=>?_⟩
  obtain ⟨z,y⟩:=look j w z
  rw [y]; exact g3 j w hm z
theorem Iv.take {n:Nat} {σ2:L2.St} (I:Iv K c md L σ2 S H) (hmd:md.length≤n) (hs:σ.length=n) (hl:n≤σ2.length) (e:∀ j,j < n→σ2[j]?=σ[j]?):Iv K c md (L.take n) σ S H:=by
 have look:∀ j w,(L.take n)[j]?=some (some w)→L[j]?=some (some w)∧σ[j]?=σ2[j]?:=fun j w z=>by
  have h:=(List.getElem?_eq_some_iff.mp z).1
  rw [List.length_take] at h
  rw [List.getElem?_take_of_lt (by lia)] at z
  exact ⟨z,(e j (by lia)).symm⟩
 have up:∀ j w,a0u md j≠.imm→L[j]?=some (some w)→(L.take n)[j]?=some (some w)∧σ[j]?=σ2[j]?:=fun j w hm z=>by
  have h:j < n:=by
   by_cases h:j < n
   ·exact h
   ·exact absurd (c2e (by lia)) hm
  exact ⟨by rw [List.getElem?_take_of_lt h]; exact z,(e j h).symm⟩
 refine ⟨by rw [List.length_take,I.len,hs]; lia,fun j w hm z=>?_,fun j w hm z=>?_,fun j k w u b m1 m2 z1 z2 y1 y2=>?_,I.sub,I.frame,I.s0,I.grow,fun b hb=>?_,fun p hp=>?_,fun j w hm z=>I.fzm j w hm (look j w z).1,I.fzp,fun p hp=>?_,I.ntp⟩
 ·obtain ⟨z,y⟩:=look j w z; rw [y]; exact I.imm j w hm z
 ·obtain ⟨z,y⟩:=look j w z; rw [y]; exact I.own j w hm z
 ·obtain ⟨z1,q1⟩:=look j w z1
  obtain ⟨z2,q2⟩:=look k u z2
  rw [q1] at y1; rw [q2] at y2
  exact I.dis j k w u b m1 m2 z1 z2 y1 y2
 ·obtain ⟨g1,g2,w,g3⟩:=I.lent b hb
  obtain ⟨f1,f2⟩:=up 0 w g1 g3
  exact ⟨g1,by rw [f2]; exact g2,w,f1⟩
 ·obtain ⟨g1,g2,w,g3⟩:=I.fzs p hp
  obtain ⟨f1,f2⟩:=up p.1 w (fun z=>by rw [g1] at z; cases z) g3
  exact ⟨g1,by rw [f2]; exact g2,w,f1⟩
 ·obtain ⟨g1,g2,g3⟩:=I.prs p hp
  refine ⟨g1,g2,fun j w hm z=>?_⟩
  obtain ⟨z,y⟩:=look j w z
  rw [y]; exact g3 j w hm z
theorem c1b {J:It} {xs:List FV} {n m:Nat} {tg:Tg} {t:BW} {e:EW} {Q:VK} {Q1:List FV→a0d→Prop} (I:Iv K c md L σ S H) (hJ:ItR K c md J xs S) (hL:L.length=n) (hmd:md.length≤n) (ht:a5d md tg=true) (hg:b3p n tg=true) (hb:xs.length≤big) (h:a5m n m tg t e xs [] L Q1)
  (k:∀ acc ps L' S' H',H acc=none→Q1 ps L'→a4y K S' H' acc (.lst ps)→b0h c md L' σ acc→Iv K c md L' σ S' H'→Same S S'→Q (.ref acc) H') :
  ∀ acc,H acc=none→∃ W:Nat→Nat→Hp→Prop,(∃ m,W 0 m (upd H acc (.lst [])))∧∀ i j H,W i j H →
   (J.stop i H∧Q (.ref acc) H) ∨ (J.go i H∧∀ x H',J.yld i H x H'→gT K tg x (σ++List.replicate m none) H' fun σ2 H2=>Wk (σ++List.replicate m none) σ2∧lb K md t σ2 H2 fun b H3 =>
    if b=true then lv K md e σ2 H3 fun v H4=>∃ ys,H4 acc=some (.lst ys)∧ys.length < sizeLine∧∃ m',m' < j∧W (i + 1) m' (upd H4 acc (.lst (ys++[v]))) else ∃ m',m' < j∧W (i + 1) m' H3):=by
 intro acc hacc
 have h0:=I.h0 hacc
 have hp:∀ p∈c.pr,p.1≠acc:=(I.fresh hacc).2.1
 have hz:=I.fzp
 have hl:σ.length=n:=by rw [← I.len]; exact hL
 have hbl:=a1m
 let W:Nat→Nat→Hp→Prop:=fun i j H1=>∃ L S1 ps us,j=(xs.drop i).length∧Iv K { c with pr:=(acc,.lst us) :: c.pr } md L σ S1 H1∧RVs K S1 ps us∧Same S S1∧L.length=n∧ps.length≤i∧a5m n m tg t e (xs.drop i) ps L Q1
 have I1:Iv K { c with pr:=(acc,.lst []) :: c.pr } md L σ S (upd H acc (.lst [])):=(I.lay hacc _).prot a0f (I.sn hacc) fun j w hm hj=>(I.fresh hacc).2.2 j w (fun z=>by rw [hm] at z; cases z) hj
 refine ⟨W,⟨_,L,S,[],[],rfl,I1,rfl,Same.refl S,hL,Nat.le_refl _,by rw [List.drop_zero]; exact h⟩,?_⟩
 rintro i j H1 ⟨L,S1,ps,us,rfl,I,r,s,hL,hps,hc⟩
 have I0:=I.unprot hz
 obtain ⟨j1,j2⟩:=hJ i L σ S1 H1 I0 s
 obtain ⟨g1,g2,g3⟩:=I.prs (acc,.lst us) List.mem_cons_self
 cases hd:xs.drop i with
 | nil =>
  left
  rw [hd] at hc
  refine ⟨j1 (List.getElem?_eq_none_iff.mpr (List.drop_eq_nil_iff.mp hd)),k acc ps L S1 H1 hacc hc ⟨g2,ps,us,rfl,g1,r⟩ ⟨h0,hp,fun q w hm hq hs=>?_⟩ I0 s⟩
  by_cases mo:a0u md q=.own
  ·exact g3 q w mo hq hs
  ·have mo:a0u md q=.frz:=by cases z:a0u md q with | imm=>exact absurd z hm | own=>exact absurd z mo | frz=>rfl
   obtain ⟨b,f1⟩:=I0.fzm q w mo hq
   obtain ⟨_,f2,_⟩:=I0.fzs _ f1
   rw [hs] at f2; cases f2
   obtain ⟨ys,f3⟩:=hz _ f1
   exact hp _ f3 rfl
 | cons p rest =>
  right
  rw [hd] at hc
  have hi:xs[i]?=some p:=by
   have:=congrArg (·[0]?) hd
   simpa using this
  have hd':xs.drop (i + 1)=rest:=by
   have:=congrArg List.tail hd
   simpa [List.tail_drop] using this
  have hix:i < xs.length:=(List.getElem?_eq_some_iff.mp hi).1
  obtain ⟨go,yl⟩:=j2 p hi
  refine ⟨go,fun x H2 y=>?_⟩
  obtain ⟨S2,s2,tr,rx⟩:=yl x H2 y
  have I2:=(tr _ _ _ _ I).more m
  obtain ⟨σ2,L2,gq,q2,I2,len2,far⟩:=b2y ht I2 rx hc
  have l2:n≤σ2.length:=by rw [len2,List.length_append,hl]; lia
  have far':∀ q,q < n→σ2[q]?=σ[q]?:=fun q hq=>by rw [far n hg q hq,List.getElem?_append_left (by rw [hl]; exact hq)]
  refine gq _ ⟨⟨len2,fun q v hv=>?_⟩,?_⟩
  ·have hq:q < n:=by
    by_cases h:q < σ.length
    ·rw [← hl]; exact h
    ·rw [List.getElem?_append_right (by lia),List.getElem?_replicate] at hv
     split at hv <;> cases hv
   rw [far n hg q hq]; exact hv
  ·refine ⟨_,L2,S2,_,I2,q2,fun b L3 hb3 S3 H3 I3 s3=>?_⟩
   cases b with
   | false =>
    rw [if_neg Bool.false_ne_true] at hb3 ⊢
    exact ⟨rest.length,by simp,L3.take n,S3,ps,us,by rw [hd'],I3.take hmd hl l2 far',r.mono (s2.trans s3),s.trans (s2.trans s3),by rw [List.length_take,I3.len]; lia,by lia,by rw [hd']; exact hb3⟩
   | true =>
    rw [if_pos rfl] at hb3 ⊢
    refine ⟨_,L3,S3,_,I3,hb3,fun v L4 hv u S4 H4 r4 I4 s4=>?_⟩
    obtain ⟨k1,_⟩:=I4.prs (acc,.lst us) List.mem_cons_self
    have lr:=r.length
    exact ⟨us,k1,by lia,rest.length,by simp,L4.take n,S4,ps++[v],us++[u],by rw [hd'],(I4.take hmd hl l2 far').regrow h0 hp hz,(r.mono (s2.trans (s3.trans s4))).append (RVs.one r4),s.trans (s2.trans (s3.trans s4)),by rw [List.length_take,I4.len]; lia,by simp; lia,by rw [hd']; exact hv⟩
end
noncomputable def b6x:Expr→Bool
 | .Set ..=>true
 | _=>false
theorem b7d {x:Expr} {env:Env} (h:b6x x=false):∀ v,foldedSetIterable x env v=pure v:=by
 intro v
 cases x <;> first | rfl | (cases h; done)
noncomputable def CC.tn (C:CC) (i:Nat) (x:Str):Bool:=decide (C.N[i]?=some x) && C.loc x
noncomputable def d3q (outer:List (Str×NameKind)) (names:List (Str×NameKind)):List (Str×NameKind) :=
 names.map fun (n,k)=>if (k == NameKind.free && outer.lookup n == some .cell) then (n,NameKind.cell) else (n,k)
noncomputable def CC.sub (C:CC) (scope:Scope) (own:List Str) (md:Md):CC:=⟨C.N.map (a8j own)++own,d3q C.sc scope.names,C.fns,md,false⟩
noncomputable def CC.scOk (C:CC) (scope:Scope) (own:List Str):Bool :=
 decide (scope.kind=.function) && scope.names.all (fun p=>decide (p.2≠.cell)) && scope.names.all (fun p=>decide (p.2=.local→scope.names.lookup p.1=some .local)) &&
 scope.names.all (fun p=>decide (p.2=.free→(C.sc.lookup p.1=some .cell ∨ C.sc.lookup p.1=some .free))) && C.N.all (fun x=>if own.contains x then decide (scope.names.lookup (d1q x)=none) else decide (scope.names.lookup x≠some .local)) && decide ((C.N.map (a8j own)++own).Nodup)
noncomputable def c9g:Md→Md→Bool
 | [],_=>true
 | a :: md,[]=>decide (a=.imm) && c9g md []
 | a :: md,b :: md'=>(decide (a=.imm) || !decide (b=.imm)) && c9g md md'
theorem a8i:∀ {md md':Md},c9g md md'=true→∀ j,a0u md j≠.imm→a0u md' j≠.imm
 | [],_,_,j,h=>absurd rfl h
 | a :: md,[],h,0,h0=>absurd (de (b2 h).1) h0
 | a :: md,[],h,j + 1,h0=>a8i (md:=md) (md':=[]) (b2 h).2 j h0
 | a :: md,b :: md',h,0,h0=>fun z=>by
  have h:=(b2 h).1
  have h0:a≠.imm:=h0
  have z:b=.imm:=z
  simp [h0,z] at h
 | a :: md,b :: md',h,j + 1,h0=>a8i (md:=md) (md':=md') (b2 h).2 j h0
noncomputable def FGs (X:Cx) (es:List Expr) (is:List Nat):Prop:=PGs X.nox es (gTs is)∧(assignEach es X.env).length=is.length∧(assignEach es X.env).findIdx? (·.1)=none
noncomputable def FTs (X:Cx) (C:CC) (xs:List Expr) (t:BW):Prop:=PTs X.nox xs (lb X.K C.md t)
section
variable {X:Cx} {C:CC} {n:Nat} {sp:Γd→Nat→Sp} {a b x:Expr} {xs:List Expr} {pos p:Pos} {i k:Nat} {nx:Str} {is:List Nat} {t u:BW}
theorem Good.ix (G:Good X C n sp) {y:Str} (h:decide (C.N[i]?=some y)=true):X.N[i]?=some y:=by rw [G.N]; exact de h
theorem Good.nd' (G:Good X C n sp):X.N.Nodup:=by rw [G.N]; exact G.nd
theorem d5v (G:Good X C n sp) (h:C.tn i nx=true):FG X (.Name nx p) (.nm i):=by
 have h:=b2 h
 obtain ⟨l1,l2⟩:=G.loc h.2
 exact c4f (X:=X.nox) G.nd' (G.ix h.1) l1 l2
theorem d5u:FGs X [] []:=⟨c4e,rfl,rfl⟩
theorem d1s (G:Good X C n sp) (h:C.tn i nx=true) (r:FGs X xs is):FGs X (.Name nx p :: xs) (i :: is):=by
 obtain ⟨h1,h2,h3⟩:=r
 refine ⟨b9x (d5v G h) h1 rfl,?_,?_⟩
 ·show (assignEach xs X.env).length + 1=is.length + 1
  rw [h2]
 ·show ((false,assign (.Name nx p) X.env) :: assignEach xs X.env).findIdx? (·.1)=none
  rw [List.findIdx?_cons]
  simp [h3]
theorem d0e (G:Good X C n sp) (r:FGs X xs is):FG X (.Tuple xs k p) (.tp is):=c8g (X:=X.nox) G.calm r.1 r.2.1 r.2.2
theorem PTs.imp {e:List Expr} {t u:TT} (h:PTs X e t) (f:∀ σ H Q,u σ H Q→t σ H Q):PTs X e u:=fun pins s σ H Q I hu=>h pins s σ H Q I (f σ H Q hu)
theorem d5g:FTs X C [] a1s:=PTs.imp b5s fun σ H Q ⟨c,L,S,Q0,I,h,k⟩=>k true L h S H I (Same.refl S)
theorem d5f (h1:FB X C a t):FTs X C [a] t:=PTs.imp (b9r h1 (b5s (X:=X.nox))) fun σ H Q ⟨c,L,S,Q0,I,h,k⟩ =>
 ⟨c,L,S,_,I,h,fun r L1 q S1 H1 I1 s1=>by
  cases r with
  | true=>rw [if_pos rfl]; exact k true L1 q S1 H1 I1 s1
  | false=>rw [if_neg Bool.false_ne_true]; exact k false L1 q S1 H1 I1 s1⟩
theorem Good.sub (G:Good X C n sp) {scope:Scope} {own:List Str} (h:C.scOk scope own=true) (md:Md):CScope X scope own∧∀ fp D s H,Good (cxC X scope own fp D s H) (C.sub scope own md) n sp:=by
 simp only [CC.scOk,Bool.and_eq_true,decide_eq_true_eq,List.all_eq_true] at h
 obtain ⟨⟨⟨⟨⟨h1,h2⟩,h3⟩,h4⟩,h5⟩,h6⟩:=h
 refine ⟨⟨h1,fun p hp=>by simpa using h2 p hp,fun p hp=>by simpa using h3 p hp,fun p hp hk=>?_,fun x hx hw=>?_,fun x hx hw=>?_⟩,fun fp D s H=>⟨?_,?_,h1,h6,G.calm,(fun z=>Bool.noConfusion z),G.room,G.fns,G.blt⟩⟩
 ·have:=h4 p hp
  show X.env.scope.names.lookup p.1=_ ∨ X.env.scope.names.lookup p.1=_
  rw [G.sc]; exact this hk
 ·have:=h5 x (by rw [← G.N]; exact hx)
  rw [if_neg (by rw [hw]; exact Bool.false_ne_true)] at this
  exact de this
 ·have:=h5 x (by rw [← G.N]; exact hx)
  rw [if_pos hw] at this
  exact de this
 ·show X.N.map (a8j own)++own=C.N.map (a8j own)++own
  rw [G.N]
 ·show (relabel scope X.env).names=d3q C.sc scope.names
  unfold relabel d3q
  simp only
  refine List.map_congr_left fun p hp=>?_
  obtain ⟨nm,kd⟩:=p
  show (if (kd == NameKind.free && X.env.scope.kind == .function && X.env.scope.names.lookup nm == some .cell)=true then (nm,NameKind.cell) else (nm,kd))=_
  rw [G.kind,G.sc]
  simp
variable {scope:Scope} {own:List Str} {elt tgx iter:Expr} {ifs:List Expr} {it:AW} {tg:Tg} {e:EW} {nn m:Nat} {md':Md}
structure CompOk (X:Cx) (C:CC) (n:Nat) (sp:Γd→Nat→Sp) (scope:Scope) (own:List Str) (elt tgx iter:Expr) (ifs:List Expr) (nn m:Nat) (md':Md) (it:AW) (tg:Tg) (t:BW) (e:EW):Prop where
 st:(C.scOk scope own && decide (C.N.length=nn) && decide (own.length=m) && decide (md'.length≤nn) && c9g C.md md' && a5d md' tg && b3p nn tg && !b6x iter)=true
 it:FI X C md' tgx iter it
 tg:∀ X',Good X' (C.sub scope own md') n sp→FG X' tgx tg
 ts:∀ X',Good X' (C.sub scope own md') n sp→FTs X' (C.sub scope own md') ifs t
 el:∀ X',Good X' (C.sub scope own md') n sp→FE X' (C.sub scope own md') elt e
theorem CompOk.run (G:Good X C n sp) (h:CompOk X C n sp scope own elt tgx iter ifs nn m md' it tg t e) {σ:L2.St} {H:Hp} {Q:VK} (hq:lf X.K C.md (a1t nn m it tg t e) σ H Q):c3a (li X.K C.md md' it) (gT X.K tg) (lb X.K md' t) (lv X.K md' e) own.length σ H Q:=by
 have h0:=b2 h.st; have h1:=b2 h0.1; have h2:=b2 h1.1; have h3:=b2 h2.1; have h4:=b2 h3.1; have h5:=b2 h4.1; have h6:=b2 h5.1
 obtain ⟨c,L,S,Q0,I,hh,k⟩:=hq
 refine ⟨c,L,S,_,I,hh,fun xs L1 hx J c' S1 H1 I1 un e0 hJ s1=>?_⟩
 obtain ⟨hl,hb,hc⟩:=hx
 rw [de h5.2]
 refine c1b I1 hJ hl (de h4.2) h2.2 h1.2 hb hc fun acc ps L' S' H' hn q o fr I' s'=>k _ L' q acc S' H' o ⟨by rw [← e0]; exact fr.1,((un _ _ _ _ I1).fresh hn).2.1,fun j w hm=>fr.2.2 j w (a8i h3.2 j hm)⟩ (un _ _ _ _ I') (s1.trans s')
theorem CompOk.blk (G:Good X C n sp) (h:CompOk X C n sp scope own elt tgx iter ifs nn m md' it tg t e):CScope X scope own∧(∀ fp D s H,PG (cxC X scope own fp D s H) tgx (gT X.K tg)∧PTs (cxC X scope own fp D s H) ifs (lb X.K md' t)∧PE (cxC X scope own fp D s H) elt (lv X.K md' e))∧∀ v,foldedSetIterable iter X.env v=pure v:=by
 have h0:=b2 h.st; have h1:=b2 h0.1; have h2:=b2 h1.1; have h3:=b2 h2.1; have h4:=b2 h3.1; have h5:=b2 h4.1; have h6:=b2 h5.1
 obtain ⟨s1,s2⟩:=G.sub h6.1 md'
 exact ⟨s1,fun fp D s H=>⟨h.tg _ (s2 fp D s H),h.ts _ (s2 fp D s H),h.el _ (s2 fp D s H)⟩,b7d (nb h0.2)⟩
theorem a0z (G:Good X C n sp) (h:CompOk X C n sp scope own elt tgx iter ifs nn m md' it tg t e):FF X C (.ListComp elt [⟨tgx,iter,ifs,0⟩] scope pos) (a1t nn m it tg t e):=by
 obtain ⟨s1,s2,s3⟩:=h.blk G
 exact PE.imp (b5z G.calm s1 h.it s2 s3) fun σ H Q q=>h.run G q
end
noncomputable def d8s (K:Γd) (c:Cn) (S H:Hp) (v:FV) (x:V):Bool→Prop
 | false=>RV K S v x
 | true=>∃ a,x=.ref a∧a4y K S H a v∧c.H0 a=none
noncomputable def EndQ (K:Γd) (c:Cn) (fr:Bool) (D:Ends) (σ:L2.St) (S H:Hp):FFl→Prop
 | .next=>D.nx σ H
 | .brk=>D.bk σ H
 | .cont=>D.ct σ H
 | .ret v=>∀ x,d8s K c S H v x fr→D.rt x H
noncomputable def ls (K:Γd) (md:Md) (fr:Bool) (s:SW):TS:=fun D σ H=>∃ c L S Q0,Iv K c md L σ S H∧s L Q0∧∀ fl L',Q0 fl L'→∀ σ' S' H',Iv K c md L' σ' S' H'→Same S S'→EndQ K c fr D σ' S' H' fl
noncomputable def FS (X:Cx) (C:CC) (fr:Bool) (x:Stmt) (s:SW):Prop:=PS X.nox x (ls X.K C.md fr s)
noncomputable def FSs (X:Cx) (C:CC) (fr:Bool) (x:List Stmt) (s:SW):Prop:=PSs X.nox x (ls X.K C.md fr s)
noncomputable def CC.wmd (C:CC) (md:Md):CC:=⟨C.N,C.sc,C.fns,md,C.top⟩
section
variable {X:Cx} {C:CC} {n:Nat} {sp:Γd→Nat→Sp} {fr:Bool} {a b x y:Expr} {e ea eb:EW} {pos p px py:Pos} {i j k:Nat} {nx ny:Str} {is:List Nat} {st:Stmt} {sts:List Stmt} {s r:SW}
variable {K:Γd} {c:Cn} {md:Md} {L:a0d} {σ:L2.St} {S H:Hp}
theorem Good.wmd (G:Good X C n sp) (md:Md):Good X (C.wmd md) n sp:=⟨G.N,G.sc,G.kind,G.nd,G.calm,G.fn,G.room,G.fns,G.blt⟩
theorem PS.imp {e:Stmt} {t u:TS} (h:PS X e t) (f:∀ D σ H,u D σ H→t D σ H):PS X e u:=fun pins s σ H D I hu=>h pins s σ H D I (f D σ H hu)
theorem PSs.imp {e:List Stmt} {t u:TS} (h:PSs X e t) (f:∀ D σ H,u D σ H→t D σ H):PSs X e u:=fun pins s σ H D I hu=>h pins s σ H D I (f D σ H hu)
theorem fs_nil:FSs X C fr [] a5a:=PSs.imp c3w fun D σ H ⟨c,L,S,Q0,I,h,k⟩=>k .next L h σ S H I (Same.refl S)
theorem a7n (h:FS X C fr st s):FSs X C fr [st] s:=c3v h
theorem a0o (h:FS X C fr st s) (h2:FSs X C fr sts r):FSs X C fr (st :: sts) (a0x s r):=PSs.imp (b9t h h2) fun D σ H ⟨c,L,S,Q0,I,h,k⟩ =>
 ⟨c,L,S,_,I,h,fun fl L1 q σ1 S1 H1 I1 s1=>by
  cases fl with
  | next=>exact ⟨c,L1,S1,_,I1,q,fun fl L2 q σ2 S2 H2 I2 s2=>k fl L2 q σ2 S2 H2 I2 (s1.trans s2)⟩
  | brk=>exact k _ L1 q σ1 S1 H1 I1 s1
  | cont=>exact k _ L1 q σ1 S1 H1 I1 s1
  | ret v=>exact k _ L1 q σ1 S1 H1 I1 s1⟩
noncomputable def a7k:Expr→Bool
 | .ListComp ..=>true
 | .SetComp ..=>true
 | .DictComp ..=>true
 | _=>false
theorem a4f {e:Expr} {t:Option Expr} {n:Nat} {env:Env} (h:a7k e=false):swapsWith e t n env=pure false:=by
 cases e <;> first | rfl | (cases h; done)
theorem d5l (hc:a7k a=false) (h:FE X C a e):FS X C fr (.Expr a pos) (c3j e):=PS.imp (c3y h (a4f hc)) fun D σ H ⟨c,L,S,Q0,I,h,k⟩ =>
 ⟨c,L,S,_,I,h,fun v L1 q x S1 H1 r I1 s1=>k .next L1 q σ S1 H1 I1 s1⟩
theorem fs_ret (h:FE X C a e):FS X C false (.Return (some a) pos) (a1n e):=PS.imp (b5t h) fun D σ H ⟨c,L,S,Q0,I,h,k⟩ =>
 ⟨c,L,S,_,I,h,fun v L1 q x S1 H1 r I1 s1=>k (.ret v) L1 q σ S1 H1 I1 s1 x r⟩
theorem d5k (h:FF X C a e):FS X C true (.Return (some a) pos) (a1n e):=PS.imp (b5t h) fun D σ H ⟨c,L,S,Q0,I,h,k⟩ =>
 ⟨c,L,S,_,I,h,fun v L1 q l S1 H1 o fr I1 s1=>k (.ret v) L1 q σ S1 H1 I1 s1 _ ⟨l,rfl,o,fr.1⟩⟩
theorem Iv.mine (I:Iv K c md L σ S H) {v:FV} {a:Addr} (hi:i≠0) (m:a0u md i≠.imm) (e:L[i]?=some (some v)) (e1:σ[i]?=some (some (.ref a))):c.H0 a=none:=by
 obtain ⟨b,e2,_,h⟩:=I.own i v m e
 rw [e1] at e2; cases e2
 rcases h with h | h
 ·obtain ⟨g1,g2,w,g3⟩:=I.lent a h
  exact absurd (I.dis i 0 v w a m g1 e g3 e1 g2) hi
 ·exact h
theorem d5j (G:Good X C n sp) (h:C.nm i nx=true) (m:(decide (a0u C.md i=.own) && decide (i≠0))=true):FS X C true (.Return (some (.Name nx p)) pos) (a1n (a0b i)):=PS.imp (b5t (a1u G h)) fun D σ H ⟨c,L,S,Q0,I,h,k⟩=>by
 have m:=b2 m
 have mi:a0u C.md i≠.imm:=fun z=>by rw [de m.1] at z; cases z
 obtain ⟨v,e,q⟩:=wpx h
 have e:=(a2y _ _ _).mp e
 obtain ⟨l,e1,o,_⟩:=I.own i v mi e
 exact ⟨_,e1,k (.ret v) L q σ S H I (Same.refl S) _ ⟨l,rfl,o,I.mine (de m.2) mi e e1⟩⟩
theorem fs_if {t:BW} {xa xb:List Stmt} (h:FB X C a t) (ha:FSs X C fr xa s) (hb:FSs X C fr xb r):FS X C fr (.If a xa xb pos) (sIf t s r):=PS.imp (d4c h ha hb) fun D σ H ⟨c,L,S,Q0,I,h,k⟩ =>
 ⟨c,L,S,_,I,h,fun v L1 q S1 H1 I1 s1=>by
  cases v with
  | true=>rw [if_pos rfl] at q ⊢; exact ⟨c,L1,S1,_,I1,q,fun fl L2 q σ2 S2 H2 I2 s2=>k fl L2 q σ2 S2 H2 I2 (s1.trans s2)⟩
  | false=>rw [if_neg Bool.false_ne_true] at q ⊢; exact ⟨c,L1,S1,_,I1,q,fun fl L2 q σ2 S2 H2 I2 s2=>k fl L2 q σ2 S2 H2 I2 (s1.trans s2)⟩⟩
theorem b1i {tg:Tg} {te:TE} (ht:a5d C.md tg=true) (hte:∀ σ H Q,lv X.K C.md e σ H Q→te σ H Q) (h:PS X.nox st (c1r te (gT X.K tg))):FS X C fr st (a1j e tg):=PS.imp h fun D σ H ⟨c,L,S,Q0,I,h,k⟩=>hte _ _ _
 ⟨c,L,S,_,I,h,fun v L1 q x S1 H1 r I1 s1=>by
  obtain ⟨σ',L',g,q,I2,_⟩:=b2y ht I1 r q
  exact g _ (k .next L' q σ' S1 H1 I2 s1)⟩
theorem c6e {te:TE} (m:a0u C.md i=.imm) (hte:∀ σ H Q,lf X.K C.md e σ H Q→te σ H Q) (h:PS X.nox st (c1r te (a6m i))):FS X C fr st (a1j e (.nm i)):=PS.imp h fun D σ H ⟨c,L,S,Q0,I,h,k⟩=>hte _ _ _
 ⟨c,L,S,_,I,h,fun v L1 q l S1 H1 o f I1 s1=>by
  obtain ⟨u,hu,I2,r⟩:=b6g I1 o f
  exact k .next _ q _ _ H1 (I2.setI m r) (s1.trans (a0m o.1))⟩
theorem c6d {te:TE} (m:(decide (a0u C.md i=.own) && decide (i≠0))=true) (hte:∀ σ H Q,lf X.K C.md e σ H Q→te σ H Q) (h:PS X.nox st (c1r te (a6m i))):FS X C fr st (a1j e (.nm i)):=PS.imp h fun D σ H ⟨c,L,S,Q0,I,h,k⟩=>hte _ _ _
 ⟨c,L,S,_,I,h,fun v L1 q l S1 H1 o f I1 s1=>by
  have m:=b2 m
  exact k .next _ q _ _ H1 (I1.set (fun _ _=>de m.2) (fun z=>by rw [de m.1] at z; cases z) (.inr ⟨de m.1,l,rfl,o,f.1,f.2.1,fun j w _ hm hj=>f.2.2 j w hm hj⟩)) s1⟩
theorem c3x (G:Good X C n sp) {te:TE} (ht:C.tn i nx=true) (hs:swapsWith a (some (.Name nx px)) pos.line X.env=pure false) (h:PE X.nox a te):PS X.nox (.Assign [.Name nx px] a pos) (c1r te (a6m i)):=by
 have ht:=b2 ht
 obtain ⟨l1,l2⟩:=G.loc ht.2
 exact c8a (X:=X.nox) G.nd' (G.ix ht.1) l1 h hs l2
theorem fs_set (G:Good X C n sp) (ht:C.tn i nx=true) (m:a0u C.md i=.imm) (hc:a7k a=false) (h:FE X C a e):FS X C fr (.Assign [.Name nx px] a pos) (a1j e (.nm i)) :=
 b1i (tg:=.nm i) (by simpa [a5d] using m) (fun _ _ _ z=>z) (c3x G ht (a4f hc) h)
theorem d5i (G:Good X C n sp) (ht:C.tn i nx=true) (m:(decide (a0u C.md i=.own) && decide (i≠0))=true) (hc:a7k a=false) (h:FF X C a e):FS X C fr (.Assign [.Name nx px] a pos) (a1j e (.nm i)) :=
 c6d m (fun _ _ _ z=>z) (c3x G ht (a4f hc) h)
noncomputable def swC (C:CC) (x:Str) (px:Pos) (scope:Scope) (p:Pos):Bool:=decide (C.sc.lookup x=some .local) && (px.line == p.line) && !(scope.names.any fun (n,k)=>n == x && (k == .local || k == .cell))
theorem c3c {elt:Expr} {gs:List Comprehension} {scope:Scope} {p px:Pos} {x:Str} {n:Nat} {env:Env} (hk:env.scope.kind=.function) :
  swapsWith (.ListComp elt gs scope p) (some (.Name x px)) n env=pure (decide (env.scope.names.lookup x=some .local) && (px.line == p.line) && !(scope.names.any fun (n,k)=>n == x && (k == .local || k == .cell))):=by
 have hb:env.blockKind=.function:=by unfold Env.blockKind; rw [hk]; rfl
 have:(env.kindOf x == some .local)=decide (env.scope.names.lookup x=some .local):=by
  rw [Bool.eq_iff_iff]; simp [Env.kindOf]
 unfold swapsWith
 simp only [hb,this]
 rfl
variable {scope:Scope} {own:List Str} {elt tgx iter:Expr} {ifs:List Expr} {it:AW} {tg:Tg} {t:BW} {nn m:Nat} {md':Md}
theorem c1a (G:Good X C n sp) (ht:C.tn i nx=true) (h:CompOk X C n sp scope own elt tgx iter ifs nn m md' it tg t e):∃ te:TE,(∀ σ H Q,lf X.K C.md (a1t nn m it tg t e) σ H Q→te σ H Q)∧PS X.nox (.Assign [.Name nx px] (.ListComp elt [⟨tgx,iter,ifs,0⟩] scope p) pos) (c1r te (a6m i)):=by
 have hsw:swapsWith (.ListComp elt [⟨tgx,iter,ifs,0⟩] scope p) (some (.Name nx px)) pos.line X.env=pure (swC C nx px scope p):=by rw [c3c G.kind,G.sc]; rfl
 obtain ⟨s1,s2,s3⟩:=h.blk G
 cases hb:swC C nx px scope p with
 | false =>
  rw [hb] at hsw
  exact ⟨_,fun σ H Q q=>h.run G q,c3x G ht hsw (b5z G.calm s1 h.it s2 s3)⟩
 | true =>
  rw [hb] at hsw
  have hlo:X.env.scope.names.lookup nx=some .local:=by
   rw [G.sc]
   have hb:=b2 hb
   exact de (b2 hb.1).1
  exact ⟨_,fun σ H Q q=>h.run G q,b3t G.calm s1 G.nd' (G.ix (b2 ht).1) hlo h.it s2 hsw s3⟩
theorem c5k (G:Good X C n sp) (ht:C.tn i nx=true) (hm:a0u C.md i=.imm) (h:CompOk X C n sp scope own elt tgx iter ifs nn m md' it tg t e):FS X C fr (.Assign [.Name nx px] (.ListComp elt [⟨tgx,iter,ifs,0⟩] scope p) pos) (a1j (a1t nn m it tg t e) (.nm i)) :=
 let ⟨te,h1,h2⟩:=c1a G ht h
 c6e hm h1 h2
noncomputable def tupX:Expr→Bool
 | .Tuple ..=>true
 | _=>false
noncomputable def b3q:Expr→Bool
 | .Starred ..=>true
 | _=>false
theorem fs_tup (G:Good X C n sp) {ts:List Expr} (hm:a5d C.md (.tp is)=true) (hn:tupX a=false) (hg:FGs X ts is) (h:FE X C a e):FS X C fr (.Assign [.Tuple ts k p] a pos) (a1j e (.tp is)) :=
 b1i (tg:=.tp is) hm (fun _ _ _ z=>z) (b5u (X:=X.nox) h (d0e G hg) (by cases a <;> rfl) (by cases a <;> first | rfl | (cases hn; done)) rfl)
noncomputable def a9i (sc:List (Str×NameKind)) (t:Expr):Bool:=match t with
 | .Name x _=>!(decide (sc.lookup x=some .local))
 | _=>true
theorem d3c {ts vs:List Expr} {k k2:Nat} {tp tp2:Pos} {env:Env} (h:4≤ts.length ∨ ∃ t∈ts,a9i env.scope.names t=true):swappedStores [.Tuple ts k tp] (.Tuple vs k2 tp2) env=pure none:=by
 unfold swappedStores
 simp only
 split
 ·rfl
 ·rename_i h1
  split
  ·rfl
  ·have hlen:ts.length=2 ∨ ts.length=3:=by
    simp only [Bool.or_eq_true,Bool.not_eq_true',bne_iff_ne,ne_eq,not_or,Bool.not_eq_false] at h1
    simpa using h1.1.1
   obtain ⟨t,ht,hn⟩:∃ t∈ts,a9i env.scope.names t=true:=by
    rcases h with h | h
    ·lia
    ·exact h
   have lt:∀ (l:List Expr) (f:Expr→Option Str),t∈l→f t=none→(l.filterMap f).length < l.length:=by
    intro l f
    induction l with
    | nil=>intro h; cases h
    | cons a r ih =>
     intro hm hf
     have le:=List.length_filterMap_le f r
     rcases List.mem_cons.mp hm with rfl | hm
     ·rw [List.filterMap_cons,hf,List.length_cons]; show (List.filterMap f r).length < _; lia
     ·rw [List.filterMap_cons]
      have:=ih hm hf
      split <;> simp only [List.length_cons] <;> lia
   have:=lt ts (fun
    | .Name id pos=>if env.kindOf id == some .local && pos.line == (ts.head?.map (·.pos.line)).getD 0 then some id else none
    | _=>none) ht (by
     cases t with
     | Name x p =>
      have hx:¬ env.scope.names.lookup x=some .local:=by simpa [a9i] using hn
      have hk:(env.kindOf x == some NameKind.local)=false:=by
       cases hq:(env.kindOf x == some NameKind.local) with
       | false=>rfl
       | true=>exact absurd (show env.kindOf x=some .local by simpa using hq) hx
      simp only [hk,Bool.false_and,Bool.false_eq_true,if_false]
     | _=>rfl)
   rw [if_pos]
   simp only [Bool.or_eq_true,bne_iff_ne,ne_eq]
   left
   exact Nat.ne_of_lt this
theorem d5h (G:Good X C n sp) {ts vs:List Expr} {k2:Nat} {p2:Pos} (hm:a5d C.md (.tp is)=true) (hn:(decide (4≤ts.length) || ts.any fun t=>a9i C.sc t)=true) (hg:FGs X ts is) (h:FE X C (.Tuple vs k2 p2) e):FS X C fr (.Assign [.Tuple ts k p] (.Tuple vs k2 p2) pos) (a1j e (.tp is)) :=
 b1i (tg:=.tp is) hm (fun _ _ _ z=>z) (b5u (X:=X.nox) h (d0e G hg) rfl (d3c (by
  show 4≤ts.length ∨ ∃ t∈ts,a9i X.env.scope.names t=true
  rw [G.sc]
  simpa using hn)) rfl)
theorem sw2 {x y:Str} {px py pt pt2:Pos} {kt k2:Nat} {a b:Expr} {env:Env} (hk:env.scope.kind=.function) (hx:env.scope.names.lookup x=some .local) (hy:env.scope.names.lookup y=some .local) (hxy:x≠y) (hl:(py.line == px.line)=true)
  (sa:b3q a=false) (sb:b3q b=false) (hf:(foldedForSure 8 a && foldedForSure 8 b)=false) (hc:(constantsAlone 8 a && constantsAlone 8 b)=false) :
  swappedStores [.Tuple [.Name x px,.Name y py] kt pt] (.Tuple [a,b] k2 pt2) env=pure (some [x,y]):=by
 have hb:env.blockKind=.function:=by unfold Env.blockKind; rw [hk]; rfl
 have kx:env.kindOf x=some .local:=hx
 have ky:env.kindOf y=some .local:=hy
 unfold swappedStores
 have hyx:¬ y=x:=fun z=>hxy z.symm
 have hs:([a,b].any fun | .Starred ..=>true | _=>false)=false:=by
  show (b3q a || (b3q b || false))=false
  rw [sa,sb]; rfl
 have hf':[a,b].all (foldedForSure 8)=false:=by simpa using hf
 have hc':[a,b].all (constantsAlone 8)=false:=by simpa using hc
 have hlx:((some (Expr.Name x px)).map (·.pos.line)).getD 0=px.line:=rfl
 simp only [List.length_cons,List.length_nil,hb,hs,hf',hc',List.head?_cons,hlx,List.filterMap_cons,List.filterMap_nil,kx,ky,hl,beq_self_eq_true,Bool.and_self,if_true]
 simp [List.eraseDups_cons,hyx,bne,hxy]
 intro h
 exfalso
 rcases h with h | h
 ·cases a <;> first | (cases h; done) | (cases sa; done)
 ·cases b <;> first | (cases h; done) | (cases sb; done)
noncomputable def d4i (C:CC) (i j:Nat) (x y:Str) (px py:Pos) (a b:Expr):Bool:=decide (C.N[i]?=some x) && decide (C.N[j]?=some y) && decide (i≠j) && decide (x≠y) && decide (C.sc.lookup x=some .local) && decide (C.sc.lookup y=some .local) && (py.line == px.line) && !b3q a && !b3q b && !(foldedForSure 8 a && foldedForSure 8 b) && !(constantsAlone 8 a && constantsAlone 8 b)
theorem fs_par (G:Good X C n sp) {kt k2:Nat} {pt p2:Pos} (hm:a5d C.md (.tp [i,j])=true) (h:d4i C i j nx ny px py a b=true) (ha:FE X C a ea) (hb:FE X C b eb):FS X C fr (.Assign [.Tuple [.Name nx px,.Name ny py] kt pt] (.Tuple [a,b] k2 p2) pos) (a1j (a3b (a0a ea (a0a eb a0i))) (.tp [i,j])):=by
 have g0:=b2 h; have g1:=b2 g0.1; have g2:=b2 g1.1; have g3:=b2 g2.1; have g4:=b2 g3.1; have g5:=b2 g4.1; have g6:=b2 g5.1; have g7:=b2 g6.1; have g8:=b2 g7.1; have g9:=b2 g8.1
 have lx:X.env.scope.names.lookup nx=some .local:=by rw [G.sc]; exact de g6.2
 have ly:X.env.scope.names.lookup ny=some .local:=by rw [G.sc]; exact de g5.2
 have sa:a0k a=false:=by cases a <;> first | rfl | (exact nb g3.2)
 have sb:a0k b=false:=by cases b <;> first | rfl | (exact nb g2.2)
 refine PS.imp (c8b (X:=X.nox) G.calm G.nd' (G.ix g9.1) (G.ix g9.2) (de g8.2) lx ly (a0p ha (a0p hb a1p (a0c sb)) (a0c sa)) (sw2 (env:=X.env) G.kind lx ly (de g7.2) g4.2 (nb g3.2) (nb g2.2) (nb g1.2) (nb g0.2))) fun D σ H ⟨c,L,S,Q0,I,h,k⟩=>?_
 have hm:=b2 (show (decide (a0u C.md i=.imm) && (decide (a0u C.md j=.imm) && true))=true from hm)
 refine ⟨c,L,S,_,I,h,fun v L1 q x S1 H1 r1 I1 s1=>⟨c,L1,S1,_,I1,q,fun w L2 q y S2 H2 r2 I2 s2=>⟨x,y,rfl,?_⟩⟩⟩
 exact k .next _ q.2 _ S2 H2 ((I2.setI (de hm.1) (r1.mono s2)).setI (de (b2 hm.2).1) r2) (s1.trans s2)
theorem b9g {xo xi : Expr} {p : Pos} {env : Env} (h : a3y xi = false) : ∀ v, assign (.Subscript xo xi p) env v = (do
      let ov ← holding [v] (eval xo env)
      let iv ← holding [v, ov] (eval xi env)
      standAt p
      holding [v, ov, iv] (setItem ov iv v)
      release [v, ov, iv] []) := by
  intro v
  cases xi <;> first | rfl | (cases h; done)
theorem fs_ix (G:Good X C n sp) (hn:C.nm i nx=true) (m:a0u C.md i=.own) (hc:(!a7k a && !a3y b)=true) (ha:FE X C a ea) (hb:FE X C b eb):FS X C fr (.Assign [.Subscript (.Name nx px) b p] a pos) (c1v i eb ea):=by
 have hc:=b2 hc
 refine PS.imp (b5u (X:=X.nox) ha (c8h (a1u (pos:=px) G hn) hb b9h (b9g (nb hc.2))) (by simp only [swapsWithSole]; exact a4f (nb hc.1)) rfl rfl) fun D σ H ⟨c,L,S,Q0,I,h,k⟩=>?_
 have mi:a0u C.md i≠.imm:=fun z=>by rw [m] at z; cases z
 obtain ⟨v0,e,h⟩:=wpx h
 obtain ⟨l,e1,_⟩:=I.own i v0 mi ((a2y _ _ _).mp e)
 refine ⟨c,L,S,_,I,h,fun v L1 q x S1 H1 r1 I1 s1=>⟨_,e1,c,L1,S1,_,I1,q,fun w L2 q y S2 H2 r2 I2 s2=>?_⟩⟩
 obtain ⟨v1,e2,q2⟩:=wpx q
 obtain ⟨z,e3,q3⟩:=wpx q2
 have e2:=(a2y _ _ _).mp e2
 obtain ⟨l',f1,⟨o1,ps,us,e9,o2,o3⟩,_⟩:=I2.own i v1 mi e2
 rw [e1] at f1; cases f1
 obtain ⟨xs,g1,e3⟩:=bnd e3
 obtain ⟨nn,g2,e3⟩:=bnd e3
 obtain ⟨pp,g3,rfl⟩:=mpd e3
 cases a3x g1
 cases e9
 obtain rfl:w=.int nn:=by cases w <;> cases g2; rfl
 obtain rfl:y=.int nn:=r2
 refine ⟨l,us,nn,pp,rfl,rfl,o2,by rw [← o3.length]; exact g3,?_⟩
 exact k .next _ q3 σ S2 _ (I2.write m e2 e1 (o3.set pp (r1.mono s2))) (s1.trans s2)
noncomputable def augF (f:Int→Int→Int):FV→FV→Option FV
 | .int a,.int b=>some (.int (f a b))
 | _,_=>none
theorem c5m {J:It} {xs:List FV} {D:Ends} {Q0:FFl→a0d→Prop} (I:Iv K c md L σ S H) (hJ:ItR K c md J xs S) (ht:a5d md tg=true) (h:c5n tg s xs L Q0)
  (k:∀ fl L',Q0 fl L'→∀ σ' S' H',Iv K c md L' σ' S' H'→Same S S'→EndQ K c fr D σ' S' H' fl) :
  ∃ W:Nat→Nat→L2.St→Hp→Prop,(∃ m,W 0 m σ H)∧∀ i m σ H,W i m σ H →
   (J.stop i H∧D.nx σ H) ∨ (J.go i H∧∃ N:L2.St→Hp→Prop,(∀ σ' H',N σ' H'→∃ m',m' < m∧W (i + 1) m' σ' H')∧∀ x H',J.yld i H x H'→gT K tg x σ H' fun σ2 H2=>ls K md fr s { D with nx:=N,ct:=N,bk:=D.nx } σ2 H2):=by
 let W:Nat→Nat→L2.St→Hp→Prop:=fun i j σ1 H1=>∃ L S1,j=(xs.drop i).length∧Iv K c md L σ1 S1 H1∧Same S S1∧c5n tg s (xs.drop i) L Q0
 refine ⟨W,⟨_,L,S,rfl,I,Same.refl S,by rw [List.drop_zero]; exact h⟩,?_⟩
 rintro i m σ1 H1 ⟨L,S1,rfl,I,s1,h⟩
 obtain ⟨j1,j2⟩:=hJ i L σ1 S1 H1 I s1
 cases hd:xs.drop i with
 | nil =>
  rw [hd] at h
  exact .inl ⟨j1 (List.getElem?_eq_none_iff.mpr (List.drop_eq_nil_iff.mp hd)),k .next L h σ1 S1 H1 I s1⟩
 | cons p rest =>
  right
  rw [hd] at h
  have hi:xs[i]?=some p:=by
   have:=congrArg (·[0]?) hd
   simpa using this
  have hd':xs.drop (i + 1)=rest:=by
   have:=congrArg List.tail hd
   simpa [List.tail_drop] using this
  obtain ⟨go,yl⟩:=j2 p hi
  refine ⟨go,fun σ' H'=>∃ m',m' < rest.length + 1∧W (i + 1) m' σ' H',fun σ' H' h=>h,fun x H2 y=>?_⟩
  obtain ⟨S2,s2,tr,rx⟩:=yl x H2 y
  have I2:=tr _ _ _ _ I
  obtain ⟨σ2,L2,g,q,I3,_⟩:=b2y ht I2 rx h
  refine g _ ⟨c,L2,S2,_,I3,q,fun fl L3 q σ3 S3 H3 I4 s3=>?_⟩
  have ss:=s1.trans (s2.trans s3)
  cases fl with
  | next=>exact ⟨_,Nat.lt_succ_self _,L3,S3,by rw [hd'],I4,ss,by rw [hd']; exact q⟩
  | cont=>exact ⟨_,Nat.lt_succ_self _,L3,S3,by rw [hd'],I4,ss,by rw [hd']; exact q⟩
  | brk=>exact k .next L3 q σ3 S3 H3 I4 ss
  | ret v=>exact k (.ret v) L3 q σ3 S3 H3 I4 ss
theorem a1w (G:Good X C n sp) {body:List Stmt} (hc:(a5d md' tg && !b6x iter)=true) (hi:FI X C md' tgx iter it) (hg:FG X tgx tg) (hb:Good X (C.wmd md') n sp→FSs X (C.wmd md') fr body s):FS X C fr (.For tgx iter body [] pos) (a8u it tg s):=by
 have hc:=b2 hc
 refine PS.imp (c8c (X:=X.nox) PassesOwn.never G.calm hi hg (hb (G.wmd md')) (b7d (nb hc.2))) fun D σ H ⟨c,L,S,Q0,I,h,k⟩=>?_
 refine ⟨c,L,S,_,I,h,fun xs L1 q J c' S1 H1 I1 un e0 hJ s1=>?_⟩
 refine c5m I1 hJ hc.1 q fun fl L2 q σ2 S2 H2 I2 s2=>?_
 have:=k fl L2 q σ2 S2 H2 (un _ _ _ _ I2) (s1.trans s2)
 cases fl with
 | next=>exact this
 | brk=>exact this
 | cont=>exact this
 | ret v =>
  intro x r
  refine this x ?_
  cases fr with
  | false=>exact r
  | true =>
   obtain ⟨a,r1,r2,r3⟩:=r
   exact ⟨a,r1,r2,by rw [← e0]; exact r3⟩
theorem fs_whl {body:List Stmt} (hc:FB X C a t) (hb:FSs X C fr body s):FS X C fr (.While a body [] pos) (c7g t s):=by
 refine PS.imp (b9v (X:=X.nox) PassesOwn.never hc hb) fun D σ H ⟨c,L,S,Q0,I,⟨m,h⟩,k⟩=>?_
 refine ⟨fun m σ1 H1=>∃ L S1,Iv X.K c C.md L σ1 S1 H1∧Same S S1∧c6h t s m L Q0,⟨m,L,S,I,Same.refl S,h⟩,?_⟩
 rintro m σ1 H1 ⟨L,S1,I1,s1,h⟩
 cases m with
 | zero=>exact h.elim
 | succ m =>
  refine ⟨c,L,S1,_,I1,h,fun v L1 q S2 H2 I2 s2=>?_⟩
  cases v with
  | false =>
   rw [if_neg Bool.false_ne_true] at q ⊢
   exact k .next L1 q σ1 S2 H2 I2 (s1.trans s2)
  | true =>
   rw [if_pos rfl] at q ⊢
   refine ⟨fun σ' H'=>∃ m',m' < m + 1∧∃ L S1,Iv X.K c C.md L σ' S1 H'∧Same S S1∧c6h t s m' L Q0,fun σ' H' h=>h,c,L1,S2,_,I2,q,fun fl L3 q σ3 S3 H3 I4 s3=>?_⟩
   have ss:=s1.trans (s2.trans s3)
   cases fl with
   | next=>exact ⟨m,Nat.lt_succ_self _,L3,S3,I4,ss,q⟩
   | cont=>exact ⟨m,Nat.lt_succ_self _,L3,S3,I4,ss,q⟩
   | brk=>exact k .next L3 q σ3 S3 H3 I4 ss
   | ret v=>exact k (.ret v) L3 q σ3 S3 H3 I4 ss
end
structure Df where
 name:String
 st:Stmt
 ps:List Str
 N:List Str
 md:Md
noncomputable def Df.cc (d:Df) (fns:List Str):CC:=⟨d.N,(a0s d.st).names,fns,d.md,true⟩
noncomputable def d4j (io:Bool) (md:Md) (np:Nat):Bool:=(List.range np).all fun i=>decide (a0u md i=if (io && decide (i=0))=true then .own else .imm)
noncomputable def Df.ok (d:Df) (np ns:Nat) (io:Bool):Bool :=
 decide ((a0s d.st).kind=.function) && !(a0s d.st).isCoroutine && !(a0s d.st).isGenerator && decide (d.N.Nodup) && decide (d.N.take d.ps.length=d.ps) && d.ps.all (fun x=>decide ((a0s d.st).names.lookup x=some .local ∨ (a0s d.st).names.lookup x=some .cell)) &&
 (a0s d.st).names.all (fun p=>decide (p.2≠.free)) && decide (np=d.ps.length) && decide (ns=d.N.length) && d4j io d.md np
noncomputable def spT (K:Γd) (tb:List FD) (call:CW) (f:Nat):Sp:=match tb[f]? with
 | some fd=>spQ K call fd.io fd.fr f
 | none=>fun _ _ _ _=>False
noncomputable def spK (tb:List FD) (call:CW) (K:Γd):Nat→Sp:=spT K tb call
theorem Df.sc {d:Df} {np ns:Nat} {io:Bool} (h:d.ok np ns io=true):FnScope d.N d.ps (a0s d.st)∧np=d.ps.length∧ns=d.N.length∧∀ i,i < np→a0u d.md i=if (io && decide (i=0))=true then .own else .imm:=by
 have h0:=b2 h; have h1:=b2 h0.1; have h2:=b2 h1.1; have h3:=b2 h2.1; have h4:=b2 h3.1; have h5:=b2 h4.1; have h6:=b2 h5.1; have h7:=b2 h6.1; have h8:=b2 h7.1
 exact ⟨⟨de h8.1,nb h8.2,nb h7.2,de h6.2,de h5.2,fun x hx=>de (List.all_eq_true.mp h4.2 x hx),fun y hy=>de (List.all_eq_true.mp h3.2 y hy)⟩,de h2.2,de h1.2,fun i hi=>de (List.all_eq_true.mp h0.2 i (List.mem_range.mpr hi))⟩
section
variable {P:Program} {w:World} {K:Γd} {mg:Str→Option Value} {base:Heap} {tb:List FD} {fns:List Str}
theorem ArgsOk.len {S H:Hp} {args:List FV} {vs:List V} {io:Bool} (h:ArgsOk K S H args vs io):args.length=vs.length:=by
 cases io with
 | false=>exact RVs.length h
 | true =>
  obtain ⟨v,r,a,us,rfl,rfl,_,h⟩:=h
  rw [List.length_cons,List.length_cons,h.length]
theorem c0l {S H:Hp} {args:List FV} {vs:List V} {io:Bool} {md:Md} {N:List Str} {np ns:Nat} (h:ArgsOk K S H args vs io) (hs:Same S H) (hn:args.length=np) (hN:ns=N.length) (hm:∀ i,i < np→a0u md i=if (io && decide (i=0))=true then .own else .imm) :
  Iv K ⟨H,S,b2j vs io,[],[]⟩ md (args.map some++List.replicate (ns - np) none) (L2.start N vs) S H:=by
 have hl:=h.len
 have look:∀ i v,(args.map some++List.replicate (ns - np) none)[i]?=some (some v)→args[i]?=some v∧i < np:=fun i v e=>by
  by_cases hi:i < args.length
  ·rw [List.getElem?_append_left (by rw [List.length_map]; exact hi),List.getElem?_map] at e
   cases ea:args[i]? with
   | none=>rw [ea] at e; cases e
   | some q=>rw [ea] at e; cases e; exact ⟨rfl,by lia⟩
  ·rw [List.getElem?_append_right (by rw [List.length_map]; lia),List.getElem?_replicate] at e
   split at e <;> cases e
 have st:∀ i,i < np→(L2.start N vs)[i]?=vs[i]?.map some:=fun i hi=>by
  unfold L2.start
  rw [List.getElem?_append_left (by rw [List.length_map]; lia),List.getElem?_map]
 have own:∀ i v,a0u md i≠.imm→(args.map some++List.replicate (ns - np) none)[i]?=some (some v)→i=0∧io=true∧a0u md 0=.own:=fun i v hm' e=>by
  obtain ⟨_,hi⟩:=look i v e
  have:=hm i hi
  cases io with
  | false=>exact absurd (by simpa using this) hm'
  | true =>
   by_cases h0:i=0
   ·subst h0; exact ⟨rfl,rfl,by simpa using this⟩
   ·exact absurd (by simpa [h0] using this) hm'
 have lent:∀ a,b2j vs io=some a→io=true∧0 < np∧a0u md 0=.own∧vs[0]?=some (.ref a)∧∃ v,args[0]?=some v∧a4y K S H a v:=fun a e=>by
  cases io with
  | false=>cases e
  | true =>
   obtain ⟨v,r,a',us,rfl,rfl,o,_⟩:=h
   cases e
   have hp:0 < np:=by rw [← hn]; exact Nat.succ_pos _
   exact ⟨rfl,hp,by simpa using hm 0 hp,rfl,v,rfl,o⟩
 refine ⟨?_,fun i v hm' e=>?_,fun i v hm' e=>?_,fun i j v w a m1 m2 e1 e2 _ _=>?_,hs,fun a o e _=>e,Same.refl S,fun a o e=>.inl e,fun a e=>?_,fun p hp=>absurd hp List.not_mem_nil,fun i v hf e=>?_,fun p hp=>absurd hp List.not_mem_nil,fun p hp=>absurd hp List.not_mem_nil,fun p hp=>absurd hp List.not_mem_nil⟩
 ·unfold L2.start
  rw [List.length_append,List.length_append,List.length_map,List.length_map,List.length_replicate,List.length_replicate,hN]
  lia
 ·obtain ⟨ea,hi⟩:=look i v e
  rw [st i hi]
  cases io with
  | false =>
   obtain ⟨x,e1,r⟩:=RVs.get (show RVs K S args vs from h) ea
   exact ⟨x,by rw [e1]; rfl,r⟩
  | true =>
   obtain ⟨v0,r,a',us,rfl,rfl,o,hr⟩:=h
   cases i with
   | zero=>rw [show a0u md 0=.own by simpa using hm 0 hi] at hm'; cases hm'
   | succ i =>
    obtain ⟨x,e1,r1⟩:=RVs.get hr (by simpa using ea)
    exact ⟨x,by simp [e1],r1⟩
 ·obtain ⟨rfl,rfl,m0⟩:=own i v hm' e
  obtain ⟨ea,hi⟩:=look 0 v e
  obtain ⟨v0,r,a',us,rfl,rfl,o,hr⟩:=h
  cases ea
  exact ⟨a',by rw [st 0 hi]; rfl,o,.inl rfl⟩
 ·rw [(own i v m1 e1).1,(own j w m2 e2).1]
 ·obtain ⟨rfl,hp,m0,e1,v,ea,_⟩:=lent a e
  refine ⟨fun z=>(nomatch (m0.symm.trans z)),by rw [st 0 hp,e1]; rfl,v,?_⟩
  rw [List.getElem?_append_left (by rw [List.length_map]; lia),List.getElem?_map,ea]; rfl
 ·have:=own i v (fun z=>by rw [z] at hf; cases hf) e
  rw [this.1,this.2.2] at hf; cases hf
theorem b7e {d f:Nat} {fa:Addr} {fdd:FuncData} {df:Df} {fd:FD} (F:Fun K (Γe df.name) (Γe df.name) df.st fa fdd) (hf:tb[f]?=some fd) (hok:df.ok fd.np fd.ns fd.io=true)
  (hb:∀ X call n,Good X (df.cc fns) n (spK tb call)→FSs X (df.cc fns) fd.fr (a2f df.st) (fd.body call))
  (fnsOk:∀ (f:Nat) (x:Str),fns[f]?=some x→∃ fa fd ps,mg x=some (.ref fa)∧PySem.W.keepIn K (.ref fa)=true∧Binds K fd ps []∧FnOk P w K mg base CX0 d fa fd ps (spT K tb (callW tb d) f))
  (blt:∀ b∈bltNames,mg (Γe b)=none):FnOk P w K mg base CX0 (d + 1) fa fdd df.ps (spT K tb (callW tb (d + 1)) f):=by
 obtain ⟨S,hnp,hns,hmd⟩:=Df.sc hok
 have e0:spT K tb (callW tb (d + 1)) f=spQ K (callW tb (d + 1)) fd.io fd.fr f:=by unfold spT; rw [hf]
 have run:∀ {args:List FV} {Q:FV×FV→Prop},callW tb (d + 1) f args Q→args.length=fd.np∧fd.body (callW tb d) (args.map some++List.replicate (fd.ns - fd.np) none) (b8v fd.io fd.fr Q):=fun {args Q} h=>by
  have h:(match tb[f]? with
   | none=>False
   | some fd=>args.length=fd.np∧fd.body (callW tb d) (args.map some++List.replicate (fd.ns - fd.np) none) (b8v fd.io fd.fr Q)):=h
  rw [hf] at h; exact h
 rw [e0]
 refine F.ok S (fun vs H Q E h=>?_) (fun cdv A outer s H vs Q E hr h=>?_)
 ·obtain ⟨S0,args,Q0,_,ao,hc,_⟩:=h
  rw [← ao.len,(run hc).1,hnp]
 ·obtain ⟨S0,args,Q0,hs,ao,hc,k⟩:=h
  obtain ⟨hl,hc⟩:=run hc
  have G:Good (c5x CX0 P w K mg base df.N (Γe df.name) (a0s df.st) fa cdv A outer s H E) (df.cc fns) d (spK tb (callW tb d)) :=
   ⟨rfl,rfl,S.kind,S.nd,rfl,fun _ _=>rfl,hr,fnsOk,blt⟩
  refine ⟨_,hb _ _ _ G,_,_,S0,_,c0l ao hs hl hns hmd,hc,fun fl L' q σ' S' H' I s'=>?_⟩
  have kp:∀ w,(fd.io=true→lk L' 0=some w)→Kept K S0 H S' H' (b2j vs fd.io) w:=fun w hw=>⟨s',I.sub,I.grow,fun a o e n=>I.frame a o e n,fun a e=>by
   have hio:fd.io=true:=by
    cases z:fd.io with
    | true=>rfl
    | false=>rw [z] at e; cases e
   obtain ⟨m0,e1,v,e2⟩:=I.lent a e
   obtain ⟨b,e3,o,_⟩:=I.own 0 v m0 e2
   rw [e1] at e3; cases e3
   have:=(a2y _ _ _).mp (hw hio)
   rw [e2] at this; cases this
   exact o⟩
  have fin:∀ v x,b8v fd.io fd.fr Q0 (.ret v) L'→c6g K S' H' H v x fd.fr→Q x H':=fun v x q r=>by
   cases hio:fd.io with
   | true =>
    rw [hio] at q
    obtain ⟨w,e1,q⟩:=wpx q
    exact k _ q x S' H' (kp w fun _=>e1) r
   | false =>
    rw [hio] at q
    exact k (v,.non) q x S' H' (kp .non fun z=>by rw [hio] at z; cases z) r
  cases fl with
  | next =>
   cases hfr:fd.fr with
   | true=>rw [hfr] at q; exact q.elim
   | false=>rw [hfr] at q; exact fin .non .non (by rw [hfr]; exact q) (by rw [hfr]; exact rfl)
  | ret v =>
   intro x r
   refine fin v x q ?_
   cases hfr:fd.fr with
   | true=>rw [hfr] at r; exact r
   | false=>rw [hfr] at r; exact r
  | brk=>exact q.elim
  | cont=>exact q.elim
theorem b8q (blt:∀ b∈bltNames,mg (Γe b)=none)
  (D:∀ (f:Nat) (x:Str),fns[f]?=some x→∃ df fd fa fdd,tb[f]?=some fd∧Df.ok df fd.np fd.ns fd.io=true∧(∀ X call n,Good X (df.cc fns) n (spK tb call)→FSs X (df.cc fns) fd.fr (a2f df.st) (fd.body call))∧Fun K (Γe df.name) (Γe df.name) df.st fa fdd∧mg x=some (.ref fa)∧Binds K fdd df.ps []) :
  ∀ (d f:Nat) (x:Str),fns[f]?=some x→∃ fa fd ps,mg x=some (.ref fa)∧PySem.W.keepIn K (.ref fa)=true∧Binds K fd ps []∧FnOk P w K mg base CX0 d fa fd ps (spT K tb (callW tb d) f)
 | 0,f,x,h=>by
  obtain ⟨df,fd,fa,fdd,h1,h2,h6,h3,h4,h5⟩:=D f x h
  have no:∀ vs H Q E,¬ spT K tb (callW tb 0) f vs H Q E:=fun vs H Q E z=>by
   unfold spT at z
   rw [h1] at z
   obtain ⟨_,_,_,_,_,k,_⟩:=z
   exact k
  exact ⟨fa,fdd,df.ps,h4,h3.kp,h5,fun vs H Q E z=>absurd z (no vs H Q E),fun A outer s H args us vs Q E _ _ _ _ z=>absurd z (no vs H Q E)⟩
 | d + 1,f,x,h=>by
  obtain ⟨df,fd,fa,fdd,h1,h2,h6,h3,h4,h5⟩:=D f x h
  exact ⟨fa,fdd,df.ps,h4,h3.kp,h5,b7e h3 h1 h2 h6 (b8q blt D d) blt⟩
theorem law_sp {d f:Nat} {H:Hp} {a:Addr} {ns:List Int} {fd:FD} (hf:tb[f]?=some fd) (hio:fd.io=false) (hfr:fd.fr=false) (hO:d1d H) (hS:SqL K H a (ns.map V.int)) (h:callW tb d f [.scr ns] fun z=>z.1=.bl true) :
  spT K tb (callW tb d) f [.ref a] H (fun v _=>v=.bl true) fun _ _ _=>False:=by
 have e0:spT K tb (callW tb d) f=spQ K (callW tb d) false false f:=by unfold spT; rw [hf]; show spQ K (callW tb d) fd.io fd.fr f=_; rw [hio,hfr]
 rw [e0]
 refine ⟨H,[.scr ns],_,Same.refl H,RVs.one ⟨a,rfl,?_⟩,h,fun z e x S' H' _ r=>?_⟩
 ·rcases hS with (h | ⟨o,h⟩) | h
  ·rcases hO a with z | ⟨o,xs,z⟩
   ·rw [z] at h; cases h
   ·rw [z] at h; cases h
  ·exact .inl ⟨o,h⟩
  ·exact .inr (.inr h)
 ·have r:RV K S' z.1 x:=r
  rw [e] at r; exact r
end
noncomputable def EachI {α:Type} (P:Nat→α→Prop):Nat→List α→Prop
 | _,[]=>True
 | i,x :: xs=>P i x∧EachI P (i + 1) xs
theorem EachI.get {α:Type} {P:Nat→α→Prop}:∀ {xs:List α} {k:Nat},EachI P k xs→∀ (f:Nat) (x:α),xs[f]?=some x→P (k + f) x
 | _ :: _,_,h,0,x,e=>(Option.some.inj e) ▸ h.1
 | _ :: xs,k,h,f + 1,x,e=>by
  have:=EachI.get h.2 f x e
  rw [Nat.add_assoc,Nat.add_comm 1 f] at this
  exact this
theorem us1 {P:List Value→Prop} {us:List Value} (h:us.length=1) (H:∀ a,P [a]):P us:=match us,h with | [_],_=>H _
theorem us2 {P:List Value→Prop} {us:List Value} (h:us.length=2) (H:∀ a b,P [a,b]):P us:=match us,h with | [_,_],_=>H _ _
theorem us3 {P:List Value→Prop} {us:List Value} (h:us.length=3) (H:∀ a b c,P [a,b,c]):P us:=match us,h with | [_,_,_],_=>H _ _ _
end Kq
end
section
namespace Kq
open PySem PySem.Spec PySem.Calls PyProof.Rows L2 PySem.W
theorem a8k:∀ {K:Frag} {a:Addr} {o:Obj},K.lookup a=some o→(a,o)∈K
 | [],a,o,h=>by simp at h
 | (b,u) :: K,a,o,h=>by
  rw [List.lookup_cons] at h
  split at h
  ·rename_i e; cases h; rw [beq_iff_eq.mp e]; exact List.mem_cons_self
  ·exact List.mem_cons_of_mem _ (a8k h)
theorem b6j {K:Frag} {a:Addr} {o:Obj} (h:(a,o)∈K):∃ u,K.lookup a=some u:=by
 induction K with
 | nil=>exact absurd h List.not_mem_nil
 | cons p K ih =>
  obtain ⟨b,u⟩:=p
  rw [List.lookup_cons]
  split
  ·exact ⟨_,rfl⟩
  ·rename_i e
   rcases List.mem_cons.mp h with z | z
   ·rw [(Prod.mk.inj z).1,beq_self_eq_true] at e; cases e
   ·exact ih z
noncomputable def AllIn (K:Frag) (h:Heap):Prop:=∀ p∈K,h.get? p.1=some p.2
theorem AllIn.to {K:Frag} {h:Heap} (x:AllIn K h):K.In h:=fun a o e=>x _ (a8k e)
theorem AllIn.look {K:Frag} {h:Heap} (x:AllIn K h) {a:Addr} {o:Obj} (m:(a,o)∈K):K.lookup a=some o:=by
 obtain ⟨u,e⟩:=b6j m
 have h1:=x _ (a8k e)
 rw [show h.get? a=some o from x _ m] at h1
 cases h1; exact e
noncomputable def CIn (K:Frag) (cd:Value) (q:Str):Prop:=∃ c oc vs t,cd=.ref c∧(c,oc)∈K∧oc.data=.fields vs∧vs[1]?=some (.str q t)
noncomputable def DIn (K:Frag) (mg:Str→Option Value) (d:DefRec):Prop:=∃ fa o pm cd doc,mg d.name=some (.ref fa)∧(fa,o)∈K∧o.data=.func (docDef d.name d.params d.body d.scope pm cd doc)∧CIn K cd d.name
theorem DIn.more {K K':Frag} {mg:Str→Option Value} {d:DefRec} (s:∀ p∈K,p∈K') (x:DIn K mg d):DIn K' mg d:=by
 obtain ⟨fa,o,pm,cd,doc,h1,h2,h3,c,oc,vs,t,h4,h5,h6⟩:=x
 exact ⟨fa,o,pm,cd,doc,h1,s _ h2,h3,c,oc,vs,t,h4,s _ h5,h6⟩
theorem b7t {q:Program} {loose:List Str} {mean:ExcName→Option Value} {mg mb:Str→Option Value} {h:Heap} (T:Top q loose mean mg mb h):∀ ds:List DefRec,(∀ d∈ds,d∈recsOf q)→∃ K:Frag,AllIn K h∧∀ d∈ds,DIn K mg d
 | [],_=>⟨[],fun _ m=>absurd m List.not_mem_nil,fun _ m=>absurd m List.not_mem_nil⟩
 | d :: ds,hm=>by
  obtain ⟨K,h1,h2⟩:=b7t T ds fun e m=>hm e (List.mem_cons_of_mem _ m)
  obtain ⟨a,o,pm,cd,doc,g1,g2,g3,c,oc,vs,t,g4,g5,g6⟩:=T.fn d (hm d List.mem_cons_self)
  refine ⟨(a,o) :: (c,oc) :: K,fun p m=>?_,fun e m=>?_⟩
  ·rcases List.mem_cons.mp m with z | z
   ·cases z; exact g2
   ·rcases List.mem_cons.mp z with z | z
    ·cases z; exact g5
    ·exact h1 p z
  ·rcases List.mem_cons.mp m with z | z
   ·cases z
    exact ⟨a,o,pm,cd,doc,g1,List.mem_cons_self,g3,c,oc,vs,t,g4,List.mem_cons_of_mem _ List.mem_cons_self,g6⟩
   ·exact (h2 e z).more fun p m=>List.mem_cons_of_mem _ (List.mem_cons_of_mem _ m)
theorem DIn.fn {K:Frag} {h:Heap} (A:AllIn K h) {mg:Str→Option Value} {x:Str} {st:Stmt} {pos:Pos} (D:DIn K mg ⟨x,a5l st,a2f st,a0s st,pos⟩):∃ fa fd,mg x=some (.ref fa)∧Fun K x x st fa fd:=by
 obtain ⟨fa,o,pm,cd,doc,h1,h2,h3,c,oc,vs,t,rfl,h5,h6,h7⟩:=D
 have l:=A.look h2
 have lc:=A.look h5
 obtain ⟨k1,k2,k3,k4⟩:=o
 obtain ⟨j1,j2,j3,j4⟩:=oc
 cases h3; cases h6
 refine ⟨fa,_,h1,d0d (kV:=.none) (doc:=doc) (pm:=pm) (an:=none) (cdv:=.ref c) (ct:=.none) l ?_ ?_⟩
 ·show (match K.lookup c with | some ⟨_,_,.fields vs,_⟩=>_ | _=>_)=true
  rw [lc]
  obtain ⟨l⟩:=vs
  match l,h7 with
  | [],h7=>simp at h7
  | [a],h7=>simp at h7
  | a :: b :: r,h7 =>
   simp at h7; subst h7
   exact beq_self_eq_true _
 ·show (match K.lookup fa with | some ⟨_,_,.func _,_⟩=>true | some ⟨_,_,.cls _,_⟩=>_ | _=>false)=true
  rw [l]
noncomputable def d0t:Stmt→Pos
 | .FunctionDef _ _ _ _ _ _ _ _ _ p=>p
 | _=>⟨0,0,0,0⟩
noncomputable def d4y:Stmt→Bool
 | .FunctionDef ..=>true
 | _=>false
noncomputable def c6q (p:Program):Program:={ p with main:={ p.main with body:=p.main.body.filter d4y } }
noncomputable def freeIn (q:Program) (loose:List Str) (x:Str):Bool:=!startupNames.contains x && !loose.contains x && !((recsOf q).map (·.name)).contains x && !((litsOf q).map (·.1)).contains x && !((clssOf q loose).map (·.name)).contains x
theorem c5l {q:Program} {loose:List Str} {mean:ExcName→Option Value} {mg mb:Str→Option Value} {h:Heap} (T:Top q loose mean mg mb h) {x:Str} (e:freeIn q loose x=true):mg x=none:=by
 unfold freeIn at e
 simp only [Bool.and_eq_true,Bool.not_eq_true',List.contains_eq_mem,decide_eq_false_iff_not] at e
 exact T.free x e.1.1.1.1 e.1.1.1.2 e.1.1.2 e.1.2 e.2
theorem walk2 {l:OpenLaw} {n k:Nat} {q:Program} {XP:(Str→Option Value)→Heap→Prop} {YP:World→Heap→Prop} {d:DefRec} {ds:List DefRec} {x:Str} {sp:Frag→Sp}
  (hn:l.most=some n) (hn2:n≤sizeLine) (hdf:d.params.defaults=[]) (hr:Room k callerA) (hds:ds=recsOf q) (hfree:(bltNames.all fun b=>freeIn q (looseW q []) (Γe b))=true)
  (F:∀ (w:World) (K:Frag) (mg:Str→Option Value) (fa:Addr) (h:Heap),AllIn K h→(∀ d∈ds,DIn K mg d)→(∀ b∈bltNames,mg (Γe b)=none)→mg d.name=some (.ref fa) →
   ∃ fd:FuncData,(∀ (s:Shared) (u:Value),BindsTo s fd ⟨[u],[]⟩ [(x,u)])∧∀ base:Heap,FnOk l.prog w K mg base CX0 k fa fd [x] (sp K))
  (hsp:∀ (K:Frag) (H:Hp) (a:Addr) (ns:List Int),ns.length≤n→d1d H→SqL K H a (ns.map V.int)→sp K [.ref a] H (fun v _=>v=.bl true) fun _ _ _=>False) :
  WalkO q [] XP YP l.row.toRowW d [] (fun f vs=>PySem.call f vs):=by
 refine Att.attach_call hn hdf fun w s₀ s₁ mg mb fa o pm cd doc a vs ns G Y ho hd hcd hmg hobj hints hlen hg=>?_
 obtain ⟨K,hK,hD⟩:=b7t G.T ds fun d m=>hds ▸ m
 obtain ⟨fd,hb,hF⟩:=F w K mg fa _ hK hD (fun b hb=>c5l G.T (List.all_eq_true.mp hfree b hb)) hmg
 exact b2n hK.to G.T.g G.T.b G.T.builtins G.T.nolimit hg hobj hints (Nat.le_trans hlen hn2) hr (fun base _ _=>hF base) hb (fun H hO hS=>hsp K H a ns hlen hO hS) fun H e s' z=>z
theorem row_holds {l:OpenLaw} {q:Program} {d:DefRec} {N:Nat} (said:l.wellSaid=true) (left:LeftO l.prog q [] (fun s=>xlAt q [] s && recOk (RowW.records l.row.toRowW) s) (fun _=>()) (fun _=>()) N)
  (hdef:defOf q l.name=some (d,[])) (hp:l.prog.theDef l.name=some (d.params,d.body,d.scope)) (hk:kwWritten? d.params.kwonlyargs d.params.kw_defaults=some []) (hwr:(!l.writes || l.row.records.isEmpty)=true)
  (ok:(chainsOk q && opensWell l.prog && (frees l.row.toRowW && l.row.within.isEmpty))=true) (hb:l.prog.bare) (hw:l.row.toRowW.promised)
  (call:WalkO q [] (XL q []) (fun _ _=>True) l.row.toRowW d [] fun f vs=>PySem.call f vs):l.Holds :=
 holds_law said fun k1=>holds_open (r:=l.row) left (fun _ _ _=>trivial) (fun _ _ _ _ _=>trivial) (fun s e=>xl_of s (Bool.and_eq_true_iff.mp e).1) XL.keeps hdef hp hk (fun s e=>recFacts_of (Bool.and_eq_true_iff.mp e).2) hwr k1 ok hb hw call
end Kq
end
set_option maxHeartbeats 1000000
section
namespace Kq
@[scoped simp ↓] theorem a2v {α:Type} (x:α) (Q:α→Prop):wp (some x) Q=Q x:=propext Iff.rfl
@[scoped simp ↓] theorem d2r {α:Type} (Q:α→Prop):wp (none:Option α) Q=False:=propext Iff.rfl
theorem a1i {α β:Type} (r:Option α) (f:α→Option β) (Q:β→Prop):wp (r.bind f) Q↔wp r (fun x=>wp (f x) Q):=by cases r <;> rfl
@[scoped simp ↓] theorem a2q {α β:Type} (r:Option α) (f:α→β) (Q:β→Prop):wp (r.map f) Q↔wp r (fun x=>Q (f x)):=by cases r <;> rfl
@[scoped simp ↓] theorem a3c {α:Type} (c:Prop) [Decidable c] (a:α) (Q:α→Prop):wp (if c then some a else none) Q↔c∧Q a:=by
 by_cases h:c <;> simp [h]
@[scoped simp ↓] theorem d7e (i:Nat) (L:a0d) (Q:FV→a0d→Prop):a0b i L Q=(wp (lk L i) fun x=>Q x L):=propext Iff.rfl
@[scoped simp ↓] theorem eC_eq (v:FV) (L:a0d) (Q:FV→a0d→Prop):eC v L Q=(Q v L):=propext Iff.rfl
@[scoped simp ↓] theorem eUn_eq (f:FV→Option FV) (a:EW) (L:a0d) (Q:FV→a0d→Prop):eUn f a L Q=(a L fun x L1=>wp (f x) fun z=>Q z L1):=propext Iff.rfl
@[scoped simp ↓] theorem eOp_eq (f:FV→FV→Option FV) (a b:EW) (L:a0d) (Q:FV→a0d→Prop):eOp f a b L Q=(a L fun x L1=>b L1 fun y L2=>wp (f x y) fun z=>Q z L2):=propext Iff.rfl
@[scoped simp ↓] theorem d7i (f:FV→FV→Option FV) (i:Nat) (b:EW) (L:a0d) (Q:FV→a0d→Prop):a6z f i b L Q=(wp (lk L i) fun _=>b L fun y L1=>wp (lk L1 i) fun x=>wp (f x y) fun z=>Q z L1):=propext Iff.rfl
@[scoped simp ↓] theorem d7k (a b:EW) (L:a0d) (Q:FV→a0d→Prop):c5r a b L Q=(a L fun x L1=>wp (b9a x) fun r=>if r=true then b L1 Q else Q x L1):=propext Iff.rfl
@[scoped simp ↓] theorem eIf_eq (c:BW) (a b:EW) (L:a0d) (Q:FV→a0d→Prop):eIf c a b L Q=(c L fun r L1=>if r=true then a L1 Q else b L1 Q):=propext Iff.rfl
@[scoped simp ↓] theorem d8m (a:EW) (L:a0d) (Q:Bool→a0d→Prop):a1o a L Q=(a L fun x L1=>wp (b9a x) fun b=>Q b L1):=propext Iff.rfl
@[scoped simp ↓] theorem d8o (a b:BW) (L:a0d) (Q:Bool→a0d→Prop):c2o a b L Q=(a L fun r L1=>if r=true then b L1 Q else Q false L1):=propext Iff.rfl
@[scoped simp ↓] theorem bOr_eq (a b:BW) (L:a0d) (Q:Bool→a0d→Prop):bOr a b L Q=(a L fun r L1=>if r=true then Q true L1 else b L1 Q):=propext Iff.rfl
@[scoped simp ↓] theorem d8n (a:BW) (L:a0d) (Q:Bool→a0d→Prop):b4t a L Q=(a L fun r L1=>Q (!r) L1):=propext Iff.rfl
@[scoped simp ↓] theorem d2o (L:a0d) (Q:Bool→a0d→Prop):a1s  L Q=(Q true L):=propext Iff.rfl
@[scoped simp ↓] theorem d8q (L:a0d) (Q:List FV→a0d→Prop):a0i  L Q=(Q [] L):=propext Iff.rfl
@[scoped simp ↓] theorem d2p (a:EW) (r:AW) (L:a0d) (Q:List FV→a0d→Prop):a0a a r L Q=(a L fun x L1=>r L1 fun xs L2=>Q (x :: xs) L2):=propext Iff.rfl
@[scoped simp ↓] theorem d7f (a:AW) (L:a0d) (Q:FV→a0d→Prop):a3b a L Q=(a L fun xs L1=>xs.length≤big∧Q (.tup xs) L1):=propext Iff.rfl
@[scoped simp ↓] theorem d7j (a:AW) (L:a0d) (Q:FV→a0d→Prop):a6u a L Q=(a L fun xs L1=>xs.length≤big∧Q (.lst xs) L1):=propext Iff.rfl
@[scoped simp ↓] theorem d1j (L:a0d) (Q:Option Int→a0d→Prop):c0d  L Q=(Q none L):=propext Iff.rfl
@[scoped simp ↓] theorem d1i (a:EW) (L:a0d) (Q:Option Int→a0d→Prop):c0c a L Q=(a L fun x L1=>wp (a5b x) fun i=>Q (some i) L1):=propext Iff.rfl
@[scoped simp ↓] theorem eSl_eq (a:EW) (l h:OW) (L:a0d) (Q:FV→a0d→Prop):eSl a l h L Q=(a L fun x L1=>l L1 fun i L2=>h L2 fun j L3=>wp (a6b x i j) fun z=>Q z L3):=propext Iff.rfl
@[scoped simp ↓] theorem d7h (k:Nat) (l h:OW) (L:a0d) (Q:FV→a0d→Prop):d0m k l h L Q=(wp (lk L k) fun _=>l L fun i L2=>h L2 fun j L3=>wp (lk L3 k) fun x=>wp (a6b x i j) fun z=>Q z L3):=propext Iff.rfl
@[scoped simp ↓] theorem d2h (call:CW) (f:Nat) (a:AW) (L:a0d) (Q:FV→a0d→Prop):a1l call f a L Q=(a L fun xs L1=>call f xs fun z=>Q z.1 L1):=propext Iff.rfl
@[scoped simp ↓] theorem d0p (call:CW) (f i:Nat) (a:AW) (L:a0d) (Q:FV→a0d→Prop):a0g call f i a L Q=(wp (lk L i) fun _=>a L fun xs L1=>wp (lk L1 i) fun x=>call f (x :: xs) fun z=>Q z.1 (L1.set i (some z.2))):=propext Iff.rfl
@[scoped simp ↓] theorem d2f (f:FV→FV→Option FV) (i:Nat) (a:EW) (L:a0d) (Q:FV→a0d→Prop):b7m f i a L Q=(wp (lk L i) fun v=>wp (a7g v) fun _=>a L fun y L1=>wp (lk L1 i) fun x=>wp (f x y) fun z=>Q .non (L1.set i (some z))):=propext Iff.rfl
@[scoped simp ↓] theorem d5a (a:EW) (L:a0d) (Q:List FV→a0d→Prop):b2v a L Q=(a L fun x L1=>wp (a4z x) fun xs=>Q xs L1):=propext Iff.rfl
@[scoped simp ↓] theorem d5b (a:EW) (L:a0d) (Q:List FV→a0d→Prop):a8r a L Q=(a L fun x L1=>wp (a5b x) fun j=>a1r j=true∧Q (upF 0 j.toNat) L1):=propext Iff.rfl
@[scoped simp ↓] theorem d4z (a b:EW) (L:a0d) (Q:List FV→a0d→Prop):c6m a b L Q=(a L fun x L1=>b L1 fun y L2=>wp (a4z x) fun xs=>wp (a4z y) fun ys=>Q (a3p xs ys) L2):=propext Iff.rfl
@[scoped simp ↓] theorem d1p (a:EW) (L:a0d) (Q:List FV→a0d→Prop):b7a a L Q=(a L fun x L1=>wp (a4z x) fun xs=>Q (a3p (upF 0 xs.length) xs) L1):=propext Iff.rfl
@[scoped simp ↓] theorem d2g (n m:Nat) (it:AW) (tg:Tg) (t:BW) (e:EW) (L:a0d) (Q:FV→a0d→Prop):a1t n m it tg t e L Q=(it L fun xs L1=>L1.length=n∧xs.length≤big∧a5m n m tg t e xs [] L1 fun ys L2=>Q (.lst ys) L2):=propext Iff.rfl
@[scoped simp ↓] theorem d3l (L:a0d) (Q:FFl→a0d→Prop):a5a  L Q=(Q .next L):=propext Iff.rfl
@[scoped simp ↓] theorem d3j (s r:SW) (L:a0d) (Q:FFl→a0d→Prop):a0x s r L Q=(s L (aft (fun L1=>r L1 Q) Q)):=propext Iff.rfl
@[scoped simp ↓] theorem d3p (e:EW) (tg:Tg) (L:a0d) (Q:FFl→a0d→Prop):a1j e tg L Q=(e L fun x L1=>gW tg x L1 fun L2=>Q .next L2):=propext Iff.rfl
@[scoped simp ↓] theorem d3i (k:Nat) (i e:EW) (L:a0d) (Q:FFl→a0d→Prop):c1v k i e L Q=(wp (lk L k) fun _=>e L fun x L1=>i L1 fun j L2=>wp (lk L2 k) fun y=>wp (d3g y j x) fun z=>Q .next (L2.set k (some z))):=propext Iff.rfl
@[scoped simp ↓] theorem d3k (e:EW) (L:a0d) (Q:FFl→a0d→Prop):a1n e L Q=(e L fun x L1=>Q (.ret x) L1):=propext Iff.rfl
@[scoped simp ↓] theorem d3n (e:EW) (L:a0d) (Q:FFl→a0d→Prop):c3j e L Q=(e L fun _ L1=>Q .next L1):=propext Iff.rfl
@[scoped simp ↓] theorem sIf_eq (c:BW) (a b:SW) (L:a0d) (Q:FFl→a0d→Prop):sIf c a b L Q=(c L fun r L1=>if r=true then a L1 Q else b L1 Q):=propext Iff.rfl
@[scoped simp ↓] theorem d3m (it:AW) (tg:Tg) (b:SW) (L:a0d) (Q:FFl→a0d→Prop):a8u it tg b L Q=(it L fun xs L1=>c5n tg b xs L1 Q):=propext Iff.rfl
@[scoped simp ↓] theorem d3h (c:BW) (b:SW) (L:a0d) (Q:FFl→a0d→Prop):c7g c b L Q=(∃ n,c6h c b n L Q):=propext Iff.rfl
@[scoped simp ↓] theorem lk_z (x:Option FV) (L:a0d) (Q:FV→Prop):wp (lk (x :: L) 0) Q=wp x Q:=propext Iff.rfl
@[scoped simp ↓] theorem lk_s (x:Option FV) (L:a0d) (n:Nat) (Q:FV→Prop):wp (lk (x :: L) (n + 1)) Q=wp (lk L n) Q:=propext Iff.rfl
@[scoped simp ↓] theorem gw_nm (i:Nat) (v:FV) (L:a0d) (Q:a0d→Prop):gW (.nm i) v L Q=Q (L.set i (some v)):=propext Iff.rfl
@[scoped simp ↓] theorem gw_tp (is:List Nat) (v:FV) (L:a0d) (Q:a0d→Prop):gW (.tp is) v L Q=wp (a7c v) fun xs=>wp (a7z L is xs) Q:=propext Iff.rfl
@[scoped simp ↓] theorem sa_n (L:a0d) (Q:a0d→Prop):wp (a7z L [] []) Q=Q L:=propext Iff.rfl
@[scoped simp ↓] theorem sa_c (L:a0d) (i:Nat) (is:List Nat) (v:FV) (vs:List FV) (Q:a0d→Prop):wp (a7z L (i :: is) (v :: vs)) Q=wp (a7z (L.set i (some v)) is vs) Q:=propext Iff.rfl
section
variable (L:a0d) (k:a0d→Prop) (Q:FFl→a0d→Prop)
@[scoped simp ↓] theorem d8p:aft k Q .next L=k L:=propext Iff.rfl
@[scoped simp ↓] theorem af_ret (v:FV):aft k Q (.ret v) L=Q (.ret v) L:=propext Iff.rfl
@[scoped simp ↓] theorem tq_n:b0k k Q .next L=k L:=propext Iff.rfl
@[scoped simp ↓] theorem tq_r (v:FV):b0k k Q (.ret v) L=Q (.ret v) L:=propext Iff.rfl
end
@[scoped simp ↓] theorem en_rt (fr:Bool) (Q:FV×FV→Prop) (v:FV) (L:a0d):b8v true fr Q (.ret v) L=wp (lk L 0) fun x=>Q (v,x):=propext Iff.rfl
@[scoped simp ↓] theorem en_rf (fr:Bool) (Q:FV×FV→Prop) (v:FV) (L:a0d):b8v false fr Q (.ret v) L=Q (v,.non):=propext Iff.rfl
section
variable (Q:FV→Prop) (B:Bool→Prop) (i j:Int)
@[scoped simp ↓] theorem tr_b (b:Bool):wp (b9a (.bl b)) B=B b:=propext Iff.rfl
@[scoped simp ↓] theorem in_i (Q:Int→Prop):wp (a5b (.int i)) Q=Q i:=propext Iff.rfl
@[scoped simp ↓] theorem tp_t (xs:List FV) (Q:List FV→Prop):wp (a7c (.tup xs)) Q=Q xs:=propext Iff.rfl
@[scoped simp ↓] theorem ls_l (xs:List FV) (Q:List FV→Prop):wp (a7g (.lst xs)) Q=Q xs:=propext Iff.rfl
@[scoped simp ↓] theorem sq_t (xs:List FV) (Q:List FV→Prop):wp (a4z (.tup xs)) Q=Q xs:=propext Iff.rfl
@[scoped simp ↓] theorem sq_l (xs:List FV) (Q:List FV→Prop):wp (a4z (.lst xs)) Q=Q xs:=propext Iff.rfl
@[scoped simp ↓] theorem sq_s (ns:List Int) (Q:List FV→Prop):wp (a4z (.scr ns)) Q=Q (ns.map .int):=propext Iff.rfl
@[scoped simp ↓] theorem li_l (xs:List FV) (Q:List FV→Prop):wp (a1v (.lst xs)) Q=Q xs:=propext Iff.rfl
@[scoped simp ↓] theorem b_add:wp (a4c (.int i) (.int j)) Q=Q (.int (i + j)):=propext Iff.rfl
@[scoped simp ↓] theorem b_sub:wp (c6k (.int i) (.int j)) Q=Q (.int (i - j)):=propext Iff.rfl
@[scoped simp ↓] theorem b_mul:wp (b4p (.int i) (.int j)) Q↔(a2c i || a2c j)=true∧Q (.int (i * j)):=a3c _ _ _
@[scoped simp ↓] theorem b_fdiv:wp (b7g (.int i) (.int j)) Q↔(0 < j∧j < 1073741824)∧Q (.int (i / j)):=a3c _ _ _
@[scoped simp ↓] theorem b_mod:wp (c0f (.int i) (.int j)) Q↔0 < j∧Q (.int (i % j)):=a3c _ _ _
@[scoped simp ↓] theorem b_pow:wp (c8d (.int i) (.int j)) Q↔(0≤j∧j≤1000∧a2c i=true)∧Q (.int (i ^ j.toNat)):=a3c _ _ _
@[scoped simp ↓] theorem b_addt (xs ys:List FV):wp (a4c (.tup xs) (.tup ys)) Q↔xs.length + ys.length≤big∧Q (.tup (xs++ys)):=a3c _ _ _
@[scoped simp ↓] theorem b_addl (xs ys:List FV):wp (a4c (.lst xs) (.lst ys)) Q↔xs.length + ys.length≤big∧Q (.lst (xs++ys)):=a3c _ _ _
@[scoped simp ↓] theorem b_rep (xs:List FV) (k:Int):wp (b4p (.lst xs) (.int k)) Q↔(-(2 ^ 63)≤k∧k < 2 ^ 63∧xs.length * k.toNat≤big)∧Q (.lst (List.replicate k.toNat xs).flatten):=a3c _ _ _
@[scoped simp ↓] theorem d4u {f:FV→FV→Option FV} (v w:FV):wp (a5j f v w) Q↔wp (f v w) fun z=>wp (a7g z) fun xs=>Q (.lst xs):=by unfold a5j; rw [a1i]; simp only [a2q]
@[scoped simp ↓] theorem k_eq (a b:FV):wp (eqB a b) Q↔wp (eqF a b) fun r=>Q (.bl r):=a2q _ _ _
@[scoped simp ↓] theorem k_ne (a b:FV):wp (neB a b) Q↔wp (eqF a b) fun r=>Q (.bl (!r)):=a2q _ _ _
@[scoped simp ↓] theorem k_lt:wp (ltB (.int i) (.int j)) Q=Q (.bl (decide (i < j))):=propext Iff.rfl
@[scoped simp ↓] theorem k_gt:wp (gtB (.int i) (.int j)) Q=Q (.bl (decide (j < i))):=propext Iff.rfl
@[scoped simp ↓] theorem k_ge:wp (geB (.int i) (.int j)) Q=Q (.bl (decide (j≤i))):=propext Iff.rfl
@[scoped simp ↓] theorem e_ii:wp (eqF (.int i) (.int j)) B=B (i == j):=propext Iff.rfl
@[scoped simp ↓] theorem e_ss (a b:String):wp (eqF (.str a) (.str b)) B=B (a == b):=propext Iff.rfl
@[scoped simp ↓] theorem e_bb (a b:Bool):wp (eqF (.bl a) (.bl b)) B=B (a == b):=propext Iff.rfl
@[scoped simp ↓] theorem e_sh (d:D):wp (eqF (.shn d) (.shn d)) B=B true:=by simp [eqF]
@[scoped simp ↓] theorem d4w (v:FV):wp (ixF v (.int i)) Q↔wp (a4z v) fun xs=>wp (atF xs i) Q:=by
 show wp ((a4z v).bind _) Q↔_; rw [a1i]
@[scoped simp ↓] theorem f_min:wp (b3v (.int i) (.int j)) Q=Q (.int (if j < i then j else i)):=propext Iff.rfl
@[scoped simp ↓] theorem f_max:wp (b6i (.int i) (.int j)) Q=Q (.int (if j > i then j else i)):=propext Iff.rfl
@[scoped simp ↓] theorem f_not (b:Bool):wp (d1k (.bl b)) Q=Q (.bl (!b)):=propext Iff.rfl
@[scoped simp ↓] theorem f_neg:wp (d4s (.int i)) Q=Q (.int (-i)):=propext Iff.rfl
@[scoped simp ↓] theorem f_len (v:FV):wp (a7h v) Q↔wp (a4z v) fun xs=>Q (.int xs.length):=a2q _ _ _
@[scoped simp ↓] theorem f_abs:wp (d1c (.int i)) Q=Q (.int (if i < 0 then -i else i)):=propext Iff.rfl
@[scoped simp ↓] theorem f_intb (b:Bool):wp (b1o (.bl b)) Q=Q (.int (if b then 1 else 0)):=propext Iff.rfl
@[scoped simp ↓] theorem f_sum (v:FV):wp (c6y v) Q↔wp (a1v v) fun xs=>wp (d1e xs) fun n=>Q (.int n):=by
 show wp ((a1v v).bind _) Q↔_; rw [a1i]; simp only [a2q]
@[scoped simp ↓] theorem f_all (v:FV):wp (c6n v) Q↔wp (a1v v) fun xs=>wp (a4v xs) fun bs=>Q (.bl (bs.all id)):=by
 show wp ((a1v v).bind _) Q↔_; rw [a1i]; simp only [a2q]
@[scoped simp ↓] theorem f_any (v:FV):wp (c2p v) Q↔wp (a1v v) fun xs=>wp (a4v xs) fun bs=>Q (.bl (bs.any id)):=by
 show wp ((a1v v).bind _) Q↔_; rw [a1i]; simp only [a2q]
@[scoped simp ↓] theorem d7c (v:FV):wp (a2l v) Q↔wp (a4z v) fun xs=>Q (.tup xs):=a2q _ _ _
@[scoped simp ↓] theorem f_list (v:FV):wp (a3g v) Q↔wp (a4z v) fun xs=>Q (.lst xs):=a2q _ _ _
@[scoped simp ↓] theorem f_isi (t:Ty) (v:FV):wp (b8u t v) Q↔wp (a6j v t) fun b=>Q (.bl b):=a2q _ _ _
@[scoped simp ↓] theorem y_non (t:Ty):wp (a6j .non t) B=B false:=propext Iff.rfl
@[scoped simp ↓] theorem y_bl (b:Bool) (t:Ty):wp (a6j (.bl b) t) B=B (t == .int || t == .bool):=propext Iff.rfl
@[scoped simp ↓] theorem y_int (t:Ty):wp (a6j (.int i) t) B=B (t == .int):=propext Iff.rfl
@[scoped simp ↓] theorem y_str (b:String) (t:Ty):wp (a6j (.str b) t) B=B (t == .str):=propext Iff.rfl
@[scoped simp ↓] theorem y_tup (b:List FV) (t:Ty):wp (a6j (.tup b) t) B=B (t == .tuple):=propext Iff.rfl
@[scoped simp ↓] theorem y_lst (b:List FV) (t:Ty):wp (a6j (.lst b) t) B=B (t == .list):=propext Iff.rfl
@[scoped simp ↓] theorem iN_n:wp (a2m .non) Q=Q (.bl true):=propext Iff.rfl
@[scoped simp ↓] theorem iN_i:wp (a2m (.int i)) Q=Q (.bl false):=propext Iff.rfl
@[scoped simp ↓] theorem nN_n:wp (a0q .non) Q=Q (.bl false):=propext Iff.rfl
@[scoped simp ↓] theorem nN_b (b:Bool):wp (a0q (.bl b)) Q=Q (.bl true):=propext Iff.rfl
@[scoped simp ↓] theorem nN_i:wp (a0q (.int i)) Q=Q (.bl true):=propext Iff.rfl
@[scoped simp ↓] theorem nN_t (xs:List FV):wp (a0q (.tup xs)) Q=Q (.bl true):=propext Iff.rfl
@[scoped simp ↓] theorem nN_l (xs:List FV):wp (a0q (.lst xs)) Q=Q (.bl true):=propext Iff.rfl
@[scoped simp ↓] theorem m_app (xs:List FV) (v:FV):wp (d1a (.lst xs) v) Q↔xs.length < big∧Q (.lst (xs++[v])):=a3c _ _ _
@[scoped simp ↓] theorem s_l (xs:List FV) (lo hi:Option Int):wp (a6b (.lst xs) lo hi) Q=Q (.lst (b4i xs lo hi)):=propext Iff.rfl
@[scoped simp ↓] theorem st_l (xs:List FV) (v:FV):wp (d3g (.lst xs) (.int j) v) Q↔wp (ixN xs.length j) fun p=>Q (.lst (xs.set p v)):=a2q _ _ _
end
theorem a4w {xs:List FV} {i:Int} {n:Nat} {v:FV} {Q:FV→Prop} (h:i=n) (hv:xs[n]?=some v):wp (atF xs i) Q↔Q v:=by
 subst h
 have:=(List.getElem?_eq_some_iff.mp hv).1
 simp only [atF,ixN,Int.natCast_nonneg,if_true,Int.ofNat_lt,this,Option.bind_some,Int.toNat_natCast,hv,a2v]
@[scoped simp ↓] theorem at_0 (x:FV) (r:List FV) (Q:FV→Prop):wp (atF (x :: r) 0) Q↔Q x:=a4w (n:=0) rfl rfl
@[scoped simp ↓] theorem at_1 (x y:FV) (r:List FV) (Q:FV→Prop):wp (atF (x :: y :: r) 1) Q↔Q y:=a4w (n:=1) rfl rfl
@[scoped simp ↓] theorem at_2 (x y z:FV) (r:List FV) (Q:FV→Prop):wp (atF (x :: y :: z :: r) 2) Q↔Q z:=a4w (n:=2) rfl rfl
theorem b2p {n:Nat} {i:Int} {j:Nat} {Q:Nat→Prop} (h:i=j) (hj:j < n):wp (ixN n i) Q↔Q j:=by
 subst h; simp [ixN,hj]
theorem a4x {xs:List FV} {u:Int} {Q:FV→Prop} (h0:0≤u) (h1:u < xs.length) (h:∀ x∈xs,Q x):wp (atF xs u) Q:=by
 have hu:u.toNat < xs.length:=by lia
 rw [a4w (show u=u.toNat by lia) (List.getElem?_eq_getElem hu)]
 exact h _ (List.getElem_mem hu)
theorem a1g {α:Type} (p:α→Bool):∀ xs:List α,a4v (xs.map fun x=>.bl (p x))=some (xs.map p)
 | []=>rfl
 | x :: r=>by simp only [List.map_cons,a4v,a1g p r,Option.map_some]
theorem b2u:∀ ns:List Int,a0r (ns.map .int)=some ns
 | []=>rfl
 | x :: r=>by simp only [List.map_cons,a0r,b2u r,Option.map_some]
@[scoped simp] theorem ty_01:(Ty.int == Ty.bool)=false:=by decide
@[scoped simp] theorem ty_02:(Ty.int == Ty.str)=false:=by decide
@[scoped simp] theorem ty_03:(Ty.int == Ty.list)=false:=by decide
@[scoped simp] theorem ty_04:(Ty.int == Ty.tuple)=false:=by decide
@[scoped simp] theorem ty_10:(Ty.bool == Ty.int)=false:=by decide
@[scoped simp] theorem ty_12:(Ty.bool == Ty.str)=false:=by decide
@[scoped simp] theorem ty_13:(Ty.bool == Ty.list)=false:=by decide
@[scoped simp] theorem ty_14:(Ty.bool == Ty.tuple)=false:=by decide
@[scoped simp] theorem ty_40:(Ty.tuple == Ty.int)=false:=by decide
@[scoped simp] theorem ty_41:(Ty.tuple == Ty.bool)=false:=by decide
@[scoped simp] theorem ty_42:(Ty.tuple == Ty.str)=false:=by decide
@[scoped simp] theorem ty_43:(Ty.tuple == Ty.list)=false:=by decide
theorem a0j {tb:List FD} {d f:Nat} {args:List FV} {fd:FD} {Q:FV×FV→Prop} (h:tb[f]?=some fd) (hl:args.length=fd.np)
  (H:fd.body (callW tb d) (args.map some++List.replicate (fd.ns - fd.np) none) (b8v fd.io fd.fr Q)):callW tb (d + 1) f args Q:=by
 show (match tb[f]? with
  | none=>False
  | some fd=>args.length=fd.np∧fd.body (callW tb d) (args.map some++List.replicate (fd.ns - fd.np) none) (b8v fd.io fd.fr Q))
 rw [h]; exact ⟨hl,H⟩
theorem a8s {tb:List FD} {d f:Nat} {args:List FV} {fd:FD} {Q:FV×FV→Prop} (h:tb[f]?=some fd) (hl:args.length=fd.np) :
  callW tb (d + 1) f args Q↔fd.body (callW tb d) (args.map some++List.replicate (fd.ns - fd.np) none) (b8v fd.io fd.fr Q):=by
 show (match tb[f]? with
  | none=>False
  | some fd=>args.length=fd.np∧fd.body (callW tb d) (args.map some++List.replicate (fd.ns - fd.np) none) (b8v fd.io fd.fr Q))↔_
 rw [h]; exact ⟨fun z=>z.2,fun z=>⟨hl,z⟩⟩
theorem a4s {α:Type} {tg:Tg} {b:SW} {f:α→FV} {I:List α→a0d→Prop} {Q:FFl→a0d→Prop} (all:List α) :
  ∀ (rest done:List α) (L:a0d),all=done++rest→I done L →
  (∀ d x r L (K:a0d→Prop),all=d++x :: r→I d L→(∀ L',I (d++[x]) L'→K L')→gW tg (f x) L fun L1=>b L1 (b0k K Q)) →
  (∀ L,I all L→Q .next L)→c5n tg b (rest.map f) L Q
 | [],done,L,e,h,_,E=>by
  rw [List.append_nil] at e
  exact E L (e ▸ h)
 | x :: rest,done,L,e,h,B,E=>B done x rest L _ e h fun L' h'=>a4s all rest (done++[x]) L' (by simp [e]) h' B E
theorem a1e {tg:Tg} {b:SW} {I:Nat→a0d→Prop} {Q:FFl→a0d→Prop}:∀ (n i:Nat) (L:a0d),I i L →
  (∀ j L (K:a0d→Prop),i≤j→j < i + n→I j L→(∀ L',I (j + 1) L'→K L')→gW tg (.int (j:Int)) L fun L1=>b L1 (b0k K Q)) →
  (∀ L,I (i + n) L→Q .next L)→c5n tg b (upF (i:Int) n) L Q
 | 0,i,L,h,_,E=>E L h
 | n + 1,i,L,h,B,E=>B i L _ (Nat.le_refl _) (by lia) h fun L' h'=>by
  have:=a1e n (i + 1) L' h' (fun j L K hj hj'=>B j L K (by lia) (by lia)) (fun L h=>E L (by rw [show i + (n + 1)=i + 1 + n by lia]; exact h))
  simpa using this
theorem while_by {c:BW} {b:SW} {I:Nat→a0d→Prop} {Q:FFl→a0d→Prop} (B:∀ m L (K:a0d→Prop),I m L→(∀ m' L',m' < m→I m' L'→K L')→c L fun t L1=>if t=true then b L1 (b0k K Q) else Q .next L1) {m:Nat} {L:a0d} (h:I m L):c7g c b L Q:=by
 have go:∀ n m L,m < n→I m L→c6h c b n L Q:=by
  intro n
  induction n with
  | zero=>intro m L hm; lia
  | succ n ih=>intro m L hm h; exact B m L _ h fun m' L' h1 h2=>ih m' L' (by lia) h2
 exact ⟨m + 1,go _ m L (Nat.lt_succ_self _) h⟩
theorem a3j {α:Type} {tg:Tg} {n m:Nat} {t:BW} {e:EW} {f:α→FV} {I:List α→List FV→a0d→Prop} {Q:List FV→a0d→Prop} (all:List α) :
  ∀ (rest done:List α) (acc:List FV) (L:a0d),all=done++rest→I done acc L →
  (∀ d x r acc L (K:List FV→a0d→Prop),all=d++x :: r→I d acc L→(∀ acc' L',I (d++[x]) acc' L'→K acc' L')→gW tg (f x) (L++List.replicate m none) fun L1=>t L1 fun b L2=>if b=true then e L2 fun v L3=>K (acc++[v]) (L3.take n) else K acc (L2.take n)) →
  (∀ ys L,I all ys L→Q ys L)→a5m n m tg t e (rest.map f) acc L Q
 | [],done,acc,L,e,h,_,E=>by
  rw [List.append_nil] at e
  exact E acc L (e ▸ h)
 | x :: rest,done,acc,L,e,h,B,E=>B done x rest acc L (fun acc' L'=>a5m _ _ _ _ _ (rest.map f) acc' L' Q) e h fun acc' L' h'=>a3j all rest (done++[x]) acc' L' (by simp [e]) h' B E
theorem a0t {α:Type} {tg:Tg} {n m:Nat} {e:EW} {f:α→FV} {g:α→FV} {Q:List FV→a0d→Prop} {L:a0d}:∀ (xs:List α) (acc:List FV),
  (∀ x∈xs,∀ K:FV→a0d→Prop,K (g x) L→gW tg (f x) (L++List.replicate m none) fun L1=>e L1 fun v L3=>K v (L3.take n))→Q (acc++xs.map g) L→a5m n m tg a1s e (xs.map f) acc L Q
 | [],acc,_,E=>by
  show Q acc L
  simpa using E
 | x :: xs,acc,B,E=>B x List.mem_cons_self (fun v L'=>a5m n m tg a1s e (xs.map f) (acc++[v]) L' Q) (a0t xs (acc++[g x]) (fun y hy=>B y (List.mem_cons_of_mem _ hy)) (by simpa using E))
theorem a3z {α:Type} {tg:Tg} {n m:Nat} {t:BW} {e:EW} {f:α→FV} {g:α→FV} {p:α→Bool} {Q:List FV→a0d→Prop} {L:a0d}:∀ (xs:List α) (acc:List FV),
  (∀ x∈xs,∀ (K:FV→a0d→Prop) (N:a0d→Prop),(p x=true→K (g x) L)→(p x=false→N L)→gW tg (f x) (L++List.replicate m none) fun L1=>t L1 fun b L2=>if b=true then e L2 fun v L3=>K v (L3.take n) else N (L2.take n))→Q (acc++(xs.filter p).map g) L→a5m n m tg t e (xs.map f) acc L Q
 | [],acc,_,E=>by
  show Q acc L
  simpa using E
 | x :: xs,acc,B,E=>B x List.mem_cons_self (fun v L'=>a5m n m tg t e (xs.map f) (acc++[v]) L' Q) (fun L'=>a5m n m tg t e (xs.map f) acc L' Q)
   (fun hp=>a3z xs (acc++[g x]) (fun y hy=>B y (List.mem_cons_of_mem _ hy)) (by rw [List.filter_cons_of_pos hp] at E; simpa using E))
   (fun hp=>a3z xs acc (fun y hy=>B y (List.mem_cons_of_mem _ hy)) (by rw [List.filter_cons_of_neg (by simp [hp])] at E; exact E))
theorem c1l:∀ n lo:Nat,upF (lo:Int) n=(List.range' lo n).map fun i:Nat=>FV.int i
 | 0,lo=>rfl
 | n + 1,lo=>by simp only [upF,List.range'_succ,List.map_cons]; rw [← c1l n (lo + 1)]; simp
theorem a2j (n:Nat):upF 0 n=(List.range n).map fun i:Nat=>FV.int i:=by
 have:=c1l n 0
 rw [List.range_eq_range']; exact_mod_cast this
theorem ite2 {c A B:Prop} [Decidable c] (h1:c→A) (h2:¬ c→B):if c then A else B:=by
 by_cases h:c
 ·rw [if_pos h]; exact h1 h
 ·rw [if_neg h]; exact h2 h
end Kq
end
set_option maxHeartbeats 4000000
section
namespace Kq
open PySem PySem.Spec PyProof.Rows L2
section
variable {X:Cx} {C:CC} {n:Nat} {sp:Γd→Nat→Sp} {a:Expr} {ea:EW} {p p2 p3 p4 pos:Pos}
end
section
variable {X:Cx} {C:CC} {n:Nat} {sp:Γd→Nat→Sp} {fr:Bool} {a b:Expr} {ea eb:EW} {pos px py pt p2:Pos} {i j kt k2:Nat} {nx ny:Str}
end
section
variable {X:Cx} {tg:Expr}
end
noncomputable def c5t (hi:Int):Nat→List FV
 | 0=>[]
 | n + 1=>.int hi :: c5t (hi - 1) n
noncomputable def iDown (a b:EW):AW:=fun L Q=>a L fun x L1=>b L1 fun y L2=>wp (a5b x) fun i=>wp (a5b y) fun j=>(a1r i && a1r j)=true∧Q (c5t i (i - j).toNat) L2
section
variable {X:Cx} {C:CC} {n:Nat} {sp:Γd→Nat→Sp} {a b tg:Expr} {ea eb:EW} {p p3 p4 pos:Pos} {kk:Nat}
variable {K:Γd} {c:Cn} {md:Md}
end
end Kq
end
section
namespace PySem
open PySem.Spec
section
variable {prog:Program} {w:World} {A:Around} {E:Value→Shared→Prop} {s:Shared}
end
end PySem
end
section
namespace Kq
open PySem PySem.Spec PyProof.Rows L2
section
variable {X:Cx} {tg:Expr}
end
noncomputable def iRevr (a:EW):AW:=fun L Q=>a L fun x L1=>wp (a5b x) fun j=>a1r j=true∧Q (c5t ((j.toNat:Int) - 1) j.toNat) L1
section
variable {P:Program} {w:World} {A:Around} {R:Result→Shared→Prop} {it S N:Addr} {fp wr:List Addr} {n:Nat} {V:Nat→Value→Prop} {St:Nat→Heap→Prop} {bt:Nat→Nat→Bool} {h0:Heap} {kw:List (Str×Value)}
end
section
variable {P:Program} {w:World} {A:Around} {E:Value→Shared→Prop} {s:Shared}
end
section
variable {P:Program} {w:World} {A:Around} {E:Value→Shared→Prop} {s:Shared}
end
noncomputable def c4u (b:Int):List Int→Int
 | []=>b
 | x :: r=>c4u (if b < x then x else b) r
noncomputable def mostD (d:Int):List Int→Int
 | []=>d
 | n :: r=>c4u n r
section
variable {X:Cx}
variable {x:Str} {p pos kp:Pos} {e v:Expr} {t:TA} {tv:TE} {id:String} {kn:Str} {r:V→V→Hp→VK→Prop}
end
section
variable {X:Cx} {C:CC} {n:Nat} {sp:Γd→Nat→Sp} {a b:Expr} {ea eb:EW} {pos p kp:Pos}
end
section
variable (Q:FV→Prop)
end
section
variable {P:Program} {w:World} {A:Around} {E:Value→Shared→Prop}
end
section
variable {X:Cx} {pos:Pos}
end
noncomputable def sUnp (e:EW) (is:List Nat):SW:=fun L Q=>e L fun x L1=>wp (a7g x) fun xs=>wp (a7z L1 is xs) fun L2=>Q .next L2
section
variable {X:Cx} {C:CC} {n:Nat} {sp:Γd→Nat→Sp} {fr:Bool} {a:Expr} {e:EW} {pos p:Pos} {is:List Nat} {k:Nat}
end
section
variable {prog:Program} {w:World} {A:Around} {E:Value→Shared→Prop} {s:Shared}
end
section
variable {X:Cx} {S H:Hp} {Q:VK}
noncomputable def tmulF (v w:FV):Option FV:=(a7c v).bind fun xs=>(a5b w).bind fun k=>if -(2 ^ 63)≤k∧k < 2 ^ 63∧xs.length * k.toNat≤big then some (.tup (List.replicate k.toNat xs).flatten) else none
end
section
variable {X:Cx} {C:CC} {a b:Expr} {ea eb:EW} {pos:Pos}
end
end Kq
end
section
namespace PySem
section
variable {prog:Program} {w:World} {A:Around} {E:Value→Shared→Prop} {s:Shared}
end
end PySem
end
section
namespace Kq
open PySem PySem.Spec PyProof.Rows L2
section
variable {X:Cx}
variable {a b:Expr} {ta:TA} {p p2 pos pos2:Pos} {T:Str} {Tn:String} {ho:List V→HO}
end
noncomputable def rngF (c:List FV→FV) (v:FV):Option FV:=(a5b v).bind fun j=>if a1r j=true∧j.toNat≤big then some (c (upF 0 j.toNat)) else none
noncomputable def rng2F (c:List FV→FV) (v w:FV):Option FV:=(a5b v).bind fun i=>(a5b w).bind fun j=>if (a1r i && a1r j)=true∧(j - i).toNat≤big then some (c (upF i (j - i).toNat)) else none
section
variable {X:Cx} {C:CC} {n:Nat} {sp:Γd→Nat→Sp} {a b:Expr} {ea eb:EW} {pos p p2 pos2:Pos}
end
end Kq
end
section
namespace PySem
noncomputable def d8u (A:Around) (s:Shared) (x y:Value) (b:Bool):Prop :=
 ∀ (prog:Program) (w:World) (E:Value→Shared→Prop) (Q:Value→Shared→Prop),Q (.bool b) s→wpAny (model prog w) A (richCompare .Lt x y) Q E s
inductive LexAt (A:Around) (s:Shared):List Value→List Value→Bool→Prop
 | nn:LexAt A s [] [] false
 | nc {y ys}:LexAt A s [] (y :: ys) true
 | cn {x xs}:LexAt A s (x :: xs) [] false
 | eq {x y xs ys r}:SeqAt.EqAt A s x y true→LexAt A s xs ys r→LexAt A s (x :: xs) (y :: ys) r
 | ne {x y xs ys r}:SeqAt.EqAt A s x y false→d8u A s x y r→LexAt A s (x :: xs) (y :: ys) r
section
open PySem.SeqAt
open PySem.AutoSeq1 (wpAny_loadPart')
open PySem.MeetsSeq PySem.MeetsSeq2 PySem.MeetsSeq3
theorem a8y (l b:Addr) (items items2:Array Value) (n n2:Nat) (dd dd2:Option Addr) (sl sl2:Array (Option Value)) :
  Meets (Builtin.«tuple.__lt__» ⟨[.ref l,.ref b],[]⟩)
   (fun A R s=>s.heap.get? l=some { cls:=.type "tuple",dict:=dd,data:=.seq items n,slots:=sl }∧s.heap.get? b=some { cls:=.type "tuple",dict:=dd2,data:=.seq items2 n2,slots:=sl2 } ∧
    ∃ r,LexAt A.in1 s items.toList items2.toList r∧R (.ok (.ret (.bool r))) s) :=
 .of_wp fun prog w A R s h=>by
  obtain ⟨hp,g,d,tk,os⟩:=s; obtain ⟨hl,hb,r,hlex,h⟩:=h
  have f2:=AutoSeq1.sub_tuple_tuple
  wp_walk using wpAny_loadPart' hl,wpAny_loadPart' hb,wpAny_forIn_list _ (fun rest b s'=>b.1=none∧s'=⟨hp,g,d,tk,os⟩∧∃ (vs ws:List Value),rest=vs.zip ws ∧
   LexAt A.in1 ⟨hp,g,d,tk,os⟩ vs ws r∧vs.length + items2.size=ws.length + items.size) _
  case turn =>
   rintro ⟨y,x⟩ rest b s' ⟨hb',rfl,vs,ws,hz,hlx,hlen⟩
   cases hlx with
   | nn=>cases hz
   | nc=>cases hz
   | cn=>rw [List.zip_nil_right] at hz; cases hz
   | eq he hr =>
    rw [List.zip_cons_cons] at hz
    injection hz with hyx hrest
    injection hyx with hy hx
    subst hy hx
    simp only [List.length_cons] at hlen
    refine Γa (he prog w _ _ ?_)
    wp_walk
    exact ⟨rfl,rfl,_,_,hrest,hr,by lia⟩
   | ne he hr =>
    rw [List.zip_cons_cons] at hz
    injection hz with hyx hrest
    injection hyx with hy hx
    subst hy hx
    refine Γa (he prog w _ _ ?_)
    have hri:=hr prog w
    wp_walk using hri
    exact ⟨_,rfl,by simpa using h⟩
  case fin =>
   rintro ⟨b1,b2⟩ s' ⟨hb',rfl,vs,ws,hz,hlx,hlen⟩
   simp only at hb'
   subst hb'
   have hv:r=decide (items.size < items2.size):=by
    cases hlx with
    | nn=>simp only [List.length_nil] at hlen; exact (decide_eq_false (by lia)).symm
    | nc=>simp only [List.length_nil,List.length_cons] at hlen; exact (decide_eq_true (by lia)).symm
    | cn=>simp only [List.length_nil,List.length_cons] at hlen; exact (decide_eq_false (by lia)).symm
    | eq=>rw [List.zip_cons_cons] at hz; cases hz
    | ne=>rw [List.zip_cons_cons] at hz; cases hz
   rw [hv] at h
   wp_walk
   exact ⟨_,rfl,by simpa [Builtin.Tuple.tupleCompareSizes] using h⟩
  case h =>
   exact ⟨rfl,rfl,items.toList,items2.toList,rfl,hlex,by simp; lia⟩
end
theorem c0g {A:Around} {s:Shared} {l b:Addr} {o o2:Obj} {items items2:Array Value} {n n2:Nat} {r:Bool} (h1:s.heap.get? l=some o) (h2:o.cls=.type "tuple") (h3:o.data=.seq items n) (g1:s.heap.get? b=some o2) (g2:o2.cls=.type "tuple") (g3:o2.data=.seq items2 n2)
  (hlex:LexAt A.in1 s items.toList items2.toList r) (hu:A.units < cLine):d8u A s (.ref l) (.ref b) r:=by
 intro prog w E Q h
 obtain ⟨cls,dd,data,sl⟩:=o
 obtain ⟨cls2,dd2,data2,sl2⟩:=o2
 simp only at h2 h3 g2 g3
 subst h2 h3 g2 g3
 exact richCompare_meets_room (op:=.Lt) ⟨_,h1,rfl⟩ ⟨_,g1,rfl⟩ PySem.F.slot_tuple_lt PySem.F.entry_tuple_lt (PySem.F.args_tuple_lt_2 _ _) (a8y l b items items2 n n2 dd dd2 sl sl2)
  ⟨h1,g1,r,hlex,show Value.bool r≠Value.notImplemented∧Q (.bool r) s from ⟨(fun x=>nomatch x),h⟩⟩ hu
end PySem
namespace Kq
open PySem PySem.Spec PyProof.Rows L2
noncomputable def d3d (a b:String):Bool:=decide ((Γe a).cps.toList < (Γe b).cps.toList)
mutual
noncomputable def ltD:D→D→Option Bool
 | .int a,.int b=>some (decide (a < b))
 | .str a,.str b=>some (d3d a b)
 | .tup a,.tup b=>d1m a b
 | _,_=>none
noncomputable def d1m:List D→List D→Option Bool
 | [],[]=>some false
 | [],_ :: _=>some true
 | _ :: _,[]=>some false
 | a :: r,b :: q=>if D.eqv a b=true then d1m r q else ltD a b
end
mutual
theorem c9n:∀ (x y:D) (A:Around) (s:Shared) (v u:Value) (as bs:List Addr) (r:Bool),Reads s.heap v (dPy x) as→Reads s.heap u (dPy y) bs→ltD x y=some r→A.units + (dPy x).depth < cLine→d8u A s v u r
 | .int a,y,A,s,v,u,as,bs,r,h1,h2,e,hu=>by
  cases y with
  | int b =>
   cases e
   simp only [dPy] at h1 h2
   cases h1; cases h2
   exact fun prog w E Q h=>PyProof.Rows.lt_int h
  | _=>cases e
 | .str a,y,A,s,v,u,as,bs,r,h1,h2,e,hu=>by
  cases y with
  | str b =>
   cases e
   simp only [dPy] at h1 h2
   cases h1; cases h2
   exact fun prog w E Q h=>PySem.P.lt_str h
  | _=>cases e
 | .tup xs,y,A,s,v,u,as,bs,r,h1,h2,e,hu=>by
  cases y with
  | tup ys =>
   simp only [dPy] at h1 h2
   simp only [dPy,PyData.depth] at hu
   cases h1 with
   | tuple a1 a2 a3 a4 =>
    cases h2 with
    | tuple b1 b2 b3 b4 =>
     exact c0g a1 a2 a3 b1 b2 b3 (b6m xs ys A.in1 s _ _ _ _ r a4 b4 e (by show A.units + 1 + _ < _; lia)) (by lia)
  | _=>cases e
 | .non,y,A,s,v,u,as,bs,r,h1,h2,e,hu=>by cases y <;> cases e
 | .bl _,y,A,s,v,u,as,bs,r,h1,h2,e,hu=>by cases y <;> cases e
 | .lst _,y,A,s,v,u,as,bs,r,h1,h2,e,hu=>by cases y <;> cases e
theorem b6m:∀ (xs ys:List D) (A:Around) (s:Shared) (vs us:List Value) (as bs:List Addr) (r:Bool),ReadsAll s.heap vs (a4u xs) as→ReadsAll s.heap us (a4u ys) bs→d1m xs ys=some r→A.units + PyData.depthAll (a4u xs) < cLine→LexAt A s vs us r
 | [],[],A,s,vs,us,as,bs,r,h1,h2,e,hu=>by cases h1; cases h2; cases e; exact .nn
 | [],y :: ys,A,s,vs,us,as,bs,r,h1,h2,e,hu=>by cases h1; cases h2; cases e; exact .nc
 | x :: xs,[],A,s,vs,us,as,bs,r,h1,h2,e,hu=>by cases h1; cases h2; cases e; exact .cn
 | x :: xs,y :: ys,A,s,vs,us,as,bs,r,h1,h2,e,hu=>by
  simp only [a4u] at h1 h2
  simp only [a4u,PyData.depthAll] at hu
  cases h1 with
  | cons a1 a2 =>
   cases h2 with
   | cons b1 b2 =>
    have he:=PySem.SeqAt.eqAt_reads _ _ A s _ _ _ _ a1 b1 (a5r x) (a5r y) (by lia)
    rw [b8c] at he
    simp only [d1m] at e
    split at e
    ·rename_i hq
     rw [hq] at he
     exact .eq he (b6m xs ys A s _ _ _ _ r a2 b2 e (by lia))
    ·rename_i hq
     have hq:D.eqv x y=false:=by simpa using hq
     rw [hq] at he
     exact .ne he (c9n x y A s _ _ _ _ r a1 b1 e (by lia))
end
end Kq
end
section
namespace Kq
open PySem PySem.Spec PyProof.Rows L2
noncomputable def btD (ds:List D) (i j:Nat):Bool:=(ltD (ds.getD i .non) (ds.getD j .non)).getD false
open Classical in
noncomputable def minDF (v:FV):Option FV:=(a1v v).bind fun xs=>(b4q (fD a1c) xs).bind fun ds =>
 if 0 < ds.length∧(∀ x∈ds,∀ y∈ds,(ltD x y).isSome=true)∧∀ ps,xs[argBest (btD ds) (ds.length - 1)]?≠some (.lst ps) then xs[argBest (btD ds) (ds.length - 1)]? else none
section
variable {X:Cx}
end
section
variable {X:Cx} {C:CC} {n:Nat} {sp:Γd→Nat→Sp} {a:Expr} {ea:EW} {pos p:Pos}
end
noncomputable def a2h {κ α:Type} [DecidableEq κ] (ks:List κ) (vs:List α) (k:κ) (v:α):List κ×List α :=
 if k∈ks then (ks,List.zipWith (fun k' v'=>if k'=k then v else v') ks vs) else (ks++[k],vs++[v])
noncomputable def a2t {κ α:Type} [DecidableEq κ]:List κ→List α→κ→Option α
 | k' :: ks,v :: vs,k=>if k'=k then some v else a2t ks vs k
 | _,_,_=>none
theorem b6z {a b:List Int} (h:a.map (Sum.inl:Int→Int ⊕ Str)=b.map Sum.inl):a=b:=by
 induction a generalizing b with
 | nil=>cases b with | nil=>rfl | cons=>cases h
 | cons x r ih=>cases b with
  | nil=>cases h
  | cons y q =>
   simp only [List.map_cons,List.cons.injEq,Sum.inl.injEq] at h
   rw [h.1,ih h.2]
theorem a6l:∀ (ks:List (List Int)) (us:List V) (k:List Int),b0i ((a1a ks).zip us) (k.map Sum.inl)=a2t ks us k
 | [],us,k=>by cases us <;> rfl
 | k' :: ks,[],k=>rfl
 | k' :: ks,u :: us,k=>by
  show b0i ((k'.map Sum.inl,u) :: (a1a ks).zip us) (k.map Sum.inl)=if k'=k then some u else a2t ks us k
  by_cases e:k'=k
  ·subst e; rw [a4d rfl,if_pos rfl]
  ·rw [a4e fun z=>e (b6z z),if_neg e]; exact a6l ks us k
theorem a1y {κ α:Type} [DecidableEq κ]:∀ {ks:List κ} {vs:List α} (k:κ),ks.length=vs.length→((a2t ks vs k).isSome=true↔k∈ks)
 | [],vs,k,h=>by simp [a2t]
 | k' :: ks,[],k,h=>by simp at h
 | k' :: ks,v :: vs,k,h=>by
  simp only [a2t]
  by_cases e:k'=k
  ·simp [e]
  ·simp only [e,if_false,List.mem_cons,Ne.symm e,false_or]
   rw [a1y k (by simpa using h)]
theorem b0u (ks:List (List Int)) (us:List V) (k:List Int) (u:V) (hl:ks.length=us.length):a4b ((a1a ks).zip us) (k.map Sum.inl) u=(a1a (a2h ks us k u).1).zip (a2h ks us k u).2:=by
 have hany:(((a1a ks).zip us).any fun kv=>decide (kv.1=k.map Sum.inl))=true↔k∈ks:=by
  rw [a5s,a6l,a1y k hl]
 unfold a4b a2h
 by_cases e:k∈ks
 ·rw [if_pos (hany.mpr e),if_pos e]
  clear e hany
  induction ks generalizing us with
  | nil=>cases us <;> rfl
  | cons k' ks ih=>cases us with
   | nil=>rfl
   | cons u' us =>
    have:=ih us (by simpa using hl)
    show (if k'.map Sum.inl=k.map Sum.inl then (k'.map Sum.inl,u) else (k'.map Sum.inl,u')) :: ((a1a ks).zip us).map _=(k'.map Sum.inl,if k'=k then u else u') :: (a1a ks).zip _
    rw [this]
    congr 1
    by_cases e:k'=k
    ·subst e; simp
    ·rw [if_neg fun z=>e (b6z z),if_neg e]
 ·rw [if_neg fun z=>e (hany.mp z),if_neg e]
  show _=(a1a (ks++[k])).zip (us++[u])
  have:a1a (ks++[k])=a1a ks++[k.map Sum.inl]:=by simp [a1a]
  rw [this,List.zip_append (by simpa [a1a] using hl)]; rfl
theorem a4i {κ α:Type} [DecidableEq κ] (ks:List κ) (vs:List α) (k:κ) (v:α) (h:ks.length=vs.length):(a2h ks vs k v).1.length=(a2h ks vs k v).2.length∧(a2h ks vs k v).1.length≤ks.length + 1:=by
 unfold a2h
 split
 ·simp [h]
 ·simp [h]
section
variable {K:Γd} {S H:Hp}
theorem b5r {κ:Type} [DecidableEq κ] {k:κ} {v:FV} {u:V} (r2:RV K S v u):∀ {ks:List κ} {vs:List FV} {us:List V},RVs K S vs us→RVs K S (List.zipWith (fun k' v'=>if k'=k then v else v') ks vs) (List.zipWith (fun k' v'=>if k'=k then u else v') ks us)
 | [],vs,us,_=>rfl
 | k' :: ks,[],us,r=>by cases (show us=[] from r); rfl
 | k' :: ks,p :: vs,us,⟨x,q,e,h1,h2⟩=>by
  subst e
  refine ⟨_,_,rfl,?_,b5r r2 h2⟩
  by_cases e:k'=k
  ·simp only [e,if_true]; exact r2
  ·simp only [e,if_false]; exact h1
theorem a5u {κ:Type} [DecidableEq κ] {ks:List κ} {vs:List FV} {us:List V} {k:κ} {v:FV} {u:V} (r:RVs K S vs us) (r2:RV K S v u):(a2h ks vs k v).1=(a2h ks us k u).1∧RVs K S (a2h ks vs k v).2 (a2h ks us k u).2:=by
 unfold a2h
 split
 ·exact ⟨rfl,b5r r2 r⟩
 ·exact ⟨rfl,r.append (RVs.one r2)⟩
theorem a5w {κ:Type} [DecidableEq κ]:∀ {ks:List κ} {vs:List FV} {us:List V} {k:κ} {v:FV},RVs K S vs us→a2t ks vs k=some v→∃ u,a2t ks us k=some u∧RV K S v u
 | [],vs,us,k,v,r,e=>by simp [a2t] at e
 | k' :: ks,[],us,k,v,r,e=>by simp [a2t] at e
 | k' :: ks,p :: vs,us,k,v,⟨x,q,e',h1,h2⟩,e=>by
  subst e'
  simp only [a2t] at e ⊢
  by_cases e0:k'=k
  ·rw [if_pos e0] at e ⊢; cases e; exact ⟨x,rfl,h1⟩
  ·rw [if_neg e0] at e ⊢; exact a5w h2 e
theorem a7i {ps:List FV} {k:List Int} {x:V} (r:RV K S (.tup ps) x) (e:a0r ps=some k):∃ b,x=.ref b∧S b=some (.tup ((k.map (Sum.inl:Int→Int ⊕ Str)).map kV)):=by
 obtain ⟨b,xs,rfl,h1,h2⟩:=r
 refine ⟨b,rfl,?_⟩
 rw [h1,a2s h2 e,List.map_map]; rfl
variable {c:Cn} {md:Md} {L:a0d} {σ:L2.St}
theorem c4s {q:Addr} {ks:List (List Int)} {vs:List FV} {us:List V} (I:Iv K c md L σ S H) (h1:S q=none) (h2:H q=some (.dT ((a1a ks).zip us))) (hl:ks.length=vs.length) (h3:RVs K S vs us) (fr:b0h c md L σ q):∃ u,H q=some u∧Iv K c md L σ (upd S q u) H∧RV K (upd S q u) (.dct ks vs) (.ref q):=by
 have s:=a0m (o:=.dT ((a1a ks).zip us)) h1
 refine ⟨_,h2,⟨I.len,fun i v h e=>let ⟨x,e1,r⟩:=I.imm i v h e; ⟨x,e1,r.mono s⟩,fun i v h e=>?_,I.dis,fun a u e=>?_,I.frame,I.s0.trans s,fun a u e=>?_,I.lent,I.fzs,I.fzm,I.fzp,fun p hp=>let ⟨g1,g2,g3⟩:=I.prs p hp; ⟨g1,by rw [a0e (fr.2.1 p hp)]; exact g2,g3⟩,I.ntp⟩,q,us,rfl,hl,a0f,h3.mono s⟩
 ·obtain ⟨b,e1,⟨g1,rs,zs,g2,g3,g4⟩,g5⟩:=I.own i v h e
  have hb:b≠q:=fun z=>by subst z; exact fr.2.2 i v h e e1
  exact ⟨b,e1,⟨by rw [a0e hb]; exact g1,rs,zs,g2,g3,g4.mono s⟩,g5⟩
 ·by_cases z:a=q
  ·subst z; rw [a0f] at e; cases e; exact h2
  ·rw [a0e z] at e; exact I.sub a u e
 ·by_cases z:a=q
  ·subst z; exact .inr (.inl fr.1)
  ·rw [a0e z] at e; exact I.grow a u e
end
noncomputable def a5q (n m:Nat) (tg:Tg) (t:BW) (ek ev:EW):List FV→List (List Int)→List FV→a0d→(List (List Int)→List FV→a0d→Prop)→Prop
 | [],ks,vs,L,Q=>Q ks vs L
 | x :: xs,ks,vs,L,Q=>gW tg x (L++List.replicate m none) fun L1=>t L1 fun b L2=>if b=true then ek L2 fun kx L3=>wp (a7c kx) fun ps=>wp (a0r ps) fun k=>ev L3 fun v L4=>a5q n m tg t ek ev xs (a2h ks vs k v).1 (a2h ks vs k v).2 (L4.take n) Q else a5q n m tg t ek ev xs ks vs (L2.take n) Q
noncomputable def b7n (n m:Nat) (it:AW) (tg:Tg) (t:BW) (ek ev:EW):EW:=fun L Q=>it L fun xs L1=>L1.length=n∧xs.length≤big∧a5q n m tg t ek ev xs [] [] L1 fun ks vs L2=>Q (.dct ks vs) L2
section
variable {K:Γd} {c:Cn} {md:Md} {L:a0d} {σ:L2.St} {S H:Hp}
theorem b8g {J : It} {xs : List FV} {n m : Nat} {tg : Tg} {t : BW} {ek ev : EW} {Q : VK} {Q1 : List (List Int) → List FV → a0d → Prop} (I : Iv K c md L σ S H) (hJ : ItR K c md J xs S) (hL : L.length = n) (hmd : md.length ≤ n) (ht : a5d md tg = true) (hg : b3p n tg = true) (hb : xs.length ≤ big) (h : a5q n m tg t ek ev xs [] [] L Q1)
    (k : ∀ acc ks vs us L' S' H', H acc = none → Q1 ks vs L' → S' acc = none → H' acc = some (.dT ((a1a ks).zip us)) → ks.length = vs.length → RVs K S' vs us → b0h c md L' σ acc → Iv K c md L' σ S' H' → Same S S' → Q (.ref acc) H') :
    ∀ acc, H acc = none → ∃ W : Nat → Nat → Hp → Prop, (∃ m, W 0 m (upd H acc (.dT []))) ∧ ∀ i j H, W i j H →
      (J.stop i H ∧ Q (.ref acc) H) ∨ (J.go i H ∧ ∀ x H', J.yld i H x H' → gT K tg x (σ ++ List.replicate m none) H' fun σ2 H2 => Wk (σ ++ List.replicate m none) σ2 ∧ lb K md t σ2 H2 fun b H3 =>
        if b = true then lv K md ek σ2 H3 fun y H4 => lv K md ev σ2 H4 fun v H5 => ∃ kvs k b, H5 acc = some (.dT kvs) ∧ y = .ref b ∧ H5 b = some (.tup (k.map kV)) ∧ kvs.length < sizeLine ∧ ∃ m', m' < j ∧ W (i + 1) m' (upd H5 acc (.dT (a4b kvs k v))) else ∃ m', m' < j ∧ W (i + 1) m' H3) := by
  intro acc hacc
  have h0 := I.h0 hacc
  have hp : ∀ p ∈ c.pr, p.1 ≠ acc := (I.fresh hacc).2.1
  have hz := I.fzp
  have hl : σ.length = n := by rw [← I.len]; exact hL
  have hbl := a1m
  let W : Nat → Nat → Hp → Prop := fun i j H1 => ∃ L S1 ks vs us, j = (xs.drop i).length ∧ Iv K { c with pr := (acc, .dT ((a1a ks).zip us)) :: c.pr } md L σ S1 H1 ∧ ks.length = vs.length ∧ RVs K S1 vs us ∧ Same S S1 ∧ L.length = n ∧ ks.length ≤ i ∧ a5q n m tg t ek ev (xs.drop i) ks vs L Q1
  have I1 : Iv K { c with pr := (acc, .dT []) :: c.pr } md L σ S (upd H acc (.dT [])) := (I.lay hacc _).prot a0f (I.sn hacc) fun j w hm hj => (I.fresh hacc).2.2 j w (fun z => by rw [hm] at z; cases z) hj
  refine ⟨W, ⟨_, L, S, [], [], [], rfl, I1, rfl, rfl, Same.refl S, hL, Nat.le_refl _, by rw [List.drop_zero]; exact h⟩, ?_⟩
  rintro i j H1 ⟨L, S1, ks, vs, us, rfl, I, hkl, r, s, hL, hps, hc⟩
  have I0 := I.unprot hz
  obtain ⟨j1, j2⟩ := hJ i L σ S1 H1 I0 s
  obtain ⟨g1, g2, g3⟩ := I.prs (acc, .dT ((a1a ks).zip us)) List.mem_cons_self
  cases hd : xs.drop i with
  | nil =>
    left
    rw [hd] at hc
    refine ⟨j1 (List.getElem?_eq_none_iff.mpr (List.drop_eq_nil_iff.mp hd)), k acc ks vs us L S1 H1 hacc hc g2 g1 hkl r ⟨h0, hp, fun q w hm hq hs => ?_⟩ I0 s⟩
    by_cases mo : a0u md q = .own
    · exact g3 q w mo hq hs
    · have mo : a0u md q = .frz := by cases z : a0u md q with | imm => exact absurd z hm | own => exact absurd z mo | frz => rfl
      obtain ⟨b, f1⟩ := I0.fzm q w mo hq
      obtain ⟨_, f2, _⟩ := I0.fzs _ f1
      rw [hs] at f2; cases f2
      obtain ⟨ys, f3⟩ := hz _ f1
      exact hp _ f3 rfl
  | cons p rest =>
    right
    rw [hd] at hc
    have hi : xs[i]? = some p := by
      have := congrArg (·[0]?) hd
      simpa using this
    have hd' : xs.drop (i + 1) = rest := by
      have := congrArg List.tail hd
      simpa [List.tail_drop] using this
    have hix : i < xs.length := (List.getElem?_eq_some_iff.mp hi).1
    obtain ⟨go, yl⟩ := j2 p hi
    refine ⟨go, fun x H2 y => ?_⟩
    obtain ⟨S2, s2, tr, rx⟩ := yl x H2 y
    have I2 := (tr _ _ _ _ I).more m
    obtain ⟨σ2, L2, gq, q2, I2, len2, far⟩ := b2y ht I2 rx hc
    have l2 : n ≤ σ2.length := by rw [len2, List.length_append, hl]; lia
    have far' : ∀ q, q < n → σ2[q]? = σ[q]? := fun q hq => by rw [far n hg q hq, List.getElem?_append_left (by rw [hl]; exact hq)]
    refine gq _ ⟨⟨len2, fun q v hv => ?_⟩, ?_⟩
    · have hq : q < n := by
        by_cases h : q < σ.length
        · rw [← hl]; exact h
        · rw [List.getElem?_append_right (by lia), List.getElem?_replicate] at hv
          split at hv <;> cases hv
      rw [far n hg q hq]; exact hv
    · refine ⟨_, L2, S2, _, I2, q2, fun b L3 hb3 S3 H3 I3 s3 => ?_⟩
      cases b with
      | false =>
        rw [if_neg Bool.false_ne_true] at hb3 ⊢
        exact ⟨rest.length, by simp, L3.take n, S3, ks, vs, us, by rw [hd'], I3.take hmd hl l2 far', hkl, r.mono (s2.trans s3), s.trans (s2.trans s3), by rw [List.length_take, I3.len]; lia, by lia, by rw [hd']; exact hb3⟩
      | true =>
        rw [if_pos rfl] at hb3 ⊢
        refine ⟨_, L3, S3, _, I3, hb3, fun kx L4 hk u S4 H4 r4 I4 s4 => ?_⟩
        obtain ⟨ps, e1, hk1⟩ := wpx hk
        obtain ⟨kk, e2, hk2⟩ := wpx hk1
        cases a1q e1
        obtain ⟨b, rfl, hb4⟩ := a7i r4 e2
        refine ⟨_, L4, S4, _, I4, hk2, fun v L5 hv u S5 H5 r5 I5 s5 => ?_⟩
        obtain ⟨k1, _⟩ := I5.prs (acc, .dT ((a1a ks).zip us)) List.mem_cons_self
        have lr := r.length
        have r' := r.mono (s2.trans (s3.trans (s4.trans s5)))
        obtain ⟨pe, pr⟩ := a5u (ks := ks) (k := kk) r' r5
        obtain ⟨pl1, pl2⟩ := a4i ks vs kk v hkl
        refine ⟨_, kk.map Sum.inl, b, k1, rfl, I5.sub _ _ (s5 _ _ hb4), by rw [List.length_zip]; have : (a1a ks).length = ks.length := by simp [a1a]
                                                                           lia, rest.length, by simp, L5.take n, S5, (a2h ks vs kk v).1, (a2h ks vs kk v).2, (a2h ks us kk u).2, by rw [hd'], ?_, pl1, pr, s.trans (s2.trans (s3.trans (s4.trans s5))), by rw [List.length_take, I5.len]; lia, by lia, by rw [hd']; exact hv⟩
        rw [b0u ks us kk u (by lia), pe]
        exact (I5.take hmd hl l2 far').regrow h0 hp hz
end
section
variable {X:Cx} {C:CC} {n:Nat} {sp:Γd→Nat→Sp} {pos:Pos} {scope:Scope} {own:List Str} {kx vx tgx iter:Expr} {ifs:List Expr} {it:AW} {tg:Tg} {t:BW} {ek ev:EW} {nn m:Nat} {md':Md}
theorem c0u (G:Good X C n sp) (h:CompOk X C n sp scope own kx tgx iter ifs nn m md' it tg t ek) (hv:∀ X',Good X' (C.sub scope own md') n sp→FE X' (C.sub scope own md') vx ev):FE X C (.DictComp kx vx [⟨tgx,iter,ifs,0⟩] scope pos) (b7n nn m it tg t ek ev):=by
 have h0:=b2 h.st; have h1:=b2 h0.1; have h2:=b2 h1.1; have h3:=b2 h2.1; have h4:=b2 h3.1; have h5:=b2 h4.1; have h6:=b2 h5.1
 obtain ⟨s1,s2⟩:=G.sub h6.1 md'
 have hu:X.A.units + 1 < cLine:=by have:=G.room.units; lia
 have blk:∀ fp D s H,PG (cxC X scope own fp D s H) tgx (gT X.K tg)∧PTs (cxC X scope own fp D s H) ifs (lb X.K md' t)∧PE (cxC X scope own fp D s H) kx (lv X.K md' ek)∧PE (cxC X scope own fp D s H) vx (lv X.K md' ev):=fun fp D s H=>⟨h.tg _ (s2 fp D s H),h.ts _ (s2 fp D s H),h.el _ (s2 fp D s H),hv _ (s2 fp D s H)⟩
 refine PE.imp (c0a (X:=X) hu G.calm s1 h.it blk (b7d (nb h0.2))) fun σ H Q ⟨c,L,S,Q0,I,hh,k⟩=>?_
 refine ⟨c,L,S,_,I,hh,fun xs L1 hx J c' S1 H1 I1 un e0 hJ s1=>?_⟩
 obtain ⟨hl,hb,hc⟩:=hx
 rw [de h5.2]
 refine b8g I1 hJ hl (de h4.2) h2.2 h1.2 hb hc fun acc ks vs us L' S' H' hn q g1 g2 g3 g4 fr I' s'=>?_
 obtain ⟨u,hu,I2,r⟩:=c4s (un _ _ _ _ I') g1 g2 g3 g4 ⟨by rw [← e0]; exact fr.1,((un _ _ _ _ I1).fresh hn).2.1,fun j w hm=>fr.2.2 j w (a8i h3.2 j hm)⟩
 exact k _ L' q _ _ H' r I2 ((s1.trans s').trans (a0m g1))
end
noncomputable def d0a (a b:FV):Option FV:=match b with
 | .dct ks _=>(a7c a).bind fun ps=>(a0r ps).bind fun k=>some (.bl (decide (k∈ks)))
 | .dci ks _=>(a5b a).bind fun k=>some (.bl (decide (k∈ks)))
 | b=>inB a b
noncomputable def d1l (a b:FV):Option FV:=match b with
 | .dct ks _=>(a7c a).bind fun ps=>(a0r ps).bind fun k=>some (.bl (!decide (k∈ks)))
 | .dci ks _=>(a5b a).bind fun k=>some (.bl (!decide (k∈ks)))
 | b=>niB a b
noncomputable def b7s (v w:FV):Option FV:=match v with
 | .dct ks vs=>(a7c w).bind fun ps=>(a0r ps).bind fun k=>a2t ks vs k
 | _=>none
section
variable {X:Cx}
theorem RH.dct {K:Γd} {S H:Hp} {ks:List (List Int)} {vs:List FV} {y:V} (hs:Same S H) (rq:RH K S H (.dct ks vs) y):∃ a us,y=.ref a∧ks.length=vs.length∧H a=some (.dT ((a1a ks).zip us))∧RVs K S vs us:=by
 rcases rq with ⟨a,us,e,hl,h1,h2⟩ | ⟨a,e,_,ps,us,e9,h1,h2⟩
 ·exact ⟨a,us,e,hl,hs _ _ h1,h2⟩
 ·obtain ⟨hl,rfl⟩:=itd e9
  exact ⟨a,us,e,hl,h1,h2⟩
theorem a5y {S H:Hp} {ks:List (List Int)} {vs:List FV} {ps:List FV} {k:List Int} {x y:V} (hs:Same S H) (rp:RH X.K S H (.tup ps) x) (rq:RH X.K S H (.dct ks vs) y) (e:a0r ps=some k):∃ a us,y=.ref a∧ks.length=us.length∧RVs X.K S vs us∧L2.DGet H a x (a2t ks us k):=by
 obtain ⟨a,us,rfl,hl,h1,h2⟩:=rq.dct hs
 obtain ⟨b,rfl,hb⟩:=a7i (rp.val rfl) e
 refine ⟨a,us,rfl,by rw [hl,h2.length],h2,?_⟩
 rw [← a6l]
 exact .t h1 (hs _ _ hb)
theorem a5v:∀ (ks:List Int) (us:List V) (k:Int),b0i ((a3q ks).zip us) (Sum.inl k)=a2t ks us k
 | [],us,k=>by cases us <;> rfl
 | k' :: ks,[],k=>rfl
 | k' :: ks,u :: us,k=>by
  show b0i ((Sum.inl k',u) :: (a3q ks).zip us) (Sum.inl k)=if k'=k then some u else a2t ks us k
  by_cases e:k'=k
  ·subst e; rw [a4d rfl,if_pos rfl]
  ·rw [a4e fun z=>e (Sum.inl.inj z),if_neg e]; exact a5v ks us k
theorem RH.dci {K:Γd} {S H:Hp} {ks:List Int} {vs:List FV} {y:V} (hs:Same S H) (rq:RH K S H (.dci ks vs) y):∃ a us,y=.ref a∧ks.length=vs.length∧H a=some (.dK ((a3q ks).zip us))∧RVs K S vs us:=by
 rcases rq with ⟨a,us,e,hl,h1,h2⟩ | ⟨a,e,_,ps,us,e9,h1,h2⟩
 ·exact ⟨a,us,e,hl,hs _ _ h1,h2⟩
 ·obtain ⟨hl,rfl⟩:=itd e9
  exact ⟨a,us,e,hl,h1,h2⟩
theorem a9v {S H:Hp} {ks:List Int} {vs:List FV} {k:Int} {y:V} (hs:Same S H) (rq:RH X.K S H (.dci ks vs) y):∃ a us,y=.ref a∧ks.length=us.length∧RVs X.K S vs us∧L2.DGet H a (.int k) (a2t ks us k):=by
 obtain ⟨a,us,rfl,hl,h1,h2⟩:=rq.dci hs
 refine ⟨a,us,rfl,by rw [hl,h2.length],h2,?_⟩
 rw [← a5v]
 exact .k (k:=Sum.inl k) h1
theorem d3z (hu:X.A.units + 64 < cLine):OpR X (compareOp .In) (Rq X.K d0a):=by
 intro pins s σ H x y v u Q I rx ry ⟨S,p,q,z,hs,rp,rq,e,k⟩
 cases q with
 | dct ks vs =>
  obtain ⟨ps,e1,e2⟩:=bnd e
  obtain ⟨kk,e3,e4⟩:=bnd e2
  cases a1q e1
  cases e4
  obtain ⟨a,us,rfl,hl,h2,g⟩:=a5y hs rp rq e3
  cases (show u=Value.ref a from ry)
  refine d_in (by lia) I g rx fun s' I'=>⟨.bl _,H,I',rfl,?_⟩
  have:(a2t ks us kk).isSome=decide (kk∈ks):=by rw [Bool.eq_iff_iff,a1y kk hl]; simp
  rw [this]
  exact k.bl
 | dci ks vs =>
  obtain ⟨kk,e1,e4⟩:=bnd e
  cases a1d e1
  cases e4
  cases rp.int
  obtain ⟨a,us,rfl,hl,h2,g⟩:=a9v (k:=kk) hs rq
  cases (show u=Value.ref a from ry)
  refine d_in (by lia) I g rx fun s' I'=>⟨.bl _,H,I',rfl,?_⟩
  have:(a2t ks us kk).isSome=decide (kk∈ks):=by rw [Bool.eq_iff_iff,a1y kk hl]; simp
  rw [this]
  exact k.bl
 | _=>exact q_in hu pins s σ H x y v u Q I rx ry ⟨S,p,_,z,hs,rp,rq,e,k⟩
theorem d3w (hu:X.A.units + 64 < cLine):OpR X (compareOp .NotIn) (Rq X.K d1l):=by
 intro pins s σ H x y v u Q I rx ry ⟨S,p,q,z,hs,rp,rq,e,k⟩
 cases q with
 | dct ks vs =>
  obtain ⟨ps,e1,e2⟩:=bnd e
  obtain ⟨kk,e3,e4⟩:=bnd e2
  cases a1q e1
  cases e4
  obtain ⟨a,us,rfl,hl,h2,g⟩:=a5y hs rp rq e3
  cases (show u=Value.ref a from ry)
  refine b7y (by lia) I g rx fun s' I'=>⟨.bl _,H,I',rfl,?_⟩
  have:(a2t ks us kk).isSome=decide (kk∈ks):=by rw [Bool.eq_iff_iff,a1y kk hl]; simp
  rw [this]
  exact k.bl
 | dci ks vs =>
  obtain ⟨kk,e1,e4⟩:=bnd e
  cases a1d e1
  cases e4
  cases rp.int
  obtain ⟨a,us,rfl,hl,h2,g⟩:=a9v (k:=kk) hs rq
  cases (show u=Value.ref a from ry)
  refine b7y (by lia) I g rx fun s' I'=>⟨.bl _,H,I',rfl,?_⟩
  have:(a2t ks us kk).isSome=decide (kk∈ks):=by rw [Bool.eq_iff_iff,a1y kk hl]; simp
  rw [this]
  exact k.bl
 | _=>exact q_ni hu pins s σ H x y v u Q I rx ry ⟨S,p,_,z,hs,rp,rq,e,k⟩
end
theorem c6v:a7o d0a:=by
 intro v w z e
 cases w with
 | dct ks vs =>
  obtain ⟨ps,_,e⟩:=bnd e
  obtain ⟨k,_,e⟩:=bnd e
  cases e; exact ⟨_,rfl⟩
 | dci ks vs =>
  obtain ⟨k,_,e⟩:=bnd e
  cases e; exact ⟨_,rfl⟩
 | _ =>
  obtain ⟨b,_,rfl⟩:=mpd (show (inF v _).map FV.bl=some z from e)
  exact ⟨_,rfl⟩
section
variable {X:Cx} {C:CC} {n:Nat} {sp:Γd→Nat→Sp} {a b:Expr} {ea eb:EW} {pos p:Pos}
theorem fe_ni2 (G:Good X C n sp) (ha:FE X C a ea) (hb:FR X C b eb) (hm:behindInMarks .NotIn b=false):FE X C (.Compare a [.NotIn] [b] pos) (eOp d1l ea eb):=b3a (d3w G.room.units) ha hb hm
theorem fb_in2 (G:Good X C n sp) (ha:FE X C a ea) (hb:FR X C b eb) (hm:behindInMarks .In b=false):FB X C (.Compare a [.In] [b] pos) (a1o (eOp d0a ea eb)):=a9t c6v (d3z G.room.units) ha hb hm
variable {es:List Expr} {k:Nat} {p2:Pos}
theorem d6h (G:Good X C n sp) (ha:FE X C a ea) (hb:FE X C (.Tuple es k p2) eb):FE X C (.Subscript a (.Tuple es k p2) pos) (eOp b7s ea eb) :=
 PE.imp (b0w (X:=X.nox) (by have:=G.room.units; show X.A.units + 1 < cLine; lia) ha hb fun _ _=>rfl) fun σ H Q ⟨c,L,S,Q0,I,h,k⟩ =>
 ⟨c,L,S,_,I,h,fun v L1 hv x S1 H1 r1 I1 s1=>⟨c,L1,S1,_,I1,hv,fun w L2 hw y S2 H2 r2 I2 s2=>by
  obtain ⟨z,e,q⟩:=wpx hw
  cases v with
  | dct ks vs =>
   obtain ⟨ps,e1,e2⟩:=bnd e
   obtain ⟨kk,e3,e4⟩:=bnd e2
   cases a1q e1
   obtain ⟨a,us,rfl,hl,h2,g⟩:=a5y (X:=X) I2.sub (.inl r2) (.inl (r1.mono s2)) e3
   obtain ⟨u,e5,r5⟩:=a5w h2 e4
   rw [e5] at g
   exact ⟨a,u,rfl,g,k z L2 q u S2 H2 r5 I2 (s1.trans s2)⟩
  | _=>cases e⟩⟩
end
section
variable (Q:FV→Prop)
@[scoped simp ↓] theorem k_in2d (ps:List FV) (ks:List (List Int)) (vs:List FV):wp (d0a (.tup ps) (.dct ks vs)) Q↔wp (a0r ps) fun k=>Q (.bl (decide (k∈ks))):=by
 show wp ((a0r ps).bind _) Q↔_; rw [a1i]; rfl
@[scoped simp ↓] theorem k_ni2d (ps:List FV) (ks:List (List Int)) (vs:List FV):wp (d1l (.tup ps) (.dct ks vs)) Q↔wp (a0r ps) fun k=>Q (.bl (!decide (k∈ks))):=by
 show wp ((a0r ps).bind _) Q↔_; rw [a1i]; rfl
@[scoped simp ↓] theorem k_dget (ps:List FV) (ks:List (List Int)) (vs:List FV):wp (b7s (.dct ks vs) (.tup ps)) Q↔wp (a0r ps) fun k=>wp (a2t ks vs k) Q:=by
 show wp ((a0r ps).bind _) Q↔_; rw [a1i]
@[scoped simp ↓] theorem ints_n (Q:List Int→Prop):wp (a0r []) Q=Q []:=propext Iff.rfl
@[scoped simp ↓] theorem ints_c (i:Int) (r:List FV) (Q:List Int→Prop):wp (a0r (.int i :: r)) Q↔wp (a0r r) fun ns=>Q (i :: ns):=by
 show wp ((a0r r).map (i :: ·)) Q↔_; rw [a2q]
end
@[scoped simp ↓] theorem d0o (n m:Nat) (it:AW) (tg:Tg) (t:BW) (ek ev:EW) (L:a0d) (Q:FV→a0d→Prop):b7n n m it tg t ek ev L Q=(it L fun xs L1=>L1.length=n∧xs.length≤big∧a5q n m tg t ek ev xs [] [] L1 fun ks vs L2=>Q (.dct ks vs) L2):=propext Iff.rfl
theorem a9x {α:Type} {tg:Tg} {n m:Nat} {ek ev:EW} {f:α→FV} {g:α→List Int} {h:α→FV} {Q:List (List Int)→List FV→a0d→Prop} {L:a0d}:∀ (xs:List α) (ks:List (List Int)) (vs:List FV),
  (∀ x∈xs,g x ∉ ks)→(xs.map g).Nodup →
  (∀ x∈xs,∀ K:List Int→FV→a0d→Prop,K (g x) (h x) L→gW tg (f x) (L++List.replicate m none) fun L1=>ek L1 fun kx L3=>wp (a7c kx) fun ps=>wp (a0r ps) fun k=>ev L3 fun v L4=>K k v (L4.take n))→Q (ks++xs.map g) (vs++xs.map h) L→a5q n m tg a1s ek ev (xs.map f) ks vs L Q
 | [],ks,vs,_,_,_,E=>by
  show Q ks vs L
  simpa using E
 | x :: xs,ks,vs,hn,hd,B,E=>by
  refine B x List.mem_cons_self (fun k v L'=>a5q n m tg a1s ek ev (xs.map f) (a2h ks vs k v).1 (a2h ks vs k v).2 L' Q) ?_
  have hk:=hn x List.mem_cons_self
  simp only [List.map_cons,List.nodup_cons] at hd
  have e:a2h ks vs (g x) (h x)=(ks++[g x],vs++[h x]):=by simp [a2h,hk]
  rw [e]
  refine a9x xs _ _ (fun y hy hm=>?_) hd.2 (fun y hy=>B y (List.mem_cons_of_mem _ hy)) (by simpa using E)
  rcases List.mem_append.mp hm with hm | hm
  ·exact hn y (List.mem_cons_of_mem _ hy) hm
  ·simp at hm
   exact hd.1 (by rw [← hm]; exact List.mem_map_of_mem hy)
end Kq
end
section
namespace PySem
theorem F.nolen_lri:typeLookup (.type "list_reverseiterator") "__len__" = pure none:=by rw [typeLookup_type,builtinLookup_eq_fast]; kernel_rfl
theorem F.slot_lri_hint:Slot "list_reverseiterator" "__length_hint__" "list_reverseiterator.__length_hint__" :=
 .of (owner:="list_reverseiterator") (n:="__length_hint__") (by rw [typeLookup_type,builtinLookup_eq_fast]; kernel_rfl) (by nofun) (by nofun) (by nofun)
  (by first | exact .inl (by decide +kernel) | exact .inr (by decide +kernel)) (by rw [isSubtype_type]; kernel_rfl)
section
variable {prog:Program} {w:World} {A:Around} {E:Value→Shared→Prop} {s:Shared}
theorem b1f {it l:Addr} {items:Array Value} {Q:List Value→Shared→Prop} (hh:A.handled=none) (hne:l≠it) (hit:s.heap.IsRevIter it l ((items.size:Int) - 1)) (hl:s.heap.IsList l items) (hz:items.size≤sizeLine)
  (hQ:∀ s' acc,Moved [it] (fun a b=>b=a) s s'→ItemsOf (fun i v=>items[items.size - 1 - i]?=some v) acc items.size→Q acc.toList s'):wpAny (model prog w) A (collect (.ref it)) Q E s:=by
 have W:=(Walks.listRev (prog:=prog) (w:=w) (A:=A.in1) (show A.in1.handled=none from hh) it l hne items).toS
 have l1:it < s.heap.objs.size:=by obtain ⟨o,e,_⟩:=hit; exact Heap.lt_size e
 have l2:l < s.heap.objs.size:=by obtain ⟨o,e,_⟩:=hl; exact Heap.lt_size e
 have hSf:s.heap.objs.size ∉ [it,l]:=fun hm=>by
  simp only [List.mem_cons,List.not_mem_nil,or_false] at hm
  rcases hm with hm | hm
  ·exact Nat.lt_irrefl _ (hm ▸ l1)
  ·exact Nat.lt_irrefl _ (hm ▸ l2)
 have hSI:s.heap.objs.size≠it:=fun e=>Nat.lt_irrefl _ (e ▸ l1)
 unfold collect
 refine Γa (wpAny_runValue (codeAny_builtin F.entry_proto_collect ?_)); rw [Around.under_plainId F.plain_proto_collect _]
 show wpAny _ A.in1 (newList [] >>= fun acc=>again (.builtin "list.__iadd__" ⟨[acc,.ref it],[]⟩)) _ _ s
 refine Γa (wpAny_newObj_type (Γb ⟨plainId_quiet F.plain_list_iadd _,codeAny_builtin F.entry_list_iadd ?_⟩)); rw [Around.under_plainId F.plain_list_iadd _]
 generalize hs1:({ s with heap:=s.heap.push { cls:=.type "list",data:=.seq ([]:List Value).toArray } }:Shared)=s1
 have k1:∀ b o,s.heap.get? b=some o→s1.heap.get? b=some o:=fun b o e=>by rw [← hs1]; exact Γc _ e
 have it1:=hit.at fun o e=>k1 it o e
 have li1:=hl.at fun o e=>k1 l o e
 have S1:s1.heap.get? s.heap.objs.size=some { cls:=.type "list",data:=.seq ([]:List Value).toArray }:=by rw [← hs1]; exact Heap.get?_push_size _ rfl
 have st1:0≤items.size∧s1.heap.IsRevIter it l ((items.size:Int) - 1 - ((0:Nat):Int))∧s1.heap.IsList l items:=⟨Nat.zero_le _,by simpa using it1,li1⟩
 have ty1:s1.TypeIs (.ref it) "list_reverseiterator":=it1.typeIs
 have h1:Builtin.List.listSameRef (.ref s.heap.objs.size) (.ref it)=false:=by simp [Builtin.List.listSameRef,hSI]
 show wpAny _ A.in1 (Builtin.List.listExtendWith (.ref s.heap.objs.size) (.ref it) (.ref s.heap.objs.size)) _ _ s1
 unfold Builtin.List.listExtendWith
 refine Γa (wpAny_typeOf ty1 ?_)
 rw [if_neg (by rw [h1]; decide)]
 refine Γa (W.self 0 s1 _ _ st1 (Γa (Γg ?_)))
 unfold Builtin.List.listLengthHint
 refine Γa (wpAny_specialOf ty1 F.nolen_lri ?_)
 show wpAny _ A.in1 (specialOf (Value.ref it) (Γe "__length_hint__") >>= _) _ _ _
 refine Γa (wpAny_specialOf ty1 F.slot_lri_hint.lookup ?_)
 (generalize hid:("list_reverseiterator.__length_hint__":String)=id0; (fail_if_success (clear hid id0)); wp_delta; rw [show splitId id0=some ("list_reverseiterator","__length_hint__") from by subst hid; nofun]; subst hid)
 refine Γa (wpAny_isInstance (b:=true) ty1 (by rw [isSubtype_type]; kernel_rfl) ?_)
 refine Γb ?_
 rw [if_neg (by decide)]
 refine Γb ⟨plainId_quiet F.plain_extend_loop _,codeAny_extend_loopS W hz _ hSf _ items.size 0 _ _ _ rfl (Nat.zero_le _) st1 S1 (ItemsOf.nil _) fun s' acc' c' hm hS' hacc=>?_⟩
 show wpAny _ A (load s.heap.objs.size >>= _) _ _ s'
 refine Γa (wpAny_load hS' (Γb (hQ s' acc' ?_ hacc)))
 subst hs1
 exact Moved.drop_new (o:={ cls:=.type "list",data:=.seq ([]:List Value).toArray }) (tk:=s.toks) hm (Nat.le_refl _)
end
end PySem
namespace Kq
open PySem PySem.Spec PyProof.Rows L2
section
variable {P:Program} {w:World} {A:Around} {E:Value→Shared→Prop} {s:Shared}
end
noncomputable def maxIF (v:FV):Option FV:=(a1v v).bind fun xs=>(a0r xs).bind fun ns=>match ns with
 | n :: r=>some (.int (c4u n r))
 | []=>none
section
variable {X:Cx}
end
section
variable {X:Cx} {C:CC} {n:Nat} {sp:Γd→Nat→Sp} {a:Expr} {ea:EW} {pos p:Pos}
end
end Kq
end
section
namespace PySem
section
variable {prog:Program} {w:World} {A:Around} {E:Value→Shared→Prop} {s:Shared}
theorem a7a {it l:Addr} {items:Array Value} {Q₁:Value→Shared→Prop} (hh:A.handled=none) (hne:l≠it) (hit:s.heap.IsRevIter it l ((items.size:Int) - 1)) (hl:s.heap.IsList l items) (hz:items.size≤sizeLine)
  (h:∀ s' acc,Moved [it] (fun a b=>b=a) s s'→ItemsOf (fun i v=>items[items.size - 1 - i]?=some v) acc items.size→Q₁ (.ref s'.heap.objs.size) { s' with heap:=s'.heap.push { cls:=.type "tuple",data:=.seq acc } }) :
  codeAny (model prog w) A (.call (.builtin "tuple.__new__") ⟨[.type "tuple",.ref it],[]⟩) (wants Q₁ E) s:=by
 refine codeAny_of_tree ?_
 show wpAny _ A.in1 (do checkBuiltinCall "tuple.__new__" ⟨[.type "tuple",.ref it],[]⟩; again (.builtin "tuple.__new__" ⟨[.type "tuple",.ref it],[]⟩)) _ _ s
 refine Γa (wpAny_of_eq (F.newCall_tuple_1 _) (Γb ⟨plainId_quiet F.plain_tuple_new _,codeAny_builtin F.entry_tuple_new ?_⟩)); rw [Around.under_plainId F.plain_tuple_new _]
 have hsub:=sub_tuple_self; have hinit:=init_tuple_lookup; have hmh:=madeHere_tuple
 have hTI:s.TypeIs (.ref it) "list_reverseiterator":=hit.typeIs
 wp_walk using wpAny_typeOf hTI,b1f (A:=A.in1) (show A.in1.handled=none from hh) hne hit hl hz
 intro s' acc hm hacc
 show wpAny _ _ (Builtin.Tuple.tupleExact acc.toList.toArray >>= fun v=>ret v) _ _ _
 unfold Builtin.Tuple.tupleExact
 refine Γa (wpAny_newObj_type (Γb ?_) (by show acc.toList.toArray.size≤sizeLine; simp only [Array.toArray_toList]; rw [hacc.1]; exact hz))
 have e:acc.toList.toArray=acc:=by simp
 rw [e]; exact h s' acc hm hacc
theorem a7b {it l:Addr} {items:Array Value} {Q:Value→Shared→Prop} (hh:A.handled=none) (hne:l≠it) (hit:s.heap.IsRevIter it l ((items.size:Int) - 1)) (hl:s.heap.IsList l items) (hz:items.size≤sizeLine)
  (hQ:∀ s' acc,Moved [it] (fun a b=>b=a) s s'→ItemsOf (fun i v=>items[items.size - 1 - i]?=some v) acc items.size→Q (.ref s'.heap.objs.size) { s' with heap:=s'.heap.push { cls:=.type "tuple",data:=.seq acc } }) :
  wpAny (model prog w) A (call (.type "tuple") [.ref it]) Q E s:=by
 refine callType_codes (Q₁:=fun obj s₁=>s₁.TypeIs obj "tuple"∧Q obj s₁) F.called_tuple (F.typeCall_tuple_1 _) F.entry_object_init (a7a (A:=A.in1) hh hne hit hl hz fun s' acc hm hacc=>⟨⟨_,Heap.get?_push_size _ rfl,rfl⟩,hQ s' acc hm hacc⟩) fun obj s₁ h₁=>?_
 exact ⟨h₁.1,F.args_object_init_2 obj _,object_init_meets F.called_tuple.init.lookup F.called_tuple.made (by decide) prog w A.in1 _ s₁ ⟨h₁.1,rfl,h₁.2⟩⟩
end
end PySem
namespace Kq
open PySem PySem.Spec PyProof.Rows L2
section
variable {X:Cx} {a:Expr} {ta:TA} {p p2 pos pos2:Pos}
theorem c4g (hc:X.calm=true) (hg:Gl X "reversed") (hm:X.mg "reversed" = none) (hg2:Gl X "tuple") (hm2:X.mg "tuple" = none) (ha:PA X [a] ta) (hs:starEach [a] X.env=[(false,eval a X.env)]) :
  PE X (.Call (.Name "tuple" p) [.Call (.Name "reversed" p2) [a] [] pos2] [] pos) (fun σ H Q=>ta σ H fun vs H1=>∃ l xs,vs=[.ref l]∧SqL X.K H1 l xs∧∀ q,H1 q=none→Q (.ref q) (upd H1 q (.tup xs.reverse))):=by
 intro pins s σ H Q I h
 refine wpAny_Call_Name_kw (a4o I hg2 hm2 (show bootBuiltins (Γe "tuple")=some (.type "tuple") by nofun) ?_ (by nofun) (by nofun))
 refine PyProof.Rows.callWith_type1 (T:="tuple") ?_ rfl rfl
 show wpAny _ _ (spliced ((false,eval (.Call (.Name "reversed" p2) [a] [] pos2) X.env) :: backTo pos [])) _ _ s
 refine Calls.spliced_cons (Call_ (a4o I hg hm (show bootBuiltins (Γe "reversed")=some (.type "reversed") by nofun) (PyProof.Rows.callWith_type1 (T:="reversed") (thn (ha pos2 pins s σ H _ I h) fun us s1 ⟨vs,H1,I1,r1,q1⟩=>?_) hs rfl)))
 obtain ⟨l,xs,e,hq,q⟩:=q1
 subst e
 obtain ⟨u,rfl,ru⟩:=a3o r1
 cases (show u=Value.ref l from ru)
 obtain ⟨its,rv,pl,hz⟩:=I1.list hq
 have hlen:=rv.length
 have ll:l < s1.heap.objs.size:=by obtain ⟨o,e,_⟩:=pl.isList; exact Heap.lt_size e
 refine call_reversed_list pl.isList (Calls.spliced_nil ?_)
 have I2:Inv X pins σ H1 { s1 with heap:=s1.heap.push (revObj l ((its.toArray.size:Int) - 1)) }:=I1.kept (t':=s1.toks) fun b o e=>Γc _ e
 refine a7b (items:=its.toArray) (l:=l) (I1.ok.hd hc) (Nat.ne_of_lt ll) ⟨_,Heap.get?_push_size _ rfl,rfl,rfl⟩ (pl.isList.push _) (by simpa [← hlen] using hz) fun s' acc hm hacc=>?_
 have I3:Inv X pins σ H1 s':=by
  have:=I1.kept (h':=s'.heap) (t':=s'.toks) fun b o e=>hm.heap b o (by simp; exact Nat.ne_of_lt (Heap.lt_size e)) (Γc _ e)
  have e:s' = { s1 with heap:=s'.heap,toks:=s'.toks }:=by
   obtain ⟨h1,h2,h3,h4,h5⟩:=hm
   obtain ⟨a,b,c,d,e⟩:=s'
   simp only at h2 h3 h4
   subst h2 h3 h4; rfl
  rw [e]; exact this
 refine ⟨.ref s'.heap.objs.size,_,I3.laid (t':=s'.toks) (o:=.tup xs.reverse) (fun b ob q=>Γc _ q) (Nat.le_refl _) ?_,rfl,q _ (I3.hok.fresh (Nat.le_refl _))⟩
 have e:acc.toList=its.reverse:=by
  have h1:acc.toList.length=its.length:=by simpa using hacc.1
  apply List.ext_getElem
  ·rw [List.length_reverse]; exact h1
  ·intro i h2 h3
   have h4:=hacc.2 i (acc.toList[i]) (by simp at h2; simp [h2])
   have h5:its[its.length - 1 - i]?=some acc.toList[i]:=by simpa using h4
   rw [List.getElem_reverse]
   exact ((List.getElem?_eq_some_iff.mp h5).2).symm
 refine ⟨by rw [List.length_reverse]; exact hz,its.reverse,rv.reverse,?_⟩
 rw [← e]
 exact IsTup.new _ _
end
noncomputable def c3m (v:FV):Option FV:=(a1v v).map fun xs=>.tup xs.reverse
@[scoped simp ↓] theorem f_revT (v:FV) (Q:FV→Prop):wp (c3m v) Q↔wp (a1v v) fun xs=>Q (.tup xs.reverse):=a2q _ _ _
theorem d6a {X:Cx} {C:CC} {n:Nat} {sp:Γd→Nat→Sp} {a:Expr} {ea:EW} {pos p p2 pos2:Pos} (G:Good X C n sp) (hg:(C.gl (Γe "reversed") && C.gl (Γe "tuple"))=true) (hs:a0k a=false) (ha:FR X C a ea):FE X C (.Call (.Name (Γe "tuple") p) [.Call (.Name (Γe "reversed") p2) [a] [] pos2] [] pos) (eUn c3m ea) :=
 PE.imp (c4g (X:=X.nox) G.calm (G.gl (b2 hg).1) (G.blt "reversed" (by decide)) (G.gl (b2 hg).2) (G.blt "tuple" (by decide)) (a0p ha a1p (a0c hs)) (a0c hs)) fun σ H Q ⟨c,L,S,Q0,I,h,k⟩ =>
 ⟨c,L,S,_,I,h,fun v L1 hv x S1 H1 r1 I1 s1=>by
  obtain ⟨z,e,q⟩:=wpx hv
  obtain ⟨ps,e1,rfl⟩:=mpd e
  obtain ⟨a,ys,rfl,hq,ry⟩:=r1.list I1.sub e1
  exact ⟨a,ys,rfl,hq,fun p hp=>(a9j I1 fun x S' H' r I' s'=>k _ L1 q x S' H' r I' (s1.trans s')).tup _ _ p rfl ry.rev hp⟩⟩
end Kq
end
section
namespace Kq
open PySem PySem.Spec PyProof.Rows L2
section
variable {P:Program} {w:World} {A:Around} {E:Value→Shared→Prop} {s:Shared}
end
section
variable {X:Cx}
end
section
variable {X:Cx} {C:CC} {n:Nat} {sp:Γd→Nat→Sp} {a:Expr} {ea:EW} {pos p:Pos}
end
noncomputable def b4d {α:Type} (xs:List α) (k:Nat) (y:α):List α:=xs.take k++y :: xs.drop k
noncomputable def d1n (v:FV) (ys:List FV):Option FV:=match ys with
 | [i,y]=>(a7g v).bind fun xs=>(a5b i).bind fun k=>if 0≤k∧k < 4611686018427387904∧xs.length < big then some (.lst (b4d xs k.toNat y)) else none
 | _=>none
noncomputable def b3d (f:FV→List FV→Option FV) (i:Nat) (as:AW):EW:=fun L Q=>wp (lk L i) fun v=>wp (a7g v) fun _=>as L fun ys L1=>wp (lk L1 i) fun x=>wp (f x ys) fun z=>Q .non (L1.set i (some z))
section
variable {X:Cx}
noncomputable def c3r:V→List V→Hp→VK→Prop:=fun x vs H Q=>∃ (l:Addr) (xs:List V) (k:Int) (y:V),x=.ref l∧vs=[.int k,y]∧H l=some (.lst xs)∧(0≤k∧k < 4611686018427387904)∧xs.length < sizeLine∧Q .non (upd H l (.lst (b4d xs k.toNat y)))
theorem Vals.take:∀ {xs:List V} {us:List Value} (k:Nat),Vals xs us→Vals (xs.take k) (us.take k)
 | _,_,0,_=>.nil
 | _,_,k + 1,.nil=>.nil
 | _,_,k + 1,.cons r t=>.cons r (Vals.take k t)
theorem Vals.drop:∀ {xs:List V} {us:List Value} (k:Nat),Vals xs us→Vals (xs.drop k) (us.drop k)
 | _,_,0,h=>h
 | _,_,k + 1,.nil=>.nil
 | _,_,k + 1,.cons r t=>Vals.drop k t
theorem b6h:MtM X "list.insert" c3r:=by
 intro pins s σ H x vs v us Q I rx rv h
 obtain ⟨l,xs,k,y,rfl,rfl,hH,hk,hz,q⟩:=h
 cases rx
 obtain ⟨u1,u2,rfl,ru1,ru2⟩:=rv.two
 obtain ⟨t,rfl⟩:=ru1
 obtain ⟨z,its,n,r,hl,e⟩:=I.lstM hH
 have hf:Builtin.List.listFitsIndex k=true:=by
  unfold Builtin.List.listFitsIndex
  rw [Bool.and_eq_true]
  exact ⟨decide_eq_true (by lia),decide_eq_true (by lia)⟩
 refine call_meets F.slot_list_insert ⟨_,e,rfl⟩ F.entry_list_insert (F.args_list_insert_3 _ _ _) (AutoSeq1.list_insert_list_int_val_1 l its.toArray n k t u2 (by simp [hf]) (by rw [List.size_toArray]; lia)) ⟨e,?_⟩
 have e1:its.take (min k.toNat its.length)=its.take k.toNat:=by rw [List.take_eq_take_iff]; lia
 have e2:its.drop (min k.toNat its.length)=its.drop k.toNat:=by
  by_cases c:k.toNat≤its.length
  ·rw [Nat.min_eq_left c]
  ·rw [Nat.min_eq_right (by lia),List.drop_of_length_le (Nat.le_refl _),List.drop_of_length_le (by lia)]
 refine ⟨.non,_,I.lset (its':=b4d its k.toNat u2) hH e ?_ ((Vals.take k.toNat r).append (.cons ru2 (Vals.drop k.toNat r))) ?_,rfl,q⟩
 ·show (its.toArray.extract 0 (if k < 0 then (k + (its.toArray.size:Int)).toNat else min k.toNat its.toArray.size)).push u2++its.toArray.extract (if k < 0 then (k + (its.toArray.size:Int)).toNat else min k.toNat its.toArray.size)=(b4d its k.toNat u2).toArray
  rw [if_neg (by lia),PySem.W.kl_ins_eq,List.size_toArray,e1,e2]; rfl
 ·simp only [List.length_append,List.length_cons,List.length_take,List.length_drop]; lia
end
section
variable {K:Γd} {S:Hp}
theorem RVs.ins {ps:List FV} {vs:List V} {p:FV} {v:V} (k:Nat) (h:RVs K S ps vs) (hp:RV K S p v):RVs K S (b4d ps k p) (b4d vs k v) :=
 (h.take k).append (show RVs K S (p :: ps.drop k) (v :: vs.drop k) from ⟨v,_,rfl,hp,h.drop k⟩)
end
section
variable {X:Cx} {C:CC} {n:Nat} {sp:Γd→Nat→Sp} {a b:Expr} {as:AW} {nx:Str} {p:Pos} {i:Nat}
theorem fe_ins (G:Good X C n sp) {apos cpos:Pos} (h:C.nm i nx=true) (m:a0u C.md i=.own) (hl:bmOk apos cpos=true) (hs:a2d [a,b]=true) (ha:FA X C [a,b] as):FE X C (.Call (.Attribute (.Name nx p) (Γe "insert") apos) [a,b] [] cpos) (b3d d1n i as):=by
 have hs1:a0k a=false:=by simp [a2d] at hs; exact hs.1
 have hs2:a0k b=false:=by simp [a2d] at hs; exact hs.2
 refine PE.imp (c8r PySem.F.plainAttrs_list PySem.F.slot_list_insert PySem.F.type_list_insert b6h (a1u G h) ha rfl (by rw [a0c hs1,a0c hs2]; rfl) hl (a0c hs1) (by rw [a0c hs2]; rfl)) fun σ H Q ⟨c,L,S,Q0,I,h,k⟩=>?_
 obtain ⟨v,e,h⟩:=wpx h
 obtain ⟨v9,e9,h⟩:=wpx h
 cases a3x e9
 have e':=(a2y _ _ _).mp e
 have mi:a0u C.md i≠.imm:=fun z=>by rw [m] at z; cases z
 obtain ⟨l,e1,⟨_,ps,xs,e8,h1,_⟩,_⟩:=I.own i _ mi e'
 refine ⟨_,e1,.inl ⟨rfl,xs,SqL.of h1⟩,c,L,S,_,I,h,fun w L1 hw y S1 H1 r1 I1 s1=>?_⟩
 obtain ⟨v1,e2,hw⟩:=wpx hw
 obtain ⟨z,e3,q⟩:=wpx hw
 have e2':=(a2y _ _ _).mp e2
 rcases w with _ | ⟨w1,_ | ⟨w2,_ | ⟨w3,w⟩⟩⟩
 ·cases e3
 ·cases e3
 ·obtain ⟨qs,e4,e5⟩:=bnd e3
  obtain ⟨j,e6,e7⟩:=bnd e5
  cases a3x e4
  cases a1d e6
  obtain ⟨hb,rfl⟩:=itd e7
  obtain ⟨u1,u2,rfl,g1,g2⟩:=r1.two_of
  cases (show u1=V.int j from g1)
  obtain ⟨l',f1,⟨f2,rs,zs,f3,f4,f5⟩,_⟩:=I1.own i _ mi e2'
  rw [e1] at f1; cases f1
  cases f3
  have:=a1m
  exact ⟨l,zs,j,u2,rfl,rfl,f4,⟨hb.1,hb.2.1⟩,by rw [← f5.length]; lia,k _ _ q .non S1 _ rfl (I1.write m e2' e1 (f5.ins j.toNat g2)) s1⟩
 ·cases e3
end
@[scoped simp ↓] theorem d0n (f:FV→List FV→Option FV) (i:Nat) (as:AW) (L:a0d) (Q:FV→a0d→Prop):b3d f i as L Q=(wp (lk L i) fun v=>wp (a7g v) fun _=>as L fun ys L1=>wp (lk L1 i) fun x=>wp (f x ys) fun z=>Q .non (L1.set i (some z))):=propext Iff.rfl
@[scoped simp ↓] theorem k_ins (xs:List FV) (k:Int) (y:FV) (Q:FV→Prop):wp (d1n (.lst xs) [.int k,y]) Q↔(0≤k∧k < 4611686018427387904∧xs.length < big)∧Q (.lst (b4d xs k.toNat y)):=by
 show wp (if _ then some _ else none) Q↔_
 exact a3c _ _ _
end Kq
end
section
namespace PySem
open Sem (wp)
theorem a6w:typeLookup (.type "list") (Γe "keys")=pure none:=by rw [typeLookup_type,builtinLookup_eq_fast]; kernel_rfl
theorem a4q {prog:Program} {w:World} {A:Around} {E:Value→Shared→Prop} {s:Shared} {a:Addr} {o:Obj} {xs:Array Value} {k:Nat} {name:Str} {Q:Option Value→Shared→Prop}
  (hx:s.heap.get? a=some o) (hc:o.cls=.type "list") (hdat:o.data=.seq xs k) (hd:o.dict=none) (hmiss:typeLookup (.type "list") name=pure none) (hname:(["__module__","__name__","__qualname__","__doc__","__annotations__"]:List Str).contains name=false) (hA:A.handled=none)
  (h:∀ h' tk e,Heap.NewExcOf s.heap h' e "AttributeError"→Q none { s with heap:=h',toks:=tk }) (hsz:name.length + 100≤sizeLine:=by size_fits) :
  wpAny (model prog w) A (getAttr? (.ref a) name) Q E s:=by
 obtain ⟨c,dct,dat,sl⟩:=o
 simp only at hc hdat hd
 subst hc hdat hd
 obtain ⟨hp,g,d,tk,os⟩:=s
 have hT:∀ tk',(⟨hp,g,d,tk',os⟩:Shared).TypeIs (.ref a) "list":=fun _=>⟨_,hx,rfl⟩
 have f1:=sub_AttributeError
 have f3:=F.slot_list_getattribute.lookup
 have f4:=F.slot_list_getattribute.bind (.ref a)
 have f5:=am_list_getattr_none
 unfold getAttr? getAttrBy? getAttrBy
 repeat (any_goals (first | assumption | exact hT _ | ((with_reducible show wpAny _ _ (call (Value.builtin "list.__getattribute__") _ _) _ _ _); refine call_meets F.slot_list_getattribute (hT _) am_entry_list_getattribute (F.args_list_getattribute_2 _ _) (meets_getattribute_miss_list a xs k sl name _ hmiss hname hsz) ⟨hx,hA,fun h' tk' e hx'=>?_⟩) | wp_step))
 obtain ⟨t',u',he⟩:=hx'.there
 show wpAny _ _ (getattributeRaised _ _ _ _ _ _ _) _ _ _
 unfold getattributeRaised
 repeat (any_goals (first | assumption | wp_step))
 exact h _ _ _ hx'.of
end PySem
namespace Kq
open PySem PySem.Spec PyProof.Rows L2
theorem F.entry_dict_update_loop:entryFor table "dict.update.loop" = some Builtin.«dict.update.loop»:=entryFor_of_tree (by kernel_rfl)
theorem F.plain_dict_update_loop:plainId "dict.update.loop" = true:=by nofun
abbrev a7p (H:Hp):List V→List (List Key×V)→Prop:=Paired fun y p=>∃ b kb:Addr,y=.ref b∧H b=some (.tup [.ref kb,p.2])∧H kb=some (.tup (p.1.map kV))
noncomputable def a8t (P:Program) (w:World) (h:Heap) (D:Addr) (xs:List (List Key×Addr×Value)):Prop :=
 ∃ o es ep,h.get? D=some o∧o.ExactDict∧o.data=.dict es ep∧es.toList=xs.map (entryOfKey (tupleKind (a0w P w)))∧(xs.map (·.1)).Nodup
section
variable {P:Program} {w:World} {A:Around} {R:Result→Shared→Prop} {H:Hp} {h0:Heap} {it l D:Addr} {items:Array Value}
theorem b6n (ok:HOk P w H h0) {h:Heap} (kp:L2.Kept h0 h h0.objs.size) {a:Addr} {ks:List Key} (e:H a=some (.tup (ks.map kV))):(tupleKind (a0w P w)).is h ks a:=by
 obtain ⟨o,its,n,h1,h2⟩:=a6i ok e
 exact ⟨o,its,n,kp a o (Heap.lt_size h1) h1,h2⟩
theorem b9m (ok:HOk P w H h0) {h:Heap} (kp:L2.Kept h0 h h0.objs.size) {kvs:List (List Key×V)} {xs:List (List Key×Addr×Value)} (r:KT H kvs xs) (d:a8t P w h D xs):h.DictOfH (tupleKind (a0w P w)) D xs:=by
 obtain ⟨o,es,ep,h1,h2,h3,h4,h5⟩:=d
 refine ⟨o,es,ep,h1,h2,h3,h4,fun x hx=>?_,h5⟩
 have all:∀ {l:List (List Key×V)} {m:List (List Key×Addr×Value)},KT H l m→∀ x∈m,(tupleKind (a0w P w)).is h x.1 x.2.1:=by
  intro l m q
  induction q with
  | nil=>intro x hx; exact nomatch hx
  | @cons p q ps qs hq t ih =>
   intro x hx
   rcases List.mem_cons.mp hx with e | hx
   ·subst e
    exact b6n ok kp (by rw [← hq.1]; exact hq.2.1)
   ·exact ih x hx
 exact all r x hx
theorem c5s (ok:HOk P w H h0) (hu:A.in1.units < cLine) (hh:A.in1.handled=none) (hl:h0.IsList l items) (hit:h0.objs.size≤it) (hD:h0.objs.size≤D) (hne:D≠it) :
  ∀ (rest:List (List Key×V)) (ys:List V) (us:List Value) (i:Nat) (s:Shared) (kvs:List (List Key×V)) (xs:List (List Key×Addr×Value)),items.toList.drop i=us→i≤items.size→Vals ys us→a7p H ys rest→s.heap.IsListIter it l i→L2.Kept h0 s.heap h0.objs.size→KT H kvs xs→a8t P w s.heap D xs→kvs.length + rest.length≤sizeLine →
  (∀ h' tk xs',KT H (rest.foldl (fun k p=>a4b k p.1 p.2) kvs) xs'→a8t P w h' D xs'→L2.Kept h0 h' h0.objs.size→R (.ok (.ret .none)) { s with heap:=h',toks:=tk }) →
  codeAny (model P w) A (.builtin "dict.update.loop" ⟨[.ref D,.ref it,.int (i:Int) 0,.none],[]⟩) R s:=by
 have ll:l < h0.objs.size:=by obtain ⟨_,e,_⟩:=hl; exact Heap.lt_size e
 have W:=Walks.list (prog:=P) (w:=w) (A:=A.in1) hh it l (Nat.ne_of_lt (Nat.lt_of_lt_of_le ll hit)) items
 have lst:∀ {h:Heap},L2.Kept h0 h h0.objs.size→h.IsList l items:=fun {h} kp=>hl.at fun o e=>kp l o ll e
 intro rest
 induction rest with
 | nil =>
  intro ys us i s kvs xs hd hi hv hp hst kp hk hr hz hR
  cases hp
  cases hv
  have en:i=items.size:=by
   have:=congrArg List.length hd
   simp at this
   lia
  refine codeAny_builtin F.entry_dict_update_loop ?_; rw [PySem.Around.under_plainId F.plain_dict_update_loop _]
  show wpAny _ A.in1 (pyNext (.ref it) >>= _) _ _ s
  refine Γa (W.done s _ _ (by rw [← en]; exact ⟨hst,lst kp⟩) fun g tk kk=>?_)
  show wpAny _ A.in1 (Builtin.Dict.addKeywords D [] >>= _) _ _ _
  refine Γa (Γb (Γb ?_))
  have low:∀ {b:Addr},b < h0.objs.size→b ∉ [it]:=fun {b} hb=>by simp; exact Nat.ne_of_lt (Nat.lt_of_lt_of_le hb hit)
  obtain ⟨o,es,ep,h1,h2⟩:=hr
  exact hR g tk xs hk ⟨o,es,ep,kk D o (by simp; exact hne) h1,h2⟩ fun b o hb e=>kk b o (low hb) (kp b o hb e)
 | cons p rest ih =>
  intro ys us i s kvs xs hd hi hv hp hst kp hk hr hz hR
  cases hp with
  | @cons y _ ys' _ hpq hp' =>
  obtain ⟨b,kb,rfl,hb,hkb⟩:=hpq
  cases hv with
  | @cons _ u _ us' ru hv' =>
  cases (show u=Value.ref b from ru)
  have hi':items[i]?=some (.ref b):=by
   have:=congrArg (fun l:List Value=>l[0]?) hd
   simpa using this
  have lt:i < items.size:=(Array.getElem?_eq_some_iff.mp hi').1
  have hd':items.toList.drop (i + 1)=us':=by
   have:=congrArg List.tail hd
   simpa using this
  obtain ⟨_,its,rt,o,e1,e2,n,e3⟩:=(show ObjOk P w H h0 b (.tup [.ref kb,p.2]) from ok b _ hb)
  cases rt with
  | @cons _ u1 _ t1 r1 rt =>
  cases (show u1=Value.ref kb from r1)
  cases rt with
  | @cons _ u2 _ t2 r2 rt =>
  cases rt
  have low:∀ {b:Addr},b < h0.objs.size→b ∉ [it]:=fun {b} hb=>by simp; exact Nat.ne_of_lt (Nat.lt_of_lt_of_le hb hit)
  refine codeAny_builtin F.entry_dict_update_loop ?_; rw [PySem.Around.under_plainId F.plain_dict_update_loop _]
  show wpAny _ A.in1 (pyNext (.ref it) >>= _) _ _ s
  refine Γa (W.item i s _ _ lt ⟨hst,lst kp⟩ fun v g tk vP st1 kk=>?_)
  have vP:items[i]?=some v:=vP
  rw [hi'] at vP
  cases vP
  have kp1:L2.Kept h0 g h0.objs.size:=fun b o hb e=>kk b o (low hb) (kp b o hb e)
  have hr1:a8t P w g D xs:=by
   obtain ⟨o,es,ep,h1,h2⟩:=hr
   exact ⟨o,es,ep,kk D o (by simp; exact hne) h1,h2⟩
  have eb:g.get? b=some o:=kp1 b o (Heap.lt_size e1) e1
  show wpAny _ A.in1 (holding [Value.ref b] _ >>= _) _ _ _
  refine Γa (Γg (Γa (wpAny_tryCatch ?_)))
  unfold Builtin.Dict.pairItems
  refine Γa (wpAny_typeOf (show Shared.TypeIs _ (.ref b) "tuple" from ⟨o,eb,e2⟩) ?_)
  rw [if_pos (by decide)]
  refine Γa (wpAny_seqItems eb e3 (Γb ?_))
  show wpAny _ A.in1 (holding [Value.ref kb,u2] (dictSet D (.ref kb) u2)) _ _ _
  have hz1:xs.length≤sizeLine:=by
   have:=Paired.length hk
   simp only [List.length_cons] at hz
   lia
  refine Γg (wpAny_dictSet_heap (knd:=tupleKind (a0w P w)) (hsz:=hz1) hu (b6n ok kp1 hkb) (b9m ok kp1 hk hr1) fun h' dd' hs=>?_)
  obtain ⟨q,es,ep,hq,h2',h3',h4',h5',h6'⟩:=dd'
  have kp2:L2.Kept h0 h' h0.objs.size:=fun b o hb e=>(hs.2 b (fun z=>absurd hb (by rw [z]; exact Nat.not_lt.mpr hD))).trans (kp1 b o hb e)
  have hit':h'.IsListIter it l (i + 1):=by
   obtain ⟨o,x1,x2⟩:=st1.1
   exact ⟨o,(hs.2 it (Ne.symm hne)).trans x1,x2⟩
  have en:(i:Int) + 1=((i + 1:Nat):Int):=by lia
  show wpAny _ A.in1 (again (.builtin "dict.update.loop" ⟨[.ref D,.ref it,rawInt ((i:Int) + 1),.none],[]⟩)) _ _ _
  rw [en]
  refine Γb ⟨plainId_quiet F.plain_dict_update_loop _,ih ys' us' (i + 1) _ (a4b kvs p.1 p.2) _ hd' lt hv' hp' hit' kp2 (hk.put p.1 hkb r2) ⟨q,es,ep,hq,h2',h3',h4',h6'⟩ ?_ fun h'' tk' xs' x1 x2 x3=>hR h'' tk' xs' x1 x2 x3⟩
  have:=a2e kvs p.1 p.2
  simp only [List.length_cons] at hz
  lia
end
section
variable {X:Cx} {pins:List (Addr×Obj)} {σ:L2.St} {H:Hp} {s:Shared} {A:Around} {E:Value→Shared→Prop}
theorem a6r {l:Addr} {ys:List V} {ps:List (List Key×V)} {Q:Value→Shared→Prop} (hu:A.in1.in1.units < cLine) (hh:A.in1.in1.handled=none) (I:Inv X pins σ H s) (hl:SqL X.K H l ys) (hp:a7p H ys ps)
  (h:∀ p s',H p=none→Inv X pins σ (upd H p (.dT (ps.foldl (fun k q=>a4b k q.1 q.2) []))) s'→Q (.ref p) s'):wpAny (model X.prog X.w) A (call (.type "dict") [.ref l]) Q E s:=by
 obtain ⟨its,rv,pl,hz⟩:=I.list hl
 have hll:=pl.isList
 have lp:ys.length=ps.length:=Paired.length hp
 have ll:l < s.heap.objs.size:=by obtain ⟨_,e,_⟩:=hll; exact Heap.lt_size e
 refine callType_codes (Q₁:=fun obj s₁=>obj=.ref s.heap.objs.size∧s₁ = { s with heap:=s.heap.push { cls:=.type "dict",data:=.dict #[] } }) PySem.F.kt_called_dict (PySem.F.kt_typeCall_dict_1 _) PySem.F.entry_dict_init (kt_code_dict_new _ ⟨rfl,rfl⟩) ?_
 rintro obj s₁ ⟨rfl,rfl⟩
 have nD:(s.heap.push { cls:=.type "dict",data:=.dict #[] }).get? s.heap.objs.size=some { cls:=.type "dict",data:=.dict #[] }:=Heap.get?_push_size _ rfl
 have hT:Shared.TypeIs { s with heap:=s.heap.push { cls:=.type "dict",data:=.dict #[] } } (.ref s.heap.objs.size) "dict":=⟨_,nD,rfl⟩
 refine ⟨hT,PySem.F.args_dict_init_2 _ _,?_⟩
 unfold Builtin.«dict.__init__»
 refine Γa ?_
 unfold Builtin.Dict.selfAndRest
 refine Γa (wpAny_notOrdered_dict hT ?_)
 show wpAny _ _ (pure (s.heap.objs.size,[Value.ref l])) _ _ _
 refine Γb ?_
 show wpAny _ _ (Builtin.Dict.updateFrom "dict.__init__" s.heap.objs.size (.ref l) [] .none) _ _ _
 unfold Builtin.Dict.updateFrom
 have hl1:(s.heap.push { cls:=.type "dict",data:=.dict #[] }).IsList l its.toArray:=hll.push _
 refine Γa (wpAny_typeOf hl1.typeIs ?_)
 rw [if_pos (by decide)]
 obtain ⟨o,n,f1,f2,f3,f4⟩:=pl
 refine Γa (a4q (Γc _ f1) f2 f4 f3 a6w (by nofun) hh (fun h' tk e hx=>?_) (by nofun))
 rw [if_pos (show (none:Option Value).isNone=true from rfl)]
 refine Γa (wpAny_rule (Γa (wpAny_pyIter_list (hl1.at fun o e=>hx.keeps _ _ e) (Γb ⟨plainId_quiet F.plain_dict_update_loop _,?_⟩))))
 have kp:∀ b o,s.heap.get? b=some o→(h'.push { cls:=.type "list_iterator",data:=.fields #[.ref l,.int 0 0] }).get? b=some o:=fun b o e=>Γc _ (hx.keeps _ _ (Γc _ e))
 have d1:=hx.keeps _ _ nD
 have lD:s.heap.objs.size < h'.objs.size:=Heap.lt_size d1
 refine c5s (P:=X.prog) (w:=X.w) (A:=A.in1) (h0:=s.heap) (H:=H) I.hok hu hh hll (Nat.le_of_lt lD) (Nat.le_refl _) (Nat.ne_of_lt lD) ps ys its 0 _ [] [] (by simp) (Nat.zero_le _) rv hp ⟨_,Heap.get?_push_size _ rfl,rfl,rfl⟩ (fun b o _ e=>kp b o e) .nil
  ⟨_,#[],0,Γc _ d1,⟨rfl,rfl,rfl⟩,rfl,rfl,List.nodup_nil⟩ (by simp; lia) fun h'' tk' xs' x1 x2 x3=>⟨rfl,h _ _ (I.hok.fresh (Nat.le_refl _)) ?_⟩
 obtain ⟨q,es,ep,hq,h2',h3',h4',h6'⟩:=x2
 refine I.laid (a:=s.heap.objs.size) (t':=tk') (fun b u e=>x3 b u (Heap.lt_size e) e) (Nat.le_refl _) ⟨?_,beq_eq_false_iff_ne.mpr (Ne.symm (Nat.ne_of_lt I.big)),xs',x1.keeps fun c ys ec=>?_,q,es,ep,hq,h2',h3',h4',h6'⟩
 ·have:∀ (ps kvs:List (List Key×V)),(ps.foldl (fun k q=>a4b k q.1 q.2) kvs).length≤kvs.length + ps.length:=by
   intro ps
   induction ps with
   | nil=>intro kvs; exact Nat.le_refl _
   | cons p r ih =>
    intro kvs
    have a:=ih (a4b kvs p.1 p.2)
    have b:=a2e kvs p.1 p.2
    simp only [List.foldl_cons,List.length_cons]
    lia
  have:=this ps []
  simp only [List.length_nil] at this
  lia
 ·have:c≠s.heap.objs.size:=fun z=>by rw [z,I.hok.fresh (Nat.le_refl _)] at ec; cases ec
  rw [a0e this]; exact ec
end
end Kq
end
section
namespace Kq
open PySem PySem.Spec PyProof.Rows L2
noncomputable def b6c:FV→Option (List Int×FV)
 | .tup [.tup ks,v]=>(a0r ks).map fun k=>(k,v)
 | _=>none
noncomputable def a7f:List FV→Option (List (List Int×FV))
 | []=>some []
 | x :: r=>(b6c x).bind fun p=>(a7f r).map fun q=>p :: q
noncomputable def a1f {α:Type}:List (List Int×α)→List (List Int)→List α→List (List Int)×List α
 | [],ks,vs=>(ks,vs)
 | p :: r,ks,vs=>a1f r (a2h ks vs p.1 p.2).1 (a2h ks vs p.1 p.2).2
noncomputable def b7r (v:FV):Option FV:=(a1v v).bind fun xs=>(a7f xs).bind fun ps=>some (.dct (a1f ps [] []).1 (a1f ps [] []).2)
section
variable {K:Γd} {S:Hp}
theorem b6b {x:FV} {p:List Int×FV} (e:b6c x=some p):∃ ks,x=.tup [.tup ks,p.2]∧a0r ks=some p.1:=by
 unfold b6c at e
 split at e
 ·obtain ⟨k,e1,rfl⟩:=mpd e
  exact ⟨_,rfl,e1⟩
 ·cases e
theorem a6e:∀ {xs:List FV} {ys:List V} {ps:List (List Int×FV)},RVs K S xs ys→a7f xs=some ps→∃ qs:List (List Int×V),a7p S ys (qs.map fun q=>(q.1.map Sum.inl,q.2))∧qs.map (·.1)=ps.map (·.1)∧RVs K S (ps.map (·.2)) (qs.map (·.2))
 | [],ys,ps,r,e=>by
  cases (show ys=[] from r)
  cases e
  exact ⟨[],.nil,rfl,rfl⟩
 | x :: xs,ys,ps,⟨v,r,e0,h1,h2⟩,e=>by
  subst e0
  obtain ⟨p,e1,e2⟩:=bnd e
  obtain ⟨q,e3,rfl⟩:=mpd e2
  obtain ⟨ks,rfl,e4⟩:=b6b e1
  obtain ⟨qs,g1,g2,g3⟩:=a6e h2 e3
  obtain ⟨b,zs,rfl,hb,hz⟩:=h1
  obtain ⟨u1,u2,rfl,r1,r2⟩:=hz.two_of
  obtain ⟨kb,rfl,hk⟩:=a7i r1 e4
  exact ⟨(p.1,u2) :: qs,.cons ⟨b,kb,rfl,hb,hk⟩ g1,by simp [g2],⟨u2,_,rfl,r2,g3⟩⟩
theorem a5i {α:Type}:∀ (ps:List (List Int×α)) (ks:List (List Int)) (vs:List α),ks.length=vs.length→(a1f ps ks vs).1.length=(a1f ps ks vs).2.length
 | [],ks,vs,h=>h
 | p :: r,ks,vs,h=>a5i r _ _ (a4i ks vs p.1 p.2 h).1
theorem a5f:∀ (qs:List (List Int×V)) (ks:List (List Int)) (us:List V),ks.length=us.length→(qs.map fun q=>((q.1.map Sum.inl:List Key),q.2)).foldl (fun k q=>a4b k q.1 q.2) ((a1a ks).zip us)=(a1a (a1f qs ks us).1).zip (a1f qs ks us).2
 | [],ks,us,h=>rfl
 | q :: r,ks,us,h=>by
  rw [List.map_cons,List.foldl_cons,b0u ks us q.1 q.2 h]
  exact a5f r _ _ (a4i ks us q.1 q.2 h).1
theorem a5g:∀ {ps:List (List Int×FV)} {qs:List (List Int×V)} {ks:List (List Int)} {vs:List FV} {us:List V},qs.map (·.1)=ps.map (·.1)→RVs K S (ps.map (·.2)) (qs.map (·.2))→RVs K S vs us→(a1f ps ks vs).1=(a1f qs ks us).1∧RVs K S (a1f ps ks vs).2 (a1f qs ks us).2
 | [],[],ks,vs,us,_,_,r=>⟨rfl,r⟩
 | [],q :: qs,ks,vs,us,e,_,_=>by cases e
 | p :: ps,[],ks,vs,us,e,_,_=>by cases e
 | p :: ps,q :: qs,ks,vs,us,e,⟨v,r',e0,h1,h2⟩,r=>by
  simp only [List.map_cons,List.cons.injEq] at e e0
  obtain ⟨e1,e2⟩:=e
  obtain ⟨e3,e4⟩:=e0
  subst e3
  rw [← e4] at h2
  obtain ⟨g1,g2⟩:=a5u (ks:=ks) (k:=p.1) r h1
  have:=a5g (ks:=(a2h ks vs p.1 p.2).1) e2 h2 g2
  show (a1f ps (a2h ks vs p.1 p.2).1 (a2h ks vs p.1 p.2).2).1=(a1f qs (a2h ks us q.1 q.2).1 (a2h ks us q.1 q.2).2).1∧RVs K S (a1f ps (a2h ks vs p.1 p.2).1 (a2h ks vs p.1 p.2).2).2 (a1f qs (a2h ks us q.1 q.2).1 (a2h ks us q.1 q.2).2).2
  rw [e1,← g1]
  exact this
end
section
variable {X:Cx}
noncomputable def d3s (X:Cx):List V→Hp→VK→Prop:=fun xs H Q=>∃ (a:Addr) (ys:List V) (ps:List (List Key×V)),xs=[.ref a]∧SqL X.K H a ys∧a7p H ys ps∧∀ p,H p=none→Q (.ref p) (upd H p (.dT (ps.foldl (fun k q=>a4b k q.1 q.2) [])))
theorem c2n (hc:X.calm=true) (hu:X.A.units + 64 < cLine):a1k X (.type "dict") (d3s X):=by
 rintro pins s σ H xs us Q I r ⟨a,ys,ps,rfl,hl,hp,k⟩
 obtain ⟨u,rfl,ru⟩:=a3o r
 cases (show u=Value.ref a from ru)
 have h1:X.A.in1.handled=none:=I.ok.hd hc
 refine a6r ?_ ?_ I hl hp fun p s' hp' I'=>⟨.ref p,_,I',rfl,k p hp'⟩
 ·show X.A.units + 1 + 1 < cLine
  lia
 ·exact h1
end
section
variable {X:Cx} {C:CC} {n:Nat} {sp:Γd→Nat→Sp} {a b:Expr} {ea eb:EW} {pos p:Pos}
theorem d6g (G:Good X C n sp) (hg:C.gl (Γe "dict")=true) (hs:a0k a=false) (ha:FR X C a ea):FE X C (.Call (.Name (Γe "dict") p) [a] [] pos) (eUn b7r ea) :=
 PE.imp (a4j (c2n G.calm G.room.units) (G.gl hg) (G.blt "dict" (by decide)) (by nofun) (a0p ha a1p (a0c hs)) (by nofun) (by nofun) (a0c hs) rfl) fun σ H Q ⟨c,L,S,Q0,I,h,k⟩ =>
 ⟨c,L,S,_,I,h,fun v L1 hv x S1 H1 r1 I1 s1=>by
  obtain ⟨z,e,q⟩:=wpx hv
  obtain ⟨xs,e1,e2⟩:=bnd e
  obtain ⟨ps,e3,e4⟩:=bnd e2
  cases e4
  obtain ⟨a,ys,rfl,hq,ry⟩:=r1.list I1.sub e1
  obtain ⟨qs,g1,g2,g3⟩:=a6e ry e3
  have hp:a7p H1 ys (qs.map fun q=>(q.1.map Sum.inl,q.2)):=Paired.mapP g1 fun _ _ ⟨b,kb,f1,f2,f3⟩=>⟨b,kb,f1,I1.sub _ _ f2,I1.sub _ _ f3⟩
  refine ⟨a,ys,_,rfl,hq,hp,fun p hp0=>?_⟩
  have ev:=a5f qs [] [] rfl
  obtain ⟨h1,h2⟩:=a5g (ks:=[]) (vs:=[]) (us:=[]) g2 g3 (show RVs X.K S1 [] [] from rfl)
  rw [show (a1a []).zip ([]:List V)=[] from rfl] at ev
  rw [ev]
  refine k _ L1 q _ _ _ ?_ (I1.new hp0 _) (s1.trans (a0m (I1.sn hp0)))
  exact ⟨p,_,rfl,a5i ps [] [] rfl,by rw [h1]; exact a0f,h2.mono (a0m (I1.sn hp0))⟩⟩
theorem d1z {nx:Str} {p2:Pos} (G:Good X C n sp) (ha:FE X C a ea) (hb:FE X C (.Name nx p2) eb):FE X C (.Subscript a (.Name nx p2) pos) (eOp b7s ea eb) :=
 PE.imp (b0w (X:=X.nox) (by have:=G.room.units; show X.A.units + 1 < cLine; lia) ha hb fun _ _=>rfl) fun σ H Q ⟨c,L,S,Q0,I,h,k⟩ =>
 ⟨c,L,S,_,I,h,fun v L1 hv x S1 H1 r1 I1 s1=>⟨c,L1,S1,_,I1,hv,fun w L2 hw y S2 H2 r2 I2 s2=>by
  obtain ⟨z,e,q⟩:=wpx hw
  cases v with
  | dct ks vs =>
   obtain ⟨ps,e1,e2⟩:=bnd e
   obtain ⟨kk,e3,e4⟩:=bnd e2
   cases a1q e1
   obtain ⟨a,us,rfl,hl,h2,g⟩:=a5y (X:=X) I2.sub (.inl r2) (.inl (r1.mono s2)) e3
   obtain ⟨u,e5,r5⟩:=a5w h2 e4
   rw [e5] at g
   exact ⟨a,u,rfl,g,k z L2 q u S2 H2 r5 I2 (s1.trans s2)⟩
  | _=>cases e⟩⟩
end
@[scoped simp ↓] theorem f_dict (v:FV) (Q:FV→Prop):wp (b7r v) Q↔wp (a1v v) fun xs=>wp (a7f xs) fun ps=>Q (.dct (a1f ps [] []).1 (a1f ps [] []).2):=by
 show wp ((a1v v).bind _) Q↔_
 simp only [a1i]; rfl
noncomputable def c5i (i:Nat) (eb:EW):AW:=fun L Q=>wp (lk L i) fun _=>eb L fun y L1=>wp (lk L1 i) fun x=>wp (a4z x) fun xs=>wp (a4z y) fun ys=>Q (a3p xs ys) L1
section
variable {X:Cx} {C:CC} {n:Nat} {sp:Γd→Nat→Sp} {b:Expr} {eb:EW} {pos p p2 tp:Pos} {i kk:Nat} {nx:Str} {elts:List Expr}
theorem d5q (G:Good X C n sp) (hg:C.gl (Γe "zip")=true) (h:C.nm i nx=true) (m:a0u C.md i=.own) (hs2:a0k b=false) (hb:FE X C b eb):FI X C (C.md.set i .frz) (.Tuple elts kk tp) (.Call (.Name (Γe "zip") p) [.Name nx p2,b] [] pos) (c5i i eb) :=
 PI.imp (c8e (G.gl hg) (G.blt "zip" (by decide)) (a0p (a1u G h) (a0p hb a1p (a0c hs2)) (a0c rfl)) (by rw [a0c rfl,a0c hs2]; rfl) (a0c hs2)) fun σ H R ⟨c,L,S,Q0,I,h,k⟩=>by
 obtain ⟨v,e,h⟩:=wpx h
 have e:=(a2y _ _ _).mp e
 obtain ⟨l,e1,_,_⟩:=I.own i v (fun z=>by rw [m] at z; cases z) e
 refine ⟨_,e1,c,L,S,_,I,h,fun w L2 hw y S2 H2 r2 I2 s2=>?_⟩
 obtain ⟨v2,e2,hw⟩:=wpx hw
 obtain ⟨ps,e0,hw⟩:=wpx hw
 obtain ⟨qs,e',q⟩:=wpx hw
 have e2:=(a2y _ _ _).mp e2
 obtain ⟨l2,f1,⟨o1,rs,vs,e9,o2,o3⟩,o4⟩:=I2.own i v2 (fun z=>by rw [m] at z; cases z) e2
 rw [e1] at f1; cases f1
 obtain ⟨e3,e4⟩:=c4l e9 e0
 subst e3 e4
 obtain ⟨l',rfl,st'⟩:=r2.stays e'
 obtain ⟨ws,h2,_⟩:=st' S2 H2 (Same.refl _) I2.sub
 obtain ⟨I',un⟩:=I2.frz m e2 e1 o2
 exact ⟨true,_,l,l',rfl,⟨vs,SqL.of o2⟩,⟨ws,h2⟩,k _ L2 q _ _ S2 H2 I' un rfl (b6u (t:=true) (fun L σ S' H I s=>⟨vs,SqL.of (I.prs (l,.lst vs) List.mem_cons_self).1,o3.mono s⟩) fun L σ S H I s=>st' S H s I.sub) s2⟩
end
@[scoped simp ↓] theorem d1o (i:Nat) (eb:EW) (L:a0d) (Q:List FV→a0d→Prop):c5i i eb L Q=(wp (lk L i) fun _=>eb L fun y L1=>wp (lk L1 i) fun x=>wp (a4z x) fun xs=>wp (a4z y) fun ys=>Q (a3p xs ys) L1):=propext Iff.rfl
end Kq
end
section
namespace L2
open PySem PySem.Spec PyProof.Rows
noncomputable def a1h (h:Heap) (z TI TO:Addr) (f m:Value):Prop:=h.get? z=some { cls:=.type "zip",data:=.fields #[f,m,.bool false,.ref TI,.ref TO] }
theorem a5c {M:Model} {A:Around} {E:Value→Shared→Prop} {s:Shared} {a:Addr} {Q:Option Obj→Shared→Prop} (h:Q (s.heap.get? a) s):wpAny M A (loadIfAlive a) Q E s:=fun _ _ _=>h
section
variable {P:Program} {w:World} {A:Around} {E:Value→Shared→Prop} {s:Shared} {z TI TO:Addr} {f m:Value}
theorem b1l (zz:a1h s.heap z TI TO f m) (hf:f=.none ∨ ∃ n,f=.int n 0) (hm:∃ c,m=.bool c):wpAny (model P w) A (Builtin.SmallTypes.ownedTupleIsFree (.ref z)) (fun r s'=>(r=true∧s'=s) ∨ (r=false∧∃ g m',(∃ c,m'=.bool c)∧s' = { s with heap:=g }∧a1h g z TI TO f m'∧Heap.SameBut z s.heap g)) (fun _ _=>False) s:=by
 unfold Builtin.SmallTypes.ownedTupleIsFree
 refine Γa (wpAny_field zz rfl (x:=f) rfl ?_)
 rcases hf with rfl | ⟨n,rfl⟩
 ·exact Γb (.inl ⟨rfl,rfl⟩)
 ·refine Γa (a5c ?_)
  cases e:s.heap.get? n.toNat with
  | none=>exact Γb (.inl ⟨rfl,rfl⟩)
  | some o =>
   rw [if_neg (by exact Bool.false_ne_true)]
   refine Γa (wpAny_field zz rfl (x:=m) rfl ?_)
   obtain ⟨c,rfl⟩:=hm
   cases c with
   | true =>
    rw [if_neg (by decide)]
    exact Γb (.inr ⟨rfl,s.heap,_,⟨_,rfl⟩,rfl,zz,rfl,fun b hb=>rfl⟩)
   | false =>
    rw [if_pos (by decide)]
    refine Γa (wpAny_setField_rec zz (by simp) fun g1 z1 b1=>Γb (.inr ⟨rfl,g1,.bool true,⟨_,rfl⟩,rfl,z1,b1⟩))
end
section
variable {P:Program} {w:World} {A:Around} {E:Value→Shared→Prop} {s:Shared} {p q:Bool} {z TI TO i1 i2 l1 l2:Addr} {k1 k2:Nat} {xs ys:Array Value} {x y a b f m:Value}
theorem b4w {Q:Value→Shared→Prop} (D:ZipApart z TI TO i1 i2 l1 l2) (zz:a1h s.heap z TI TO f m) (hf:f=.none ∨ ∃ n,f=.int n 0) (hm:∃ c,m=.bool c) (zi:IsPair s.heap TI (.ref i1) (.ref i2)) (zo:IsPair s.heap TO a b)
  (t1:IterB p s.heap i1 l1 k1) (t2:IterB q s.heap i2 l2 k2) (m1:SeqB p s.heap l1 xs) (m2:SeqB q s.heap l2 ys) (ex:xs[k1]?=some x) (ey:ys[k2]?=some y)
  (K:∀ h' f' m',(f'=.none ∨ ∃ n,f'=.int n 0)→(∃ c,m'=.bool c)→a1h h' z TI TO f' m'→(∃ c d,IsPair h' TO c d)→IterB p h' i1 l1 (k1 + 1)→IterB q h' i2 l2 (k2 + 1)→IsPair h' s.heap.objs.size x y →
   (∀ c o,c≠z→c≠TO→c≠i1→c≠i2→s.heap.get? c=some o→h'.get? c=some o)→Q (.ref s.heap.objs.size) { s with heap:=h' }) :
  wpAny (model P w) A (Builtin.«zip.__next__» ⟨[.ref z],[]⟩) (fun fin s'=>∃ v,fin=.done (.ret v)∧Q v s') E s:=by
 show wpAny _ _ (field (.ref z) 2 >>= _) _ _ _; refine Γa (wpAny_field zz rfl (x:=.bool false) rfl ?_)
 show wpAny _ _ (field (.ref z) 3 >>= _) _ _ _; refine Γa (wpAny_field zz rfl (x:=.ref TI) rfl (Γa (wpAny_seqItems zi rfl ?_)))
 show wpAny _ _ (Builtin.SmallTypes.ownedTupleIsFree (.ref z) >>= _) _ _ _
 refine Γa (wpAny_mono (b1l zz hf hm) ?_ fun _ _ h=>h.elim)
 rintro r s' (⟨hr,hs'⟩ | ⟨hr,g,m',hm',hs',zz',b0⟩)
 ·rw [hs',hr]; simp only [if_true]
  refine Γa (wpAny_rule (Γa (wpAny_field zz rfl (x:=.ref TO) rfl (Γa (wpAny_setField_rec zz (by simp) fun g1 z1 b1=>?_)))))
  replace z1:a1h g1 z TI TO .ellipsis m:=z1
  refine Γa ?_; simp only [List.zipIdx_cons,List.zipIdx_nil,List.forIn_cons,List.forIn_nil]
  refine Γa (Γa (wpAny_onRaise ?_)); show wpAny _ _ (Builtin.SmallTypes.nextOf (.ref i1) >>= _) _ _ _
  refine Γa (a6v (t1.move b1.extBut D.i1z) (m1.move b1.extBut D.l1z) ex fun g2 t12 b2=>Γb ?_)
  have o2:IsPair g2 TO a b:=b2.extBut _ _ D.TOi1 (b1.extBut _ _ D.TOz zo)
  refine Γa (wpAny_seqItems o2 rfl (Γa (wpAny_updateSeq_pair o2 fun g3 o3 b3=>?_)))
  replace o3:IsPair g3 TO x b:=o3
  refine Γa (wpAny_letGo (Γb (Γa (Γa (wpAny_onRaise ?_))))); show wpAny _ _ (Builtin.SmallTypes.nextOf (.ref i2) >>= _) _ _ _
  refine Γa (a6v (((t2.move b1.extBut D.i2z).move b2.extBut D.i12.symm).move b3.extBut D.TOi2.symm) (((m2.move b1.extBut D.l2z).move b2.extBut D.l2i1).move b3.extBut D.l2TO) ey fun g4 t24 b4=>Γb ?_)
  have o4:IsPair g4 TO x b:=b4.extBut _ _ D.TOi2 o3
  refine Γa (wpAny_seqItems o4 rfl (Γa (wpAny_updateSeq_pair o4 fun g5 o5 b5=>?_)))
  replace o5:IsPair g5 TO x y:=o5
  refine Γa (wpAny_letGo (Γb (Γb (Γa (wpAny_seqItems o5 rfl (Γa (wpAny_newTuple ?_)))))))
  have sz:g5.objs.size=s.heap.objs.size:=by rw [b5.1,b4.1,b3.1,b2.1,b1.1]
  have z5:a1h g5 z TI TO .ellipsis m:=b5.extBut _ _ D.TOz.symm (b4.extBut _ _ D.i2z.symm (b3.extBut _ _ D.TOz.symm (b2.extBut _ _ D.i1z.symm z1)))
  have kk:∀ c o,c≠z→c≠TO→c≠i1→c≠i2→s.heap.get? c=some o→g5.get? c=some o:=fun c o c1 c2 c3 c4 e=>b5.extBut _ _ c2 (b4.extBut _ _ c4 (b3.extBut _ _ c2 (b2.extBut _ _ c3 (b1.extBut _ _ c1 e))))
  have t15:IterB p g5 i1 l1 (k1 + 1):=((t12.move b3.extBut D.TOi1.symm).move b4.extBut D.i12).move b5.extBut D.TOi1.symm
  have t25:IterB q g5 i2 l2 (k2 + 1):=t24.move b5.extBut D.TOi2.symm
  have zlt:z < g5.objs.size:=Heap.lt_size z5
  show wpAny _ _ (Builtin.SmallTypes.ownedTupleHandOut (.ref z) (.ref g5.objs.size) >>= _) _ _ _; refine Γa ?_; unfold Builtin.SmallTypes.ownedTupleHandOut
  have z6:a1h (g5.push { cls:=.type "tuple",data:=.seq #[x,y] }) z TI TO .ellipsis m:=Γc _ z5
  refine Γa (wpAny_setField_rec z6 (by simp) fun g7 z7 b7=>?_); replace z7:a1h g7 z TI TO (rawInt g5.objs.size) m:=z7
  refine wpAny_setField_rec z7 (by simp) fun g8 z8 b8=>?_; replace z8:a1h g8 z TI TO (rawInt g5.objs.size) (.bool false):=z8
  have up:∀ c o,c≠z→g5.get? c=some o→g8.get? c=some o:=fun c o c1 e=>b8.extBut _ _ c1 (b7.extBut _ _ c1 (Γc _ e))
  have tt:IsPair g8 g5.objs.size x y:=b8.extBut _ _ (Nat.ne_of_gt zlt) (b7.extBut _ _ (Nat.ne_of_gt zlt) (Heap.get?_push_size _ rfl))
  rw [sz] at z8 tt
  refine Γb ⟨_,rfl,?_⟩; show Q (.ref g5.objs.size) _; rw [sz]
  exact K g8 _ _ (.inr ⟨_,rfl⟩) ⟨_,rfl⟩ z8 ⟨_,_,up _ _ D.TOz o5⟩ (t15.to fun o e=>up _ o D.i1z e) (t25.to fun o e=>up _ o D.i2z e) tt fun c o c1 c2 c3 c4 e=>up c o c1 (kk c o c1 c2 c3 c4 e)
 ·rw [hs',hr]; simp only [Bool.false_eq_true,if_false]
  refine Γa ?_
  rw [← Array.forIn_toList]
  simp only [List.forIn_cons,List.forIn_nil]
  refine Γa (Γa (Γg ?_)); show wpAny _ _ (Builtin.SmallTypes.nextOf (.ref i1) >>= _) _ _ _
  refine Γa (a6v (t1.move b0.extBut D.i1z) (m1.move b0.extBut D.l1z) ex fun g2 t12 b2=>Γb (Γb ?_))
  refine Γa (Γa (Γg ?_)); show wpAny _ _ (Builtin.SmallTypes.nextOf (.ref i2) >>= _) _ _ _
  refine Γa (a6v ((t2.move b0.extBut D.i2z).move b2.extBut D.i12.symm) ((m2.move b0.extBut D.l2z).move b2.extBut D.l2i1) ey fun g4 t24 b4=>Γb (Γb (Γb ?_)))
  show wpAny _ _ (newTuple [x,y] >>= _) _ _ _
  refine Γa (wpAny_newTuple (Γb ⟨_,rfl,?_⟩))
  have sz:g4.objs.size=s.heap.objs.size:=by rw [b4.1,b2.1,b0.1]
  show Q (.ref g4.objs.size) _
  have tt:IsPair (g4.push { cls:=.type "tuple",data:=.seq #[x,y] }) g4.objs.size x y:=Heap.get?_push_size _ rfl
  rw [sz] at tt
  rw [sz]
  have z4:a1h g4 z TI TO f m':=b4.extBut _ _ D.i2z.symm (b2.extBut _ _ D.i1z.symm zz')
  refine K _ f m' hf hm' (Γc _ z4) ⟨a,b,Γc _ (b4.extBut _ _ D.TOi2 (b2.extBut _ _ D.TOi1 (b0.extBut _ _ D.TOz zo)))⟩ ((t12.move b4.extBut D.i12).to fun o e=>Γc _ e) (t24.to fun o e=>Γc _ e) tt fun c o c1 c2 c3 c4 e=>Γc _ (b4.extBut _ _ c4 (b2.extBut _ _ c3 (b0.extBut _ _ c1 e)))
theorem b8w {Q:Fin→Shared→Prop} (hh:A.handled=none) (D:ZipApart z TI TO i1 i2 l1 l2) (zz:a1h s.heap z TI TO f m) (hf:f=.none ∨ ∃ n,f=.int n 0) (hm:∃ c,m=.bool c) (zi:IsPair s.heap TI (.ref i1) (.ref i2)) (zo:IsPair s.heap TO a b)
  (t1:IterB p s.heap i1 l1 k1) (t2:IterB q s.heap i2 l2 k2) (m1:SeqB p s.heap l1 xs) (m2:SeqB q s.heap l2 ys) (en:xs[k1]?=none ∨ ys[k2]?=none)
  (K:∀ h' e,(∀ c o,c≠z→c≠TO→c≠i1→c≠i2→s.heap.get? c=some o→h'.get? c=some o)→(∃ o,h'.get? e=some o∧o.cls=.type "StopIteration")→E (.ref e) { s with heap:=h' }) :
  wpAny (model P w) A (Builtin.«zip.__next__» ⟨[.ref z],[]⟩) Q E s:=by
 show wpAny _ _ (field (.ref z) 2 >>= _) _ _ _; refine Γa (wpAny_field zz rfl (x:=.bool false) rfl ?_)
 show wpAny _ _ (field (.ref z) 3 >>= _) _ _ _; refine Γa (wpAny_field zz rfl (x:=.ref TI) rfl (Γa (wpAny_seqItems zi rfl ?_)))
 show wpAny _ _ (Builtin.SmallTypes.ownedTupleIsFree (.ref z) >>= _) _ _ _
 refine Γa (wpAny_mono (b1l zz hf hm) ?_ fun _ _ h=>h.elim)
 rintro r s' (⟨hr,hs'⟩ | ⟨hr,g,m',hm',hs',zz',b0⟩)
 ·rw [hs',hr]; simp only [if_true]
  refine Γa (wpAny_rule (Γa (wpAny_field zz rfl (x:=.ref TO) rfl (Γa (wpAny_setField_rec zz (by simp) fun g1 z1 b1=>?_)))))
  replace z1:a1h g1 z TI TO .ellipsis m:=z1
  refine Γa ?_; simp only [List.zipIdx_cons,List.zipIdx_nil,List.forIn_cons,List.forIn_nil]
  refine Γa (Γa (wpAny_onRaise ?_)); show wpAny _ _ (Builtin.SmallTypes.nextOf (.ref i1) >>= _) _ _ _
  have fin:∀ {g:Heap} {e:Addr} {o:Obj},a1h g z TI TO .ellipsis m→g.get? e=some o→o.cls=.type "StopIteration"→e≠z:=fun h1 h2 h3 x=>by subst x; rw [h1] at h2; cases h2; simp at h3
  cases hx:xs[k1]? with
  | none =>
   refine Γa (b0n hh (t1.move b1.extBut D.i1z) (m1.move b1.extBut D.l1z) hx fun g2 e b2 he=>?_)
   obtain ⟨oe,e1,e2⟩:=he
   have z2:a1h g2 z TI TO .ellipsis m:=b2 _ _ D.i1z.symm z1
   exact wpAny_setField_rec z2 (by simp) fun g3 _ b3=>K g3 e (fun c o c1 _ c3 _ x=>b3.extBut _ _ c1 (b2 _ _ c3 (b1.extBut _ _ c1 x))) ⟨oe,b3.extBut _ _ (fin z2 e1 e2) e1,e2⟩
  | some x =>
   have hy:ys[k2]?=none:=by rcases en with h | h; rw [hx] at h; cases h; exact h
   refine Γa (a6v (t1.move b1.extBut D.i1z) (m1.move b1.extBut D.l1z) hx fun g2 t12 b2=>Γb ?_)
   have o2:IsPair g2 TO a b:=b2.extBut _ _ D.TOi1 (b1.extBut _ _ D.TOz zo)
   refine Γa (wpAny_seqItems o2 rfl (Γa (wpAny_updateSeq_pair o2 fun g3 o3 b3=>Γa (wpAny_letGo (Γb (Γa (Γa (wpAny_onRaise ?_))))))))
   show wpAny _ _ (Builtin.SmallTypes.nextOf (.ref i2) >>= _) _ _ _
   refine Γa (b0n hh (((t2.move b1.extBut D.i2z).move b2.extBut D.i12.symm).move b3.extBut D.TOi2.symm) (((m2.move b1.extBut D.l2z).move b2.extBut D.l2i1).move b3.extBut D.l2TO) hy fun g4 e b4 he=>?_)
   obtain ⟨oe,e1,e2⟩:=he
   have z4:a1h g4 z TI TO .ellipsis m:=b4 _ _ D.i2z.symm (b3.extBut _ _ D.TOz.symm (b2.extBut _ _ D.i1z.symm z1))
   exact wpAny_setField_rec z4 (by simp) fun g5 _ b5=>K g5 e (fun c o c1 c2 c3 c4 x=>b5.extBut _ _ c1 (b4 _ _ c4 (b3.extBut _ _ c2 (b2.extBut _ _ c3 (b1.extBut _ _ c1 x))))) ⟨oe,b5.extBut _ _ (fin z4 e1 e2) e1,e2⟩
 ·rw [hs',hr]; simp only [Bool.false_eq_true,if_false]
  refine Γa ?_
  rw [← Array.forIn_toList]
  simp only [List.forIn_cons,List.forIn_nil]
  refine Γa (Γa (Γg ?_)); show wpAny _ _ (Builtin.SmallTypes.nextOf (.ref i1) >>= _) _ _ _
  cases hx:xs[k1]? with
  | none =>
   refine Γa (b0n hh (t1.move b0.extBut D.i1z) (m1.move b0.extBut D.l1z) hx fun g2 e b2 he=>?_)
   exact K g2 e (fun c o c1 _ c3 _ x=>b2 _ _ c3 (b0.extBut _ _ c1 x)) he
  | some x =>
   have hy:ys[k2]?=none:=by rcases en with h | h; rw [hx] at h; cases h; exact h
   refine Γa (a6v (t1.move b0.extBut D.i1z) (m1.move b0.extBut D.l1z) hx fun g2 t12 b2=>Γb (Γb ?_))
   refine Γa (Γa (Γg ?_)); show wpAny _ _ (Builtin.SmallTypes.nextOf (.ref i2) >>= _) _ _ _
   refine Γa (b0n hh ((t2.move b0.extBut D.i2z).move b2.extBut D.i12.symm) ((m2.move b0.extBut D.l2z).move b2.extBut D.l2i1) hy fun g4 e b4 he=>?_)
   exact K g4 e (fun c o c1 _ c3 c4 x=>b4 _ _ c4 (b2.extBut _ _ c3 (b0.extBut _ _ c1 x))) he
theorem b4v {Q:Option Value→Shared→Prop} (D:ZipApart z TI TO i1 i2 l1 l2) (zz:a1h s.heap z TI TO f m) (hf:f=.none ∨ ∃ n,f=.int n 0) (hm:∃ c,m=.bool c) (zi:IsPair s.heap TI (.ref i1) (.ref i2)) (zo:IsPair s.heap TO a b)
  (t1:IterB p s.heap i1 l1 k1) (t2:IterB q s.heap i2 l2 k2) (m1:SeqB p s.heap l1 xs) (m2:SeqB q s.heap l2 ys) (ex:xs[k1]?=some x) (ey:ys[k2]?=some y)
  (K:∀ h' f' m',(f'=.none ∨ ∃ n,f'=.int n 0)→(∃ c,m'=.bool c)→a1h h' z TI TO f' m'→(∃ c d,IsPair h' TO c d)→IterB p h' i1 l1 (k1 + 1)→IterB q h' i2 l2 (k2 + 1)→IsPair h' s.heap.objs.size x y →
   (∀ c o,c≠z→c≠TO→c≠i1→c≠i2→s.heap.get? c=some o→h'.get? c=some o)→Q (some (.ref s.heap.objs.size)) { s with heap:=h' }):wpAny (model P w) A (pyNext (.ref z)) Q E s:=by
 have ty:s.TypeIs (.ref z) "zip":=⟨_,zz,rfl⟩
 unfold pyNext
 exact Γa (wpAny_attempt (wpAny_callSpecial?_slot (name:=Γe "__next__") ty F.slot_zip_next (wpAny_call_entry F.slot_zip_next ty F.entry_zip_next (b4w D zz hf hm zi zo t1 t2 m1 m2 ex ey fun h' f' m' x1 x2 a1 a2 a3 a4 a5 a6=>Γb (K h' f' m' x1 x2 a1 a2 a3 a4 a5 a6)) (F.args_zip_next_1 _))))
theorem b4u {Q:Option Value→Shared→Prop} (hh:A.handled=none) (D:ZipApart z TI TO i1 i2 l1 l2) (zz:a1h s.heap z TI TO f m) (hf:f=.none ∨ ∃ n,f=.int n 0) (hm:∃ c,m=.bool c) (zi:IsPair s.heap TI (.ref i1) (.ref i2)) (zo:IsPair s.heap TO a b)
  (t1:IterB p s.heap i1 l1 k1) (t2:IterB q s.heap i2 l2 k2) (m1:SeqB p s.heap l1 xs) (m2:SeqB q s.heap l2 ys) (en:xs[k1]?=none ∨ ys[k2]?=none)
  (K:∀ h',(∀ c o,c≠z→c≠TO→c≠i1→c≠i2→s.heap.get? c=some o→h'.get? c=some o)→Q none { s with heap:=h' }):wpAny (model P w) A (pyNext (.ref z)) Q E s:=by
 have ty:s.TypeIs (.ref z) "zip":=⟨_,zz,rfl⟩
 unfold pyNext
 refine Γa (wpAny_attempt (wpAny_callSpecial?_slot (name:=Γe "__next__") ty F.slot_zip_next (wpAny_call_entry F.slot_zip_next ty F.entry_zip_next (b8w hh D zz hf hm zi zo t1 t2 m1 m2 en fun h' e hk he=>?_) (F.args_zip_next_1 _))))
 obtain ⟨o,e1,e2⟩:=he
 exact Γa (wpAny_isInstance (T:="StopIteration") (b:=true) ⟨o,e1,e2⟩ isSubtype_stop (Γb (K _ hk)))
end
theorem b0t {prog:Program} {w:World} {A:Around} {E:Value→Shared→Prop} {s:Shared} {z TI TO:Addr} {f m:Value} {Q:Value→Shared→Prop} (zz:a1h s.heap z TI TO f m) (h:Q (.ref z) s):wpAny (model prog w) A (pyIter (.ref z)) Q E s:=by
 have hT:s.TypeIs (.ref z) "zip":=⟨_,zz,rfl⟩
 refine wpAny_pyIter_slot hT F.slot_zip_iter (wpAny_call_entry F.slot_zip_iter hT F.entry_zip_iter ?_ (F.args_zip_iter_1 _))
 show wpAny _ _ (ret (.ref z)) _ _ s
 exact Γb ⟨_,rfl,"zip",_,hT,F.slot_zip_next.lookup,h⟩
theorem c2w {P:Program} {w:World} {K:Γd} {p q:Bool} {nx:Str} {pos:Pos} {a b z TI TO i1 i2:Addr} (D:ZipApart z TI TO i1 i2 a b) :
  Turn P w K (.Name nx pos) (Iz2 K p q a b) [z,TO,i1,i2,TI] z (fun i h=>(∃ f m,(f=.none ∨ ∃ n,f=.int n 0)∧(∃ c,m=.bool c)∧a1h h z TI TO f m)∧IsPair h TI (.ref i1) (.ref i2)∧(∃ c d,IsPair h TO c d)∧IterB p h i1 a i∧IterB q h i2 b i) where
 mem:=by simp
 obj:=fun i h st c hc=>by
  obtain ⟨⟨f,m,hf0,hm0,zz⟩,zi,⟨x,y,zo⟩,t1,t2⟩:=st
  simp only [List.mem_cons,List.not_mem_nil,or_false] at hc
  rcases hc with rfl | rfl | rfl | rfl | rfl
  ·exact ⟨_,zz,fun v z=>by cases z⟩
  ·exact ⟨_,zo,fun v z=>by cases z⟩
  ·exact t1.obj
  ·exact t2.obj
  ·exact ⟨_,zi,fun v z=>by cases z⟩
 keep:=fun i h h' st kk=>by
  obtain ⟨⟨f,m,hf0,hm0,zz⟩,zi,⟨x,y,zo⟩,t1,t2⟩:=st
  exact ⟨⟨f,m,hf0,hm0,kk z (by simp) _ zz⟩,kk TI (by simp) _ zi,⟨x,y,kk TO (by simp) _ zo⟩,t1.to fun o e=>kk i1 (by simp) o e,t2.to fun o e=>kk i2 (by simp) o e⟩
 item:=by
  intro X hP hw hK hc i pins s σ H E I hf st hg
  subst hP hw hK
  obtain ⟨xs,ys,x,y,q1,q2,hx,hy⟩:=hg
  obtain ⟨⟨f,m,hf0,hm0,zz⟩,zi,⟨u0,v0,zo⟩,t1,t2⟩:=st
  obtain ⟨its,rv,m1,_⟩:=I.seqB q1
  obtain ⟨jts,rw',m2,_⟩:=I.seqB q2
  obtain ⟨u,hu,ru⟩:=rv.get hx
  obtain ⟨u',hu',ru'⟩:=rw'.get hy
  refine b4v D zz hf0 hm0 zi zo t1 t2 m1 m2 (x:=u) (y:=u') (by simpa using hu) (by simpa using hu') fun h'' f' m' hf' hm' z'' a2 a3 a4 T'' hk=>?_
  refine ⟨_,rfl,Γb ?_⟩
  have szn:z≠s.heap.objs.size:=Nat.ne_of_lt (Heap.lt_size zz)
  have I1:Inv X pins σ (upd H s.heap.objs.size (.tup [x,y])) { s with heap:=h'' }:=I.turnedNew (t':=s.toks) (ch:=[z,TO,i1,i2]) (Nat.le_refl _)
   (fun c ob hc e=>by simp only [List.mem_cons,List.not_mem_nil,or_false,not_or] at hc; exact hk c ob hc.1 hc.2.1 hc.2.2.1 hc.2.2.2 e)
   (fun c hc=>hf c (by simp only [List.mem_cons,List.not_mem_nil,or_false] at hc ⊢; rcases hc with z | z | z | z <;> simp [z])) ⟨by show 2≤sizeLine; decide,[u,u'],.cons ru (.cons ru' .nil),⟨_,T'',rfl,_,rfl⟩⟩
  refine ⟨.ref s.heap.objs.size,_,I1,rfl,⟨_,I.fresh,rfl,fun xs' ys' x' y' r1 r2 hx' hy'=>?_⟩,⟨⟨f',m',hf',hm',z''⟩,hk _ _ D.TIz D.TITO D.TIi1 D.TIi2 zi,a2,a3,a4⟩,fun c hc=>?_⟩
  ·have e1:=I.seqB_inj r1 q1
   have e2:=I.seqB_inj r2 q2
   subst e1 e2
   rw [hx] at hx'; rw [hy] at hy'; cases hx'; cases hy'; rfl
  ·have:c≠s.heap.objs.size:=by
    have hlt:c < s.heap.objs.size:=by
     simp only [List.mem_cons,List.not_mem_nil,or_false] at hc
     rcases hc with rfl | rfl | rfl | rfl | rfl
     ·exact Heap.lt_size zz
     ·exact Heap.lt_size zo
     ·exact t1.lt
     ·exact t2.lt
     ·exact Heap.lt_size zi
    exact Nat.ne_of_lt hlt
   rw [a0e this]; exact (hf c hc).1
 done:=by
  intro X hP hw hK hc i pins s σ H E I hf st hg
  subst hP hw hK
  obtain ⟨xs,ys,q1,q2,hx⟩:=hg
  obtain ⟨⟨f,m,hf0,hm0,zz⟩,zi,⟨u0,v0,zo⟩,t1,t2⟩:=st
  obtain ⟨its,rv,m1,l1⟩:=I.seqB q1
  obtain ⟨jts,rw',m2,l2⟩:=I.seqB q2
  refine b4u (I.ok.hd hc) D zz hf0 hm0 zi zo t1 t2 m1 m2 (hx.elim (fun z=>.inl (by simp; lia)) fun z=>.inr (by simp; lia)) fun h' hk=>⟨rfl,?_⟩
  exact I.turnedL (t':=s.toks) (ch:=[z,TO,i1,i2]) (fun c ob hc e=>by simp only [List.mem_cons,List.not_mem_nil,or_false,not_or] at hc; exact hk c ob hc.1 hc.2.1 hc.2.2.1 hc.2.2.2 e)
   (fun c hc=>hf c (by simp only [List.mem_cons,List.not_mem_nil,or_false] at hc ⊢; rcases hc with z | z | z | z <;> simp [z]))
 self:=fun _ _ _ _ _ st h=>by
  obtain ⟨⟨f,m,hf0,hm0,zz⟩,_⟩:=st
  exact b0t zz h
section
variable {X:Cx}
theorem d4d {nx:Str} {tp:Pos} {e1 e2:Expr} {ta:TA} {p pos:Pos} (hg:Gl X "zip") (hm:X.mg "zip" = none) (ha:PA X [e1,e2] ta)
  (hs:starEach [e1,e2] X.env=[(false,eval e1 X.env),(false,eval e2 X.env)]) (hs2:starEach [e2] X.env=[(false,eval e2 X.env)]):PI X (.Name nx tp) (.Call (.Name "zip" p) [e1,e2] [] pos) (iZ2 X.K ta):=by
 intro pins s σ H R I h
 refine wpAny_Call_Name_kw (a4o I hg hm PyProof.Rows.boot_zip ?_ (by decide) (by decide))
 refine PyProof.Rows.callWith_type1 (thn (ha pos pins s σ H _ I h) fun us s1 ⟨vs,H1,I1,r1,q1⟩=>?_) (by rw [hs,hs2]) (by rw [hs2]; rfl)
 obtain ⟨p,q,a,b,e,⟨xs,hq1⟩,⟨ys,hq2⟩,kk⟩:=q1
 subst e
 obtain ⟨u1,u2,rfl,ra,rb⟩:=b5c r1
 cases ra; cases rb
 obtain ⟨its,rv,m1,_⟩:=I1.seqB hq1
 obtain ⟨jts,rw',m2,_⟩:=I1.seqB hq2
 refine a9y m1 m2 fun h' zz zi zo t1 t2 hk=>wpAny_pyIter_zip (f0:=.none) zz ?_
 have I2:Inv X pins σ H1 { s1 with heap:=h' }:=I1.kept (t':=s1.toks) fun c o e=>hk c o e
 refine ⟨_,_,_,Iz2 X.K p q a b,H1,rfl,I2,c2w (zipApart_new m1.lt m2.lt),⟨⟨.none,.bool false,.inl rfl,⟨_,rfl⟩,zz⟩,zi,⟨_,_,zo⟩,t1,t2⟩,fun c hc=>?_,kk⟩
 have hge:s1.heap.objs.size≤c:=by
  simp only [List.mem_cons,List.not_mem_nil,or_false] at hc
  rcases hc with rfl | rfl | rfl | rfl | rfl <;> first | exact Nat.le_refl _ | exact Nat.le_add_right _ _
 exact I1.fpOk hge (I1.hok.fresh hge)
end
end L2
end
section
namespace Kq
open PySem PySem.Spec PyProof.Rows L2
section
variable {X:Cx} {C:CC} {n:Nat} {sp:Γd→Nat→Sp} {a b:Expr} {ea eb:EW} {pos p tp:Pos} {nt:Str}
theorem d5r (G:Good X C n sp) (hg:C.gl (Γe "zip")=true) (hs:a0k a=false) (hs2:a0k b=false) (ha:FE X C a ea) (hb:FE X C b eb):FI X C C.md (.Name nt tp) (.Call (.Name (Γe "zip") p) [a,b] [] pos) (c6m ea eb) :=
 PI.imp (d4d (G.gl hg) (G.blt "zip" (by decide)) (a0p ha (a0p hb a1p (a0c hs2)) (a0c hs)) (by rw [a0c hs,a0c hs2]; rfl) (a0c hs2)) fun σ H R ⟨c,L,S,Q0,I,h,k⟩ =>
 ⟨c,L,S,_,I,h,fun v L1 hv x S1 H1 r1 I1 s1=>⟨c,L1,S1,_,I1,hv,fun w L2 hw y S2 H2 r2 I2 s2=>by
  obtain ⟨ps,e,hw⟩:=wpx hw
  obtain ⟨qs,e',q⟩:=wpx hw
  obtain ⟨l,rfl,st⟩:=(r1.mono s2).stays e
  obtain ⟨l',rfl,st'⟩:=r2.stays e'
  obtain ⟨vs,h1,_⟩:=st S2 H2 (Same.refl _) I2.sub
  obtain ⟨ws,h2,_⟩:=st' S2 H2 (Same.refl _) I2.sub
  exact ⟨_,_,l,l',rfl,⟨vs,h1⟩,⟨ws,h2⟩,k _ L2 q _ c S2 H2 I2 (fun _ _ _ _ I=>I) rfl (b6u (fun L σ S H I s=>st S H s I.sub) fun L σ S H I s=>st' S H s I.sub) (s1.trans s2)⟩⟩⟩
end
noncomputable def c9c (o:HO):Prop:=∀ xs,o≠.tup xs
mutual
noncomputable def noL:FV→Bool
 | .lst _=>false
 | .scr _=>false
 | .tup xs=>c6l xs
 | .dct _ _=>false
 | .dci _ _=>false
 | .dcz _ _ _=>false
 | _=>true
noncomputable def c6l:List FV→Bool
 | []=>true
 | x :: r=>noL x && c6l r
end
noncomputable def eCallL (call:CW) (f:Nat) (a:AW):EW:=fun L Q=>a L fun xs L1=>call f xs fun z=>noL z.1=true∧Q z.1 L1
noncomputable def eCallM (call:CW) (f:Nat) (a:AW):EW:=fun L Q=>a L fun xs L1=>call f xs fun z=>wp (a7g z.1) fun ps=>c6l ps=true∧Q z.1 L1
section
variable {K:Γd} {S H S' H':Hp} {os os':List Addr}
noncomputable def c4x (S:Hp) (os:List Addr):Hp:=fun a=>if a∈os then none else S a
mutual
theorem RV.less {K:Γd} {S:Hp} {os:List Addr} (h:∀ a∈os,∃ o,S a=some o∧c9c o):∀ {p:FV} {v:V},noL p=true→RV K S p v→RV K (c4x S os) p v
 | .non,v,_,e=>e
 | .bl b,v,_,e=>e
 | .int i,v,_,e=>e
 | .str _,v,_,e=>e
 | .shn _,v,_,e=>e
 | .tup ps,v,n,⟨a,xs,e,h1,h2⟩=>⟨a,xs,e,by
   unfold c4x
   rw [if_neg fun m=>by obtain ⟨zs,z,n⟩:=h a m; rw [z] at h1; cases h1; exact n _ rfl]; exact h1,RVs.less h (by simpa [noL] using n) h2⟩
 | .dct ks vs,v,n,_=>by simp [noL] at n
 | .dci ks vs,v,n,_=>by simp [noL] at n
 | .dcz _ ks vs,v,n,_=>by simp [noL] at n
 | .lst ps,v,n,_=>by simp [noL] at n
 | .scr ps,v,n,_=>by simp [noL] at n
theorem RVs.less {K:Γd} {S:Hp} {os:List Addr} (h:∀ a∈os,∃ o,S a=some o∧c9c o):∀ {ps:List FV} {vs:List V},c6l ps=true→RVs K S ps vs→RVs K (c4x S os) ps vs
 | [],vs,_,e=>e
 | p :: ps,vs,n,⟨v,r,e,h1,h2⟩=>by
  have n:noL p=true∧c6l ps=true:=by simpa [c6l] using n
  exact ⟨v,r,e,RV.less h n.1 h1,RVs.less h n.2 h2⟩
end
variable {c:Cn} {md:Md} {L:a0d} {σ:L2.St}
end
section
variable {X:Cx} {C:CC} {n:Nat} {sp:Γd→Nat→Sp} {a:Expr} {ea:EW} {pos p:Pos} {call:CW} {f i:Nat} {nx:Str} {xs:List Expr} {as:AW}
end
noncomputable def revF (v:FV):Option FV:=(a7g v).map fun xs=>.lst xs.reverse
noncomputable def eMeth0 (f:FV→Option FV) (i:Nat):EW:=fun L Q=>wp (lk L i) fun x=>wp (f x) fun z=>Q .non (L.set i (some z))
section
variable {X:Cx} {C:CC} {n:Nat} {sp:Γd→Nat→Sp} {pos p:Pos} {call:CW} {f i:Nat} {nx:Str}
end
end Kq
end
section
namespace Kq
open PySem PySem.Spec PyProof.Rows L2 PySem.W
noncomputable def Lv {α:Type} (n:Nat) (P:α→Prop):KasT α→Prop
 | .ret a=>P a
 | .ask i j k=>i < n∧j < n∧∀ b,Lv n P (k b)
theorem Lv.bind {α β:Type} {n:Nat} {P:α→Prop} {P':β→Prop} {f:α→KasT β} (h:∀ a,P a→Lv n P' (f a)):∀ {t:KasT α},Lv n P t→Lv n P' (t.bind f)
 | .ret a,x=>h a x
 | .ask i j k,x=>⟨x.1,x.2.1,fun b=>Lv.bind h (x.2.2 b)⟩
section
variable {n:Nat}
end
noncomputable def IntTup (h:Heap) (v:Value):Prop:=∃ (a:Addr) (o:Obj) (us:List Value) (n:Nat) (k:Int) (ks:List Int),v=.ref a∧h.get? a=some o∧o.cls=.type "tuple"∧o.data=.seq us.toArray n∧Vals ((k :: ks).map V.int) us
theorem IntTup.keep {h h':Heap} {v:Value} (x:IntTup h v) (k:∀ b o,h.get? b=some o→h'.get? b=some o):IntTup h' v:=by
 obtain ⟨a,o,us,n,i,ks,e,h1,h2⟩:=x
 exact ⟨a,o,us,n,i,ks,e,k _ _ h1,h2⟩
section
variable {prog:Program} {w:World} {A:Around} {E:Value→Shared→Prop} {s:Shared} {vs:List Value}
theorem a8o {h:Heap}:∀ {vs:List Value},(∀ v∈vs,IntTup h v)→∃ fs:List Value,KatTups h vs fs∧fs.length=vs.length∧∀ f∈fs,∃ k t,f=.int k t
 | [],_=>⟨[],trivial,rfl,by simp⟩
 | v :: vs,hv=>by
  obtain ⟨a,o,us,n,k,ks,rfl,h1,h2,h3,h4⟩:=hv v (by simp)
  obtain ⟨fs,g1,g2,g3⟩:=a8o fun x hx=>hv x (List.mem_cons_of_mem _ hx)
  cases h4 with
  | @cons _ u _ us' r1 h4 =>
  obtain ⟨t1,rfl⟩:=r1
  exact ⟨.int k t1 :: fs,KatTups.cons h1 h2 h3 (by simp) g1,by simp [g2],fun f hf=>by
   rcases List.mem_cons.mp hf with rfl | hf
   ·exact ⟨_,_,rfl⟩
   ·exact g3 f hf⟩
end
end Kq
end
section
namespace Kq
open PySem PySem.Spec PyProof.Rows L2
noncomputable def a2k:List FV→Bool
 | []=>true
 | .tup ps :: r=>(match a0r ps with | some (_ :: _)=>true | _=>false) && a2k r
 | _=>false
noncomputable def d7g (a:EW):EW:=fun L Q=>a L fun v L1=>wp (a1v v) fun xs=>a2k xs=true∧2≤xs.length∧xs.length < 64∧∀ ys:List FV,ys.Perm xs→Q (.lst ys) L1
theorem Vals.perm {us us':List Value} (p:us'.Perm us):∀ {ys:List V},Vals ys us→∃ zs,zs.Perm ys∧Vals zs us':=by
 induction p with
 | nil=>intro ys h; exact ⟨ys,.refl _,h⟩
 | cons x p ih =>
  intro ys h
  cases h with
  | @cons y _ ys' _ r h =>
  obtain ⟨zs,e,g⟩:=ih h
  exact ⟨y :: zs,e.cons y,.cons r g⟩
 | swap x y l =>
  intro ys h
  cases h with
  | @cons a _ ys' _ r h =>
  cases h with
  | @cons b _ ys'' _ r' h =>
  exact ⟨b :: a :: ys'',.swap a b ys'',.cons r' (.cons r h)⟩
 | trans p q ih1 ih2 =>
  intro ys h
  obtain ⟨zs,e,g⟩:=ih2 h
  obtain ⟨ws,e',g'⟩:=ih1 g
  exact ⟨ws,e'.trans e,g'⟩
section
variable {K:Γd} {S:Hp}
theorem RVs.perm {vs vs':List V} (p:vs'.Perm vs):∀ {ps:List FV},RVs K S ps vs→∃ qs,qs.Perm ps∧RVs K S qs vs':=by
 induction p with
 | nil=>intro ps h; exact ⟨ps,.refl _,h⟩
 | cons x p ih =>
  intro ps h
  cases ps with
  | nil=>cases h
  | cons q ps =>
   obtain ⟨v,r,e,h1,h2⟩:=h
   cases e
   obtain ⟨zs,e,g⟩:=ih h2
   exact ⟨q :: zs,e.cons q,_,_,rfl,h1,g⟩
 | swap x y l =>
  intro ps h
  cases ps with
  | nil=>cases h
  | cons a ps =>
   obtain ⟨v,r,e,h1,h2⟩:=h
   cases e
   cases ps with
   | nil=>cases h2
   | cons b ps =>
    obtain ⟨v2,r2,e2,h3,h4⟩:=h2
    cases e2
    exact ⟨b :: a :: ps,.swap a b ps,_,_,rfl,h3,_,_,rfl,h1,h4⟩
 | trans p q ih1 ih2 =>
  intro ps h
  obtain ⟨zs,e,g⟩:=ih2 h
  obtain ⟨ws,e',g'⟩:=ih1 g
  exact ⟨ws,e'.trans e,g'⟩
end
section
variable {X:Cx}
end
section
variable {X:Cx} {C:CC} {n:Nat} {sp:Γd→Nat→Sp} {a:Expr} {ea:EW} {pos p:Pos}
end
theorem b9p (ks:List Int) (us:List V) (k:Int) (u:V) (hl:ks.length=us.length):a4b ((a3q ks).zip us) (Sum.inl k) u=(a3q (a2h ks us k u).1).zip (a2h ks us k u).2:=by
 have hany:(((a3q ks).zip us).any fun kv=>decide (kv.1=Sum.inl k))=true↔k∈ks:=by
  rw [a5s,a5v,a1y k hl]
 unfold a4b a2h
 by_cases e:k∈ks
 ·rw [if_pos (hany.mpr e),if_pos e]
  clear e hany
  induction ks generalizing us with
  | nil=>cases us <;> rfl
  | cons k' ks ih=>cases us with
   | nil=>rfl
   | cons u' us =>
    have:=ih us (by simpa using hl)
    show (if (Sum.inl k':Int ⊕ Str)=Sum.inl k then (Sum.inl k',u) else (Sum.inl k',u')) :: ((a3q ks).zip us).map _=(Sum.inl k',if k'=k then u else u') :: (a3q ks).zip _
    rw [this]
    congr 1
    by_cases e:k'=k
    ·subst e; simp
    ·rw [if_neg fun z=>e (Sum.inl.inj z),if_neg e]
 ·rw [if_neg fun z=>e (hany.mp z),if_neg e]
  show _=(a3q (ks++[k])).zip (us++[u])
  have:a3q (ks++[k])=a3q ks++[Sum.inl k]:=by simp [a3q]
  rw [this,List.zip_append (by simpa [a3q] using hl)]; rfl
theorem b7c {κ α β:Type} [DecidableEq κ] {ks:List κ} {vs:List α} {us:List β} {k:κ} (h1:ks.length=vs.length) (h2:ks.length=us.length) (h:a2t ks vs k=none):a2t ks us k=none:=by
 have a:=a1y (α:=α) k h1
 have b:=a1y (α:=β) k h2
 cases e:a2t ks us k with
 | none=>rfl
 | some u =>
  rw [e] at b
  have:=a.mpr (b.mp rfl)
  rw [h] at this; cases this
noncomputable def d7n (v w:FV):Option (Option FV):=match v with
 | .dct ks vs=>(a7c w).bind fun ps=>(a0r ps).bind fun k=>some (a2t ks vs k)
 | .dci ks vs=>(a5b w).bind fun k=>some (a2t ks vs k)
 | .dcz _ ks vs=>(a7c w).bind fun ps=>(a0r ps).bind fun k=>some (a2t ks vs k)
 | _=>none
noncomputable def dgF (v w:FV):Option FV:=(d7n v w).bind id
noncomputable def dget1F (v w:FV):Option FV:=(d7n v w).map fun o=>o.getD .non
noncomputable def isDF:FV→Option Unit
 | .dct _ _=>some ()
 | .dci _ _=>some ()
 | _=>none
noncomputable def c0z (v j x:FV):Option FV:=match v with
 | .dct ks vs=>(a7c j).bind fun ps=>(a0r ps).bind fun k=>if ks.length < big then some (.dct (a2h ks vs k x).1 (a2h ks vs k x).2) else none
 | .dci ks vs=>(a5b j).bind fun k=>if ks.length < big then some (.dci (a2h ks vs k x).1 (a2h ks vs k x).2) else none
 | _=>none
noncomputable def RO (K:Γd) (S:Hp):Option FV→Option V→Prop
 | none,o=>o=none
 | some p,o=>∃ u,o=some u∧RV K S p u
section
variable {X:Cx} {K:Γd} {S H:Hp}
theorem b5k {κ:Type} [DecidableEq κ] {ks:List κ} {vs:List FV} {us:List V} {k:κ} (h1:ks.length=vs.length) (r:RVs K S vs us):RO K S (a2t ks vs k) (a2t ks us k):=by
 cases e:a2t ks vs k with
 | none=>exact b7c h1 (by rw [h1,r.length]) e
 | some p=>exact a5w r e
theorem RH.dcz {o:Obj} {ks:List (List Int)} {vs:List FV} {x:V} (hs:Same S H) (r:RH K S H (.dcz o ks vs) x):∃ a us,x=.ref a∧ks.length=vs.length∧H a=some (.frz o (.dT ((a1a ks).zip us)))∧RVs K S vs us:=by
 rcases r with ⟨a,xs,e,h0,h1,h2⟩ | ⟨a,e,_,qs,xs,e2,h1,h2⟩
 ·exact ⟨a,xs,e,h0,hs _ _ h1,h2⟩
 ·obtain ⟨hl,rfl⟩:=itd e2
  exact ⟨a,xs,e,hl,h1,h2⟩
theorem c5u {v w:FV} {x y:V} {o:Option FV} (hs:Same S H) (rv:RH K S H v x) (rw':RH K S H w y) (e:d7n v w=some o):∃ a o',x=.ref a∧L2.DGet H a y o'∧RO K S o o':=by
 cases v with
 | dct ks vs =>
  obtain ⟨ps,e1,e2⟩:=bnd e
  obtain ⟨k,e3,e4⟩:=bnd e2
  cases a1q e1
  cases e4
  obtain ⟨a,us,rfl,hl,h1,h2⟩:=rv.dct hs
  obtain ⟨b,rfl,hb⟩:=a7i (rw'.val rfl) e3
  refine ⟨a,a2t ks us k,rfl,?_,b5k hl h2⟩
  rw [← a6l]
  exact .t h1 (hs _ _ hb)
 | dci ks vs =>
  obtain ⟨k,e3,e4⟩:=bnd e
  cases a1d e3
  cases e4
  cases rw'.int
  obtain ⟨a,us,rfl,hl,h1,h2⟩:=rv.dci hs
  refine ⟨a,a2t ks us k,rfl,?_,b5k hl h2⟩
  rw [← a5v]
  exact .k (k:=Sum.inl k) h1
 | dcz o ks vs =>
  obtain ⟨ps,e1,e2⟩:=bnd e
  obtain ⟨k,e3,e4⟩:=bnd e2
  cases a1q e1
  cases e4
  obtain ⟨a,us,rfl,hl,h1,h2⟩:=rv.dcz hs
  obtain ⟨b,rfl,hb⟩:=a7i (rw'.val rfl) e3
  refine ⟨a,a2t ks us k,rfl,?_,b5k hl h2⟩
  rw [← a6l]
  exact .inr ⟨_,_,b,.inr ⟨o,h1⟩,rfl,hs _ _ hb,rfl⟩
 | _=>cases e
end
noncomputable def b9k (k:Nat) (i e:EW):SW:=fun L Q=>wp (lk L k) fun _=>e L fun x L1=>i L1 fun j L2=>wp (lk L2 k) fun y=>wp (c0z y j x) fun z=>Q .next (L2.set k (some z))
section
variable {K:Γd} {c:Cn} {md:Md} {L:a0d} {σ:L2.St} {S H:Hp}
theorem Iv.writeV (I:Iv K c md L σ S H) {i:Nat} {v w:FV} {a:Addr} {ps:List FV} {xs:List V} (m:a0u md i=.own) (e:L[i]?=some (some v)) (e1:σ[i]?=some (some (.ref a))) (hw:d1g w=some ps) (r:RVs K S ps xs) :
  Iv K c md (L.set i (some w)) σ S (upd H a (d1h w xs)):=by
 obtain ⟨a',e1',⟨h1,_⟩,_⟩:=I.own i v (fun z=>by rw [m] at z; cases z) e
 rw [e1] at e1'; cases e1'
 exact I.back m e e1 (Same.refl S) (fun b o z=>by rw [a0e fun y=>by subst y; rw [h1] at z; cases z]; exact I.sub b o z) (fun b o z=>.inl z) (fun b o z n=>by rw [a0e n]; exact z) ⟨h1,ps,xs,hw,a0f,r⟩
theorem c0y {i:Nat} {v j x z:FV} {a:Addr} {y u:V} (I:Iv K c md L σ S H) (m:a0u md i=.own) (e:L[i]?=some (some v)) (e1:σ[i]?=some (some (.ref a))) (rj:RV K S j y) (rx:RV K S x u) (h:c0z v j x=some z):∃ H',L2.DPut H a y u H'∧Iv K c md (L.set i (some z)) σ S H':=by
 obtain ⟨a',f1,⟨o1,ps,us,e9,o2,o3⟩,_⟩:=I.own i v (fun z=>by rw [m] at z; cases z) e
 rw [e1] at f1; cases f1
 have hbl:=a1m
 cases v with
 | dct ks vs =>
  obtain ⟨qs,g1,h⟩:=bnd h
  obtain ⟨k,g2,h⟩:=bnd h
  obtain ⟨hb,rfl⟩:=itd h
  obtain ⟨hl,rfl⟩:=itd e9
  cases a1q g1
  obtain ⟨b,rfl,hkb⟩:=a7i rj g2
  have hu:ks.length=us.length:=by rw [hl,o3.length]
  obtain ⟨p1,p2⟩:=a5u (ks:=ks) (k:=k) o3 rx
  refine ⟨_,.t o2 (I.sub _ _ hkb) (by simp [a1a]; lia),?_⟩
  rw [b0u ks us k u hu,← p1]
  exact I.writeV (w:=.dct _ _) m e e1 (if_pos (a4i ks _ k x hl).1) p2
 | dci ks vs =>
  obtain ⟨k,g2,h⟩:=bnd h
  obtain ⟨hb,rfl⟩:=itd h
  obtain ⟨hl,rfl⟩:=itd e9
  cases a1d g2
  cases (show y=V.int k from rj)
  have hu:ks.length=us.length:=by rw [hl,o3.length]
  obtain ⟨p1,p2⟩:=a5u (ks:=ks) (k:=k) o3 rx
  refine ⟨_,.k (k:=Sum.inl k) o2 (by simp [a3q]; lia),?_⟩
  rw [b9p ks us k u hu,← p1]
  exact I.writeV (w:=.dci _ _) m e e1 (if_pos (a4i ks _ k x hl).1) p2
 | _=>cases h
end
section
variable {X:Cx} {C:CC} {n:Nat} {sp:Γd→Nat→Sp} {fr:Bool} {a b:Expr} {ea eb:EW} {pos p px:Pos} {i:Nat} {nx:Str}
theorem d1t:FF X C (.Dict [] [] pos) (eC (.dct [] [])):=PE.imp b9z fun σ H Q ⟨c,L,S,Q0,I,h,k⟩=>fun p hp=>k _ L h p S _ ⟨I.sn hp,[],[],rfl,a0f,rfl⟩ (I.fresh hp) (I.lay hp _) (Same.refl S)
theorem d5y (G:Good X C n sp) (hg:C.gl (Γe "dict")=true) (hs:a0k a=false) (ha:FR X C a ea):FF X C (.Call (.Name (Γe "dict") p) [a] [] pos) (eUn b7r ea) :=
 PE.imp (a4j (c2n G.calm G.room.units) (G.gl hg) (G.blt "dict" (by decide)) (by nofun) (a0p ha a1p (a0c hs)) (by nofun) (by nofun) (a0c hs) rfl) fun σ H Q ⟨c,L,S,Q0,I,h,k⟩ =>
 ⟨c,L,S,_,I,h,fun v L1 hv x S1 H1 r1 I1 s1=>by
  obtain ⟨z,e,q⟩:=wpx hv
  obtain ⟨xs,e1,e2⟩:=bnd e
  obtain ⟨ps,e3,e4⟩:=bnd e2
  cases e4
  obtain ⟨a,ys,rfl,hq,ry⟩:=r1.list I1.sub e1
  obtain ⟨qs,g1,g2,g3⟩:=a6e ry e3
  have hp:a7p H1 ys (qs.map fun q=>(q.1.map Sum.inl,q.2)):=Paired.mapP g1 fun _ _ ⟨b,kb,f1,f2,f3⟩=>⟨b,kb,f1,I1.sub _ _ f2,I1.sub _ _ f3⟩
  refine ⟨a,ys,_,rfl,hq,hp,fun p hp0=>?_⟩
  have ev:=a5f qs [] [] rfl
  obtain ⟨h1,h2⟩:=a5g (ks:=[]) (vs:=[]) (us:=[]) g2 g3 (show RVs X.K S1 [] [] from rfl)
  rw [show (a1a []).zip ([]:List V)=[] from rfl] at ev
  rw [ev]
  exact k _ L1 q p S1 _ ⟨I1.sn hp0,_,_,if_pos (a5i ps [] [] rfl),by rw [h1]; exact a0f,h2⟩ (I1.fresh hp0) (I1.lay hp0 _) s1⟩
theorem fe_dgN (G:Good X C n sp) (hs:a3y b=false) (h:C.nm i nx=true) (hb:FR X C b eb):FE X C (.Subscript (.Name nx p) b pos) (a6z dgF i eb):=PE.imp (b0w (X:=X.nox) (by have:=G.room.units; show X.A.units + 1 < cLine; lia) (a1u G h) hb (a8f hs)) fun σ H Q ⟨c,L,S,Q0,I,h,k⟩=>by
 obtain ⟨v0,e,h⟩:=wpx h
 obtain ⟨x,e1,_⟩:=I.rd e
 refine ⟨x,e1,c,L,S,_,I,h,fun w L2 hw y S2 H2 r2 I2 s2=>?_⟩
 obtain ⟨v,e2,q⟩:=wpx hw
 obtain ⟨x',e3,r1⟩:=I2.rd e2
 rw [e1] at e3; cases e3
 obtain ⟨z,e4,q⟩:=wpx q
 obtain ⟨o,e5,e6⟩:=bnd e4
 obtain ⟨a,o',rfl,g,ro⟩:=c5u I2.sub r1 r2 e5
 cases (show o=some z from e6)
 obtain ⟨u,rfl,r5⟩:=ro
 exact ⟨a,u,rfl,g,k z L2 q u S2 H2 r5 I2 s2⟩
theorem d5m (G:Good X C n sp) (hn:C.nm i nx=true) (m:a0u C.md i=.own) (hc:(!a7k a && !a3y b)=true) (ha:FE X C a ea) (hb:FE X C b eb):FS X C fr (.Assign [.Subscript (.Name nx px) b p] a pos) (b9k i eb ea):=by
 have hc:=b2 hc
 refine PS.imp (c3z (X:=X.nox) (by have:=G.room.units; show X.A.units + 1 < cLine; lia) (a1u (pos:=px) G hn) hb ha (a4f (nb hc.1))) fun D σ H ⟨c,L,S,Q0,I,h,k⟩=>?_
 have mi:a0u C.md i≠.imm:=fun z=>by rw [m] at z; cases z
 obtain ⟨v0,e,h⟩:=wpx h
 obtain ⟨l,e1,_⟩:=I.own i v0 mi ((a2y _ _ _).mp e)
 refine ⟨c,L,S,_,I,h,fun v L1 q x S1 H1 r1 I1 s1=>⟨_,e1,c,L1,S1,_,I1,q,fun w L2 q y S2 H2 r2 I2 s2=>?_⟩⟩
 obtain ⟨v1,e2,q2⟩:=wpx q
 obtain ⟨z,e3,q3⟩:=wpx q2
 have e2:=(a2y _ _ _).mp e2
 obtain ⟨H3,g,I3⟩:=c0y I2 m e2 e1 r2 (r1.mono s2) e3
 exact ⟨l,H3,rfl,g,k .next _ q3 σ S2 _ I3 (s1.trans s2)⟩
end
section
variable (Q:FV→Prop) (i:Nat) (L:a0d)
@[scoped simp ↓] theorem d1f (k:Nat) (i e:EW) (Q:FFl→a0d→Prop):b9k k i e L Q=(wp (lk L k) fun _=>e L fun x L1=>i L1 fun j L2=>wp (lk L2 k) fun y=>wp (c0z y j x) fun z=>Q .next (L2.set k (some z))):=propext Iff.rfl
@[scoped simp ↓] theorem k_dgt (ks:List (List Int)) (vs ps:List FV):wp (dgF (.dct ks vs) (.tup ps)) Q↔wp (a0r ps) fun k=>wp (a2t ks vs k) Q:=by
 show wp (((a0r ps).bind fun k=>some (a2t ks vs k)).bind id) Q↔_; rw [a1i,a1i]; rfl
@[scoped simp ↓] theorem k_dgz (o:Obj) (ks:List (List Int)) (vs ps:List FV):wp (dgF (.dcz o ks vs) (.tup ps)) Q↔wp (a0r ps) fun k=>wp (a2t ks vs k) Q:=by
 show wp (((a0r ps).bind _).bind _) Q↔_
 rw [a1i,a1i]; rfl
@[scoped simp ↓] theorem d4v (ks:List (List Int)) (vs ps:List FV) (x:FV):wp (c0z (.dct ks vs) (.tup ps) x) Q↔wp (a0r ps) fun k=>ks.length < big∧Q (.dct (a2h ks vs k x).1 (a2h ks vs k x).2):=by
 show wp ((a0r ps).bind _) Q↔_; rw [a1i]; simp only [a3c]
end
section
variable {P:Program} {w:World} {A:Around} {E:Value→Shared→Prop} {s:Shared}
end
section
variable {X:Cx}
end
noncomputable def eSortI (a:EW):EW:=fun L Q=>a L fun v L1=>wp (a1v v) fun xs=>wp (a0r xs) fun ns=>ns.length < 64∧∀ ms:List Int,ms.Perm ns→ms.Pairwise (·≤·)→Q (.lst (ms.map .int)) L1
section
variable {X:Cx} {C:CC} {n:Nat} {sp:Γd→Nat→Sp} {a:Expr} {ea:EW} {pos p:Pos}
end
section
variable {X:Cx}
end
section
variable {X:Cx} {C:CC} {n:Nat} {sp:Γd→Nat→Sp} {a:Expr} {ea:EW} {pos p:Pos}
end
end Kq
end
section
namespace L2
open PySem PySem.Spec PyProof.Rows
noncomputable def ZSt (p q:Bool) (z TI TO i1 i2 a b:Addr) (i:Nat) (h:Heap):Prop:=(∃ f m,(f=.none ∨ ∃ n,f=.int n 0)∧(∃ c,m=.bool c)∧a1h h z TI TO f m)∧IsPair h TI (.ref i1) (.ref i2)∧(∃ c d,IsPair h TO c d)∧IterB p h i1 a i∧IterB q h i2 b i
theorem ZSt.keep {p q:Bool} {z TI TO i1 i2 a b:Addr} {i:Nat} {h h':Heap} (st:ZSt p q z TI TO i1 i2 a b i h) (kk:∀ c∈[z,TO,i1,i2,TI],∀ o,h.get? c=some o→h'.get? c=some o):ZSt p q z TI TO i1 i2 a b i h':=by
 obtain ⟨⟨f,m,hf0,hm0,zz⟩,zi,⟨x,y,zo⟩,t1,t2⟩:=st
 exact ⟨⟨f,m,hf0,hm0,kk z (by simp) _ zz⟩,kk TI (by simp) _ zi,⟨x,y,kk TO (by simp) _ zo⟩,t1.to fun o e=>kk i1 (by simp) o e,t2.to fun o e=>kk i2 (by simp) o e⟩
section
variable {X:Cx} {pins:List (Addr×Obj)} {σ:St} {A:Around} {R:Result→Shared→Prop}
end
end L2
end
section
namespace L2
open PySem PySem.Spec PyProof.Rows
section
variable {X:Cx} {pins:List (Addr×Obj)} {σ:St}
variable {e1 e2:Expr} {ta:TA} {pp p2 pos pos2:Pos}
end
end L2
end
section
namespace Kq
open PySem PySem.Spec PyProof.Rows L2
section
variable {X:Cx} {C:CC} {n:Nat} {sp:Γd→Nat→Sp} {a b:Expr} {ea eb:EW} {p p2 pos pos2:Pos}
end
noncomputable def inW (tg:Tg) (t:BW) (e:EW):List FV→List FV→a0d→(List FV→a0d→Prop)→Prop
 | [],acc,L,Q=>Q acc L
 | y :: r,acc,L,Q=>gW tg y L fun L1=>t L1 fun b L2=>if b=true then e L2 fun v L3=>inW tg t e r (acc++[v]) L3 Q else inW tg t e r acc L2 Q
noncomputable def b8i (n m:Nat) (tg:Tg) (t:BW) (it2:AW) (tg2:Tg) (t2:BW) (e:EW):List FV→List FV→a0d→(List FV→a0d→Prop)→Prop
 | [],acc,L,Q=>Q acc L
 | x :: xs,acc,L,Q=>gW tg x (L++List.replicate m none) fun L1=>t L1 fun b L2=>if b=true then it2 L2 fun ys L3=>acc.length + ys.length≤big∧inW tg2 t2 e ys acc L3 fun acc' L4=>b8i n m tg t it2 tg2 t2 e xs acc' (L4.take n) Q else b8i n m tg t it2 tg2 t2 e xs acc (L2.take n) Q
noncomputable def eComp2 (n m:Nat) (it:AW) (tg:Tg) (t:BW) (it2:AW) (tg2:Tg) (t2:BW) (e:EW):EW:=fun L Q=>it L fun xs L1=>L1.length=n∧b8i n m tg t it2 tg2 t2 e xs [] L1 fun ys L2=>Q (.lst ys) L2
noncomputable def liv (K:Γd) (md:Md) (it:AW):TI:=fun σ H R=>∃ c L S Q0,Iv K c md L σ S H∧it L Q0∧∀ xs L',Q0 xs L'→∀ J S' H',Iv K c md L' σ S' H'→(∀ c md,ItR K c md J xs S')→Same S S'→R J H'
noncomputable def FIv (X:Cx) (C:CC) (tg iter:Expr) (it:AW):Prop:=PI X.nox tg iter (liv X.K C.md it)
section
variable {X:Cx} {C:CC} {n:Nat} {sp:Γd→Nat→Sp} {a b tg:Expr} {ea eb:EW} {pos p:Pos}
end
section
variable {K:Γd} {c:Cn} {md:Md} {L:a0d} {σ:L2.St} {S H:Hp}
end
section
variable {X:Cx} {C:CC} {n:Nat} {sp:Γd→Nat→Sp} {pos p px:Pos} {i:Nat} {nx:Str} {fr:Bool}
variable {scope:Scope} {own:List Str} {elt tgx iter tgx2 iter2:Expr} {ifs ifs2:List Expr} {it it2:AW} {tg tg2:Tg} {t t2:BW} {e:EW} {nn m:Nat} {md':Md}
structure CompOk2 (X:Cx) (C:CC) (n:Nat) (sp:Γd→Nat→Sp) (scope:Scope) (own:List Str) (elt tgx iter:Expr) (ifs:List Expr) (tgx2 iter2:Expr) (ifs2:List Expr) (nn m:Nat) (md':Md) (it:AW) (tg:Tg) (t:BW) (it2:AW) (tg2:Tg) (t2:BW) (e:EW):Prop where
 st:(C.scOk scope own && decide (C.N.length=nn) && decide (own.length=m) && decide (md'.length≤nn) && c9g C.md md' && a5d md' tg && b3p nn tg && !b6x iter)=true
 st2:(a5d md' tg2 && b3p nn tg2 && !b6x iter2)=true
 it:FI X C md' tgx iter it
 tg:∀ X',Good X' (C.sub scope own md') n sp→FG X' tgx tg
 ts:∀ X',Good X' (C.sub scope own md') n sp→FTs X' (C.sub scope own md') ifs t
 it2:∀ X',Good X' (C.sub scope own md') n sp→FIv X' (C.sub scope own md') tgx2 iter2 it2
 tg2:∀ X',Good X' (C.sub scope own md') n sp→FG X' tgx2 tg2
 ts2:∀ X',Good X' (C.sub scope own md') n sp→FTs X' (C.sub scope own md') ifs2 t2
 el:∀ X',Good X' (C.sub scope own md') n sp→FE X' (C.sub scope own md') elt e
end
noncomputable def ePop (i:Nat):EW:=fun L Q=>wp (lk L i) fun v=>wp (a7g v) fun xs=>wp (xs[xs.length - 1]?) fun y=>Q y (L.set i (some (.lst xs.dropLast)))
noncomputable def popI (xs:List FV) (k:Int):Option FV:=if 0≤k∧k < 4611686018427387904 then xs[k.toNat]? else none
noncomputable def ePopAt (i:Nat) (a:EW):EW:=fun L Q=>wp (lk L i) fun v=>wp (a7g v) fun _=>a L fun w L1=>wp (a5b w) fun k=>wp (lk L1 i) fun x=>wp (a7g x) fun xs=>wp (popI xs k) fun y=>Q y (L1.set i (some (.lst (xs.eraseIdx k.toNat))))
section
variable {K:Γd} {S:Hp}
theorem RVs.erase {ps:List FV} {vs:List V} (k:Nat) (h:RVs K S ps vs):RVs K S (ps.eraseIdx k) (vs.eraseIdx k):=by
 rw [List.eraseIdx_eq_take_drop_succ,List.eraseIdx_eq_take_drop_succ]
 exact (h.take k).append (h.drop (k + 1))
end
section
variable {X:Cx} {C:CC} {n:Nat} {sp:Γd→Nat→Sp} {a:Expr} {ea:EW} {pos p:Pos} {i:Nat} {nx:Str}
end
end Kq
end
section
namespace L2
open PySem PySem.Spec PyProof.Rows
section
variable {X:Cx} {a e k:Expr} {ta te tk:TE} {pos p2:Pos}
end
end L2
namespace Kq
open PySem PySem.Spec PyProof.Rows L2
noncomputable def turnLF (v:FV):Option FV:=(a7g v).map fun xs=>.lst xs.reverse
section
variable {X:Cx} {C:CC} {a:Expr} {ea:EW} {pos:Pos}
end
end Kq
end
section
namespace L2
open PySem PySem.Spec PyProof.Rows
section
variable {X:Cx} {pos:Pos}
end
end L2
namespace Kq
open PySem PySem.Spec PyProof.Rows L2
section
variable {X:Cx} {C:CC} {n:Nat} {sp:Γd→Nat→Sp} {a b d:Expr} {ea eb ed:EW} {pos px py pz:Pos} {i j l:Nat} {nx ny nz:Str} {fr:Bool}
end
end Kq
end
section
namespace Kq
open PySem PySem.Spec PyProof.Rows L2
noncomputable def eMv (j:Nat):EW:=fun L Q=>wp (lk L j) fun v=>Q v (L.set j none)
noncomputable def eCallT (call:CW) (f:Nat) (ea:EW) (as:AW):EW:=fun L Q=>ea L fun v L1=>as L1 fun vs L2=>call f (v :: vs) fun z=>Q z.1 L2
section
variable {X:Cx} {C:CC} {n:Nat} {sp:Γd→Nat→Sp} {a b:Expr} {ea eb:EW} {pos p:Pos} {call:CW}
variable {K:Γd} {c:Cn} {md:Md} {L:a0d} {σ:L2.St} {S H S' H':Hp} {i j f:Nat} {nx:Str} {xs:List Expr} {as:AW}
theorem a3k {L:a0d} {j i:Nat} {v:FV} (z:(L.set j none)[i]?=some (some v)):i≠j∧L[i]?=some (some v):=by
 by_cases q:i=j
 ·subst q
  have hj:i < L.length:=by have:=(List.getElem?_eq_some_iff.mp z).1; rwa [List.length_set] at this
  rw [List.getElem?_set_self hj] at z; cases z
 ·rw [List.getElem?_set_ne (Ne.symm q)] at z; exact ⟨q,z⟩
theorem Iv.drop (I:Iv K c md L σ S H) (hm:a0u md j=.own) (hj:j≠0):Iv K c md (L.set j none) σ S H where
 len:=by rw [List.length_set]; exact I.len
 imm:=fun i v h e=>I.imm i v h (a3k e).2
 own:=fun i v h e=>I.own i v h (a3k e).2
 dis:=fun i k v w a h1 h2 e1 e2=>I.dis i k v w a h1 h2 (a3k e1).2 (a3k e2).2
 sub:=I.sub
 frame:=I.frame
 s0:=I.s0
 grow:=I.grow
 lent:=fun a h=>by
  obtain ⟨g1,g2,g3⟩:=I.lent a h
  rw [List.getElem?_set_ne hj]; exact ⟨g1,g2,g3⟩
 fzs:=fun p hp=>by
  obtain ⟨g1,g2,g3⟩:=I.fzs p hp
  have:p.1≠j:=fun z=>by rw [z,hm] at g1; cases g1
  rw [List.getElem?_set_ne (Ne.symm this)]; exact ⟨g1,g2,g3⟩
 fzm:=fun i v h e=>I.fzm i v h (a3k e).2
 fzp:=I.fzp
 prs:=fun p hp=>let ⟨g1,g2,g3⟩:=I.prs p hp; ⟨g1,g2,fun i v h e=>g3 i v h (a3k e).2⟩
 ntp:=I.ntp
end
noncomputable def sFrz (j:Nat) (r:SW):SW:=fun L Q=>wp (lk L j) fun _=>r L fun fl L'=>Q fl (L'.set j none)
section
variable {X:Cx} {C:CC} {n:Nat} {sp:Γd→Nat→Sp} {fr:Bool} {sts:List Stmt} {r:SW}
variable {K:Γd} {c:Cn} {md md':Md} {L:a0d} {σ:L2.St} {S H:Hp} {j:Nat}
end
end Kq
end
set_option maxHeartbeats 1000000
set_option maxHeartbeats 4000000
section
namespace Kq
open PySem PySem.Spec PyProof.Rows L2 PySem.W
noncomputable def gA (a:Array Keyed) (i:Nat):Keyed:=a.getD i (.none,.none)
theorem a3i {a:Array Keyed} {i:Nat} (h:i < a.size):a[i]?=some (gA a i):=by
 simp [gA,Array.getD_eq_getD_getElem?,getElem?_pos a i h]
theorem a2z {a b:Array Keyed} {i j:Nat} (h:a[i]?=b[j]?):gA a i=gA b j:=by
 simp only [gA,Array.getD_eq_getD_getElem?,h]
structure Cmp (prog:Program) (w:World) (A:Around) (E:Value→Shared→Prop) (s:Shared) (kd:SortKind) (Ok:Keyed→Prop) (lt:Keyed→Keyed→Bool):Prop where
 run:∀ x y,Ok x→Ok y→∀ (st:SortSt) (Q:Option Bool→SortSt→Prop),kindOf st=kd→Q (some (lt x y)) st→wpS (model prog w) A E s (lt' x y) Q st
 refl:∀ x,lt x x=false
 trans:∀ x y z,lt y x=false→lt z y=false→lt z x=false
 asym:∀ x y,lt x y=true→lt y x=false
noncomputable def Srt (lt:Keyed→Keyed→Bool) (a:Array Keyed) (lo hi:Nat):Prop:=∀ i j,lo≤i→i≤j→j < hi→lt (gA a j) (gA a i)=false
noncomputable def Dsc (lt:Keyed→Keyed→Bool) (a:Array Keyed) (lo hi:Nat):Prop:=∀ i j,lo≤i→i≤j→j < hi→lt (gA a i) (gA a j)=false
noncomputable def Out (a b:Array Keyed) (lo hi:Nat):Prop:=b.Perm a∧∀ k,k < lo ∨ hi≤k→gA b k=gA a k
theorem Out.refl (a:Array Keyed) (lo hi:Nat):Out a a lo hi:=⟨Array.Perm.refl _,fun _ _=>rfl⟩
theorem Out.trans {a b c:Array Keyed} {lo hi:Nat} (h:Out a b lo hi) (g:Out b c lo hi):Out a c lo hi:=⟨g.1.trans h.1,fun k hk=>(g.2 k hk).trans (h.2 k hk)⟩
theorem Out.size {a b:Array Keyed} {lo hi:Nat} (h:Out a b lo hi):b.size=a.size:=h.1.size_eq
theorem Out.wide {a b:Array Keyed} {lo hi lo' hi':Nat} (h:Out a b lo hi) (h1:lo'≤lo) (h2:hi≤hi'):Out a b lo' hi':=⟨h.1,fun k hk=>h.2 k (by lia)⟩
noncomputable def AllOk (Ok:Keyed→Prop) (a:Array Keyed):Prop:=∀ x∈a.toList,Ok x
theorem AllOk.at {Ok:Keyed→Prop} {a:Array Keyed} (h:AllOk Ok a) {i:Nat} (hi:i < a.size):Ok (gA a i):=by
 refine h _ ?_
 have:=a3i hi
 rw [← Array.getElem?_toList] at this
 exact List.mem_of_getElem? this
theorem AllOk.perm {Ok:Keyed→Prop} {a b:Array Keyed} (h:AllOk Ok a) (p:b.Perm a):AllOk Ok b:=fun x hx=>h x ((Array.perm_iff_toList_perm.mp p).mem_iff.mp hx)
theorem Srt.out {lt:Keyed→Keyed→Bool} {a b:Array Keyed} {lo hi l h:Nat} (s:Srt lt a l h) (o:Out a b lo hi) (d:h≤lo ∨ hi≤l):Srt lt b l h:=fun i j h1 h2 h3=>by
 rw [o.2 i (by lia),o.2 j (by lia)]; exact s i j h1 h2 h3
theorem a4r {a:Array Keyed} {i j:Nat} (hj:j≤a.size) (k:Nat):gA (mirror a i j ((j - i) / 2)) k=if i≤k∧k < j then gA a (i + j - 1 - k) else gA a k:=by
 have e:=getElem?_mirror_all (i:=i) hj k
 split
 ·rename_i h; rw [if_pos h] at e; exact a2z e
 ·rename_i h; rw [if_neg h] at e; exact a2z e
theorem a2r {a:Array Keyed} {i j:Nat} (hj:j≤a.size):Out a (mirror a i j ((j - i) / 2)) i j:=⟨mirror_perm _ _ _ _,fun k hk=>by rw [a4r hj,if_neg (by lia)]⟩
section
variable {prog:Program} {w:World} {A:Around} {E:Value→Shared→Prop} {s:Shared} {kd:SortKind} {Ok:Keyed→Prop} {lt:Keyed→Keyed→Bool}
abbrev stA (kd:SortKind) (a:Array Keyed) (p:Array (Nat×Nat×Nat)) (g:Nat):SortSt:=SortSt.mk' kd a p g none
theorem ask (C:Cmp prog w A E s kd Ok lt) {a:Array Keyed} {p:Array (Nat×Nat×Nat)} {g i j:Nat} {Q:Option Bool→SortSt→Prop} (ho:AllOk Ok a) (hi:i < a.size) (hj:j < a.size) (h:Q (some (lt (gA a i) (gA a j))) (stA kd a p g)):wpS (model prog w) A E s (ltAt' i j) Q (stA kd a p g):=by
 rw [ltAt'_eq]
 refine wpS_bind (wpS_get ?_)
 show wpS _ _ _ _ (do let x ← elem' a i; let y ← elem' a j; lt' x y) Q _
 rw [elem'_eq,elem'_eq,a3i hi,a3i hj]
 exact wpS_bind (wpS_pure (wpS_bind (wpS_pure (C.run _ _ (ho.at hi) (ho.at hj) _ _ rfl h))))
theorem turned {a:Array Keyed} {p:Array (Nat×Nat×Nat)} {g i j:Nat} {Q:Unit→SortSt→Prop} (h:Q () (stA kd (mirror a i j ((j - i) / 2)) p g)):wpS (model prog w) A E s (reverseSlice' i j) Q (stA kd a p g):=by
 rw [reverseSlice'_eq]; exact wpS_modify h
theorem d4t {a:Array Keyed} {p:Array (Nat×Nat×Nat)} {g i j:Nat} {Q:Unit→SortSt→Prop} (h:Q () (stA kd (bubble a i (i - j)) p g)):wpS (model prog w) A E s (moveDown' i j) Q (stA kd a p g):=by
 rw [moveDown'_eq]; exact wpS_modify h
noncomputable def Eqv (lt:Keyed→Keyed→Bool) (a:Array Keyed) (lo hi:Nat):Prop:=∀ i j,lo≤i→i < hi→lo≤j→j < hi→lt (gA a i) (gA a j)=false
theorem a4m {a:Array Keyed} {l hi k:Nat} (hj:hi≤a.size) (hk:k < hi):∃ k',k' < hi∧gA (mirror a l hi ((hi - l) / 2)) k=gA a k'∧(k < l→k'=k)∧(l≤k→l≤k'):=by
 rw [a4r hj]
 split
 ·exact ⟨l + hi - 1 - k,by lia,rfl,by lia,by lia⟩
 ·exact ⟨k,hk,rfl,fun _=>rfl,fun h=>h⟩
theorem a5k (C:Cmp prog w A E s kd Ok lt) {a:Array Keyed} {lo l hi:Nat} (hj:hi≤a.size) (hd:Dsc lt a lo hi) (he:Eqv lt a l hi) (hl:lo≤l):Dsc lt (mirror a l hi ((hi - l) / 2)) lo hi:=by
 intro i j h1 h2 h3
 obtain ⟨i',i1,i2,i3,i4⟩:=a4m (l:=l) hj (show i < hi by lia)
 obtain ⟨j',j1,j2,j3,j4⟩:=a4m (l:=l) hj h3
 rw [i2,j2]
 by_cases hi':i < l
 ·have e:=i3 hi'
  subst e
  by_cases hj':j < l
  ·have e:=j3 hj'
   subst e
   exact hd _ _ h1 h2 h3
  ·exact hd _ _ h1 (by have:=j4 (by lia); lia) j1
 ·exact he _ _ (i4 (by lia)) i1 (j4 (by lia)) j1
theorem b3r {a:Array Keyed} {lo hi:Nat} (hj:hi≤a.size) (hd:Dsc lt a lo hi):Srt lt (mirror a lo hi ((hi - lo) / 2)) lo hi:=by
 intro i j h1 h2 h3
 rw [a4r hj,a4r hj,if_pos ⟨by lia,h3⟩,if_pos ⟨h1,by lia⟩]
 exact hd _ _ (by lia) (by lia) (by lia)
theorem b1t (C:Cmp prog w A E s kd Ok lt) {b:Array Keyed} {lo x:Nat} (hs:Srt lt b lo (lo + x)) (hx:1≤x) (hl:lt (gA b (lo + x)) (gA b (lo + x - 1))=false):Srt lt b lo (lo + (x + 1)):=by
 intro i j h1 h2 h3
 by_cases hj:j < lo + x
 ·exact hs i j h1 h2 hj
 ·have:j=lo + x:=by lia
  subst this
  by_cases hi:i=lo + x
  ·rw [hi]; exact C.refl _
  ·exact C.trans _ _ _ (hs i (lo + x - 1) h1 (by lia) (by lia)) hl
theorem a4t (C:Cmp prog w A E s kd Ok lt) {b:Array Keyed} {lo x:Nat} (hs:Dsc lt b lo (lo + x)) (hx:1≤x) (hl:lt (gA b (lo + x - 1)) (gA b (lo + x))=false):Dsc lt b lo (lo + (x + 1)):=by
 intro i j h1 h2 h3
 by_cases hj:j < lo + x
 ·exact hs i j h1 h2 hj
 ·have:j=lo + x:=by lia
  subst this
  by_cases hi:i=lo + x
  ·rw [hi]; exact C.refl _
  ·exact C.trans _ _ _ hl (hs i (lo + x - 1) h1 (by lia) (by lia))
theorem c7i (C:Cmp prog w A E s kd Ok lt) {a:Array Keyed} {p:Array (Nat×Nat×Nat)} {g lo n:Nat} {Q:Option Nat→SortSt→Prop} (ho:AllOk Ok a) (h1:1≤n) (hn:lo + n≤a.size)
  (h:∀ m b,1≤m→m≤n→Out a b lo (lo + n)→Srt lt b lo (lo + m)→Q (some m) (stA kd b p g)):wpS (model prog w) A E s (countRun' lo n) Q (stA kd a p g):=by
 rw [countRun'_eq]
 refine wpS_bind (wpS_mono (wpS_forRange (I:=fun x c st'=>st'=stA kd a p g∧c=(none,x)∧Srt lt a lo (lo + x))
  (Q:=fun c st'=>∃ m,st'=stA kd a p g∧c=(none,m)∧1≤m∧m≤n∧Srt lt a lo (lo + m)∧(m=n ∨ lt (gA a (lo + m)) (gA a (lo + m - 1))=true)) ?_ ?_ ⟨rfl,rfl,fun i j h1 h2 h3=>?_⟩) ?_)
 ·rintro x c st' hx hxn ⟨rfl,rfl,hs⟩
  dsimp only
  refine wpS_bind (ask C ho (by lia) (by lia) ?_)
  cases e:lt (gA a (lo + x)) (gA a (lo + x - 1)) with
  | true=>exact wpS_pure ⟨x,rfl,rfl,hx,by lia,hs,.inr e⟩
  | false=>exact wpS_pure ⟨rfl,rfl,b1t C hs hx e⟩
 ·rintro c st' ⟨rfl,rfl,hs⟩
  rw [show max 1 n=n by lia] at hs ⊢
  exact ⟨n,rfl,rfl,h1,Nat.le_refl _,hs,.inl rfl⟩
 ·have:i=j:=by lia
  subst this; exact C.refl _
 rintro c st' ⟨m,rfl,rfl,hm1,hmn,hs,hor⟩
 dsimp only
 by_cases hm:m=n
 ·rw [if_pos (by simpa using hm)]
  exact wpS_pure (h m a hm1 hmn (Out.refl _ _ _) hs)
 rw [if_neg (by simpa using hm)]
 have hlt:=C.asym _ _ (hor.resolve_left hm)
 have one:m=1→Dsc lt a lo (lo + (m + 1)):=fun e=>a4t C (by
  intro i j h1 h2 h3
  have:i=j:=by lia
  subst this; exact C.refl _) hm1 hlt
 have two:lt (gA a lo) (gA a (lo + m - 1))=false→Out a (mirror a lo (lo + m) ((lo + m - lo) / 2)) lo (lo + n)∧Dsc lt (mirror a lo (lo + m) ((lo + m - lo) / 2)) lo (lo + (m + 1)):=by
  intro hr
  have hall:Eqv lt a lo (lo + m):=by
   intro i j h1 h2 h3 h4
   exact C.trans _ _ _ (C.trans _ _ _ (hs j (lo + m - 1) h3 (by lia) (by lia)) hr) (hs lo i (Nat.le_refl _) h1 h2)
  have hsz:lo + m≤a.size:=by lia
  refine ⟨(a2r hsz).wide (Nat.le_refl _) (by lia),?_⟩
  refine a4t C (a5k C hsz (fun i j h1 h2 h3=>hall i j h1 (by lia) (by lia) h3) hall (Nat.le_refl _)) hm1 ?_
  rw [(a2r (i:=lo) hsz).2 (lo + m) (by lia)]
  obtain ⟨k',k1,k2,-,k4⟩:=a4m (l:=lo) hsz (show lo + m - 1 < lo + m by lia)
  rw [k2]
  exact C.trans _ _ _ hlt (hall _ _ (k4 (by lia)) k1 (by lia) (by lia))
 by_cases hgt:m > 1
 rw [if_pos hgt]
 refine wpS_bind (ask C ho (by lia) (by lia) ?_)
 rcases Bool.eq_false_or_eq_true (lt (gA a lo) (gA a (lo + m - 1))) with hr | hr
 rw [hr]
 exact wpS_pure (h m a hm1 hmn (Out.refl _ _ _) hs)
 rw [hr]
 refine wpS_bind (turned ?_)
 obtain ⟨hb,hd⟩:=two hr
 generalize mirror a lo (lo + m) ((lo + m - lo) / 2)=b at hb hd ⊢
 rotate_left
 rw [if_neg hgt]
 have hd:=one (by lia)
 have hb:=Out.refl a lo (lo + n)
 revert hb hd
 generalize hab:stA kd a p g=sa
 suffices h:∀ b,sa=stA kd b p g→Out a b lo (lo + n)→Dsc lt b lo (lo + (m + 1))→_ from fun hd hb=>h a hab.symm hb hd
 rintro b rfl hb hd
 all_goals
  clear hs hor hlt one two
  have hsz:=hb.size
  refine wpS_bind (wpS_lift (wpAny_rule ⟨rfl,?_⟩))
  refine wpS_bind (wpS_mono (wpS_forRange (I:=fun x c st'=>∃ b q,st'=stA kd b p g∧c=(none,x,q)∧Out a b lo (lo + n)∧Dsc lt b lo (lo + x)∧q + 1≤x∧Eqv lt b (lo + x - (q + 1)) (lo + x))
   (Q:=fun c st'=>∃ x b q,st'=stA kd b p g∧c=(none,x,q)∧1≤x∧x≤n∧Out a b lo (lo + n)∧Dsc lt b lo (lo + x)∧q + 1≤x∧Eqv lt b (lo + x - (q + 1)) (lo + x)) ?_ ?_ ⟨b,0,rfl,rfl,hb,hd,by lia,?_⟩) ?_)
  ·rintro x c st' hx hxn ⟨b,q,rfl,rfl,hb,hd,hq,he⟩
   have hsz:=hb.size
   have hok:=ho.perm hb.1
   dsimp only
   refine wpS_bind (ask C hok (by lia) (by lia) ?_)
   rcases Bool.eq_false_or_eq_true (lt (gA b (lo + x)) (gA b (lo + x - 1))) with hr | hr
   ·rw [hr]
    have hr':=C.asym _ _ hr
    have e0:∀ b':Array Keyed,Eqv lt b' (lo + (x + 1) - (0 + 1)) (lo + (x + 1)):=fun b' i j h1 h2 h3 h4=>by
     have:i=j:=by lia
     subst this; exact C.refl _
    simp only [if_true]
    by_cases h0:q > 0
    ·rw [if_pos h0]
     refine wpS_bind (turned (wpS_pure ?_))
     have hs2:lo + x≤b.size:=by lia
     have hom:=a2r (i:=lo + x - (q + 1)) hs2
     refine ⟨_,0,rfl,rfl,hb.trans (hom.wide (by lia) (by lia)),?_,by lia,e0 _⟩
     refine a4t C (a5k C hs2 hd he (by lia)) (by lia) ?_
     rw [hom.2 (lo + x) (by lia)]
     obtain ⟨k',k1,k2,-,k4⟩:=a4m (l:=lo + x - (q + 1)) hs2 (show lo + x - 1 < lo + x by lia)
     rw [k2]
     exact C.trans _ _ _ hr' (hd _ _ (by have:=k4 (by lia); lia) (by lia) (by lia))
    ·rw [if_neg h0]
     exact wpS_pure ⟨b,0,rfl,rfl,hb,a4t C hd (by lia) hr',by lia,e0 _⟩
   ·rw [hr]
    simp only [Bool.false_eq_true,if_false]
    refine wpS_bind (ask C hok (by lia) (by lia) ?_)
    rcases Bool.eq_false_or_eq_true (lt (gA b (lo + x - 1)) (gA b (lo + x))) with hr2 | hr2
    ·rw [hr2]
     exact wpS_pure ⟨x,b,q,rfl,rfl,by lia,by lia,hb,hd,hq,he⟩
    ·rw [hr2]
     refine wpS_pure ⟨b,q + 1,rfl,rfl,hb,a4t C hd (by lia) hr2,by lia,fun i j h1 h2 h3 h4=>?_⟩
     by_cases hi:i=lo + x
     ·by_cases hj:j=lo + x
      ·rw [hi,hj]; exact C.refl _
      ·rw [hi]
       exact C.trans _ _ _ (he (lo + x - 1) j (by lia) (by lia) (by lia) (by lia)) hr
     ·by_cases hj:j=lo + x
      ·rw [hj]
       exact C.trans _ _ _ hr2 (he i (lo + x - 1) (by lia) (by lia) (by lia) (by lia))
      ·exact he i j (by lia) (by lia) (by lia) (by lia)
  ·rintro c st' ⟨b,q,rfl,rfl,hb,hd,hq,he⟩
   rw [show max (m + 1) n=n by lia] at *
   exact ⟨n,b,q,rfl,rfl,h1,Nat.le_refl _,hb,hd,hq,he⟩
  ·intro i j h1 h2 h3 h4
   have:i=j:=by lia
   subst this; exact C.refl _
  rintro c st' ⟨x,b,q,rfl,rfl,hx1,hxn,hb,hd,hq,he⟩
  have hsz:=hb.size
  have hs2:lo + x≤b.size:=by lia
  dsimp only
  by_cases h0:q > 0
  rw [if_pos h0]
  refine wpS_bind (turned ?_)
  have hb2:=hb.trans ((a2r (i:=lo + x - (q + 1)) hs2).wide (show lo≤lo + x - (q + 1) by lia) (show lo + x≤lo + n by lia))
  have hd2:=a5k C hs2 hd he (show lo≤lo + x - (q + 1) by lia)
  clear hb hd he hsz hs2
  generalize mirror b (lo + x - (q + 1)) (lo + x) ((lo + x - (lo + x - (q + 1))) / 2)=b2 at hb2 hd2 ⊢
  rotate_left
  rw [if_neg h0]
  have hb2:=hb
  have hd2:=hd
  clear hb hd he hsz hs2
  generalize b=b2 at hb2 hd2 ⊢
  all_goals
   have hsz:=hb2.size
   have hs2:lo + x≤b2.size:=by lia
   refine wpS_bind (turned ?_)
   have hb3:=hb2.trans ((a2r (i:=lo) hs2).wide (Nat.le_refl lo) (show lo + x≤lo + n by lia))
   have hs3:=b3r hs2 hd2
   generalize mirror b2 lo (lo + x) ((lo + x - lo) / 2)=b3 at hb3 hs3 ⊢
   have hok:=ho.perm hb3.1
   have hsz3:=hb3.size
   refine wpS_bind (wpS_mono (wpS_forRange (I:=fun x c st'=>st'=stA kd b3 p g∧c=(none,x)∧Srt lt b3 lo (lo + x))
    (Q:=fun c st'=>∃ m,st'=stA kd b3 p g∧c=(none,m)∧1≤m∧m≤n∧Srt lt b3 lo (lo + m)) ?_ ?_ ⟨rfl,rfl,hs3⟩) ?_)
   ·rintro y c st' hy hyn ⟨rfl,rfl,hs⟩
    dsimp only
    refine wpS_bind (ask C hok (by lia) (by lia) ?_)
    rcases Bool.eq_false_or_eq_true (lt (gA b3 (lo + y)) (gA b3 (lo + y - 1))) with e | e
    ·rw [e]; exact wpS_pure ⟨y,rfl,rfl,by lia,by lia,hs⟩
    ·rw [e]; exact wpS_pure ⟨rfl,rfl,b1t C hs (by lia) e⟩
   ·rintro c st' ⟨rfl,rfl,hs⟩
    rw [show max x n=n by lia] at hs ⊢
    exact ⟨n,rfl,rfl,h1,Nat.le_refl _,hs⟩
   ·rintro c st' ⟨y,rfl,rfl,hy1,hyn,hs⟩
    exact wpS_pure (h y b3 hy1 hyn hb3 hs)
end
section
variable {prog:Program} {w:World} {A:Around} {E:Value→Shared→Prop} {s:Shared} {kd:SortKind} {Ok:Keyed→Prop} {lt:Keyed→Keyed→Bool}
theorem a6n {a:Array Keyed} {i d:Nat} (hi:i < a.size) (hd:d≤i) (k:Nat):gA (bubble a i d) k=if k=i - d then gA a i else if i - d < k∧k≤i then gA a (k - 1) else gA a k:=by
 have e:=getElem?_bubble hi d hd k
 split
 ·rename_i h; rw [if_pos h] at e; exact a2z e
 ·rename_i h
  rw [if_neg h] at e
  split
  ·rename_i h2; rw [if_pos h2] at e; exact a2z e
  ·rename_i h2; rw [if_neg h2] at e; exact a2z e
theorem c9z (C:Cmp prog w A E s kd Ok lt) {a:Array Keyed} {p:Array (Nat×Nat×Nat)} {g lo n ok:Nat} {Q:Bool→SortSt→Prop} (ho:AllOk Ok a) (h1:1≤ok) (hk:ok≤n) (hn:lo + n≤a.size) (hs:Srt lt a lo (lo + ok))
  (h:∀ b,Out a b lo (lo + n)→Srt lt b lo (lo + n)→Q true (stA kd b p g)):wpS (model prog w) A E s (binarySort' lo n ok) Q (stA kd a p g):=by
 rw [binarySort'_eq]
 refine wpS_bind (wpS_mono (wpS_forRange (I:=fun k c st'=>∃ b,st'=stA kd b p g∧c=(none,())∧Out a b lo (lo + n)∧Srt lt b lo (lo + k))
  (Q:=fun c st'=>∃ b,st'=stA kd b p g∧c=(none,())∧Out a b lo (lo + n)∧Srt lt b lo (lo + n)) ?_ ?_ ⟨a,rfl,rfl,Out.refl _ _ _,by rw [show max ok 1=ok by lia]; exact hs⟩) ?_)
 ·rintro k c st' hk1 hkn ⟨b,rfl,rfl,hb,hs⟩
  have hsz:=hb.size
  have hok:=ho.perm hb.1
  dsimp only
  refine wpS_bind (wpS_mono (wpS_forRange (I:=fun j c st'=>∃ l r,st'=stA kd b p g∧c=(none,l,r)∧l≤r∧r≤k∧r - l≤k - j∧(∀ i,i < l→lt (gA b (lo + k)) (gA b (lo + i))=false)∧∀ i,r≤i→i < k→lt (gA b (lo + i)) (gA b (lo + k))=false)
   (Q:=fun c st'=>∃ l r,st'=stA kd b p g∧c=(none,l,r)∧l≤k∧(∀ i,i < l→lt (gA b (lo + k)) (gA b (lo + i))=false)∧∀ i,l≤i→i < k→lt (gA b (lo + i)) (gA b (lo + k))=false) ?_ ?_ ⟨0,k,rfl,rfl,by lia,by lia,by lia,fun i hi=>by lia,fun i h1 h2=>by lia⟩) ?_)
  ·rintro j c st' - hj ⟨l,r,rfl,rfl,hlr,hrk,hm,g1,g2⟩
   dsimp only
   by_cases hge:l ≥ r
   ·rw [if_pos hge]
    exact wpS_pure ⟨l,r,rfl,rfl,by lia,g1,fun i h1 h2=>g2 i (by lia) h2⟩
   ·rw [if_neg hge]
    refine wpS_bind (ask C hok (by lia) (by lia) ?_)
    rcases Bool.eq_false_or_eq_true (lt (gA b (lo + k)) (gA b (lo + (l + r) / 2))) with e | e
    ·rw [e]
     have e':=C.asym _ _ e
     refine wpS_pure ⟨l,(l + r) / 2,rfl,rfl,by lia,by lia,by lia,g1,fun i h1 h2=>?_⟩
     exact C.trans _ _ _ e' (hs _ _ (by lia) (by lia) (by lia))
    ·rw [e]
     refine wpS_pure ⟨(l + r) / 2 + 1,r,rfl,rfl,by lia,by lia,by lia,fun i hi=>?_,g2⟩
     exact C.trans _ _ _ (hs (lo + i) (lo + (l + r) / 2) (by lia) (by lia) (by lia)) e
  ·rintro c st' ⟨l,r,rfl,rfl,hlr,hrk,hm,g1,g2⟩
   rw [show max 0 k=k by lia] at hm
   exact ⟨l,r,rfl,rfl,by lia,g1,fun i h1 h2=>g2 i (by lia) h2⟩
  ·rintro c st' ⟨l,r,rfl,rfl,hlk,g1,g2⟩
   dsimp only
   refine wpS_bind (d4t (wpS_pure ?_))
   have hi:lo + k < b.size:=by lia
   have hd:lo + k - (lo + l)≤lo + k:=by lia
   refine ⟨_,rfl,rfl,hb.trans ⟨bubble_perm _ _ _,fun x hx=>?_⟩,fun i j h1 h2 h3=>?_⟩
   ·rw [a6n hi hd,if_neg (by lia),if_neg (by lia)]
   ·rw [a6n hi hd,a6n hi hd]
    have el:lo + k - (lo + k - (lo + l))=lo + l:=by lia
    rw [el]
    by_cases j1:j=lo + l
    ·rw [if_pos j1]
     by_cases i1:i=lo + l
     ·rw [if_pos i1]; exact C.refl _
     ·rw [if_neg i1,if_neg (by lia)]
      have:=g1 (i - lo) (by lia)
      rwa [show lo + (i - lo)=i by lia] at this
    ·rw [if_neg j1]
     by_cases i1:i=lo + l
     ·rw [if_pos i1,if_pos (by lia)]
      have:=g2 (j - 1 - lo) (by lia) (by lia)
      rwa [show lo + (j - 1 - lo)=j - 1 by lia] at this
     ·rw [if_neg i1]
      by_cases j2:lo + l < j∧j≤lo + k
      ·rw [if_pos j2]
       by_cases i2:lo + l < i∧i≤lo + k
       ·rw [if_pos i2]; exact hs _ _ (by lia) (by lia) (by lia)
       ·rw [if_neg i2]; exact hs _ _ (by lia) (by lia) (by lia)
      ·rw [if_neg j2,if_neg (by lia)]
       exact hs _ _ (by lia) (by lia) (by lia)
 ·rintro c st' ⟨b,rfl,rfl,hb,hs⟩
  rw [show max (max ok 1) n=n by lia] at hs
  exact ⟨b,rfl,rfl,hb,hs⟩
 ·rintro c st' ⟨b,rfl,rfl,hb,hs⟩
  exact wpS_pure (h b hb hs)
end
noncomputable def gal:Bool→Keyed→Array Keyed→Nat→Nat→Nat→StateT SortSt Sem (Option Nat):=sortPriv% PySem.Builtin.gallop
theorem d0c (f:Bool) (k:Keyed) (r:Array Keyed) (b n h:Nat):gal f k r b n h=(do
 let yon (i:Nat):StateT SortSt Sem (Option Bool):=do
  let x ← elem' r (b + i); if f then lt' x k else return (← lt' k x).map (!·)
 let mut z:=0; let mut o:=1; let mut u:=0; let mut v:=0
 let some c ← yon h | return none
 if c then
  let m:=n - h
  for _ in [0:n] do
   if o ≥ m then break
   let some t ← yon (h + o) | return none
   if !t then break
   z:=o; o:=2 * o + 1
  u:=h + z + 1; v:=h + min o m
 else
  let m:=h + 1
  for _ in [0:n] do
   if o ≥ m then break
   let some t ← yon (h - o) | return none
   if t then break
   z:=o; o:=2 * o + 1
  u:=h + 1 - min o m; v:=h - z
 for _ in [0:n] do
  if u ≥ v then break
  let m:=u + (v - u) / 2
  let some t ← yon m | return none
  if t then u:=m + 1 else v:=m
 return some v):=rfl
section
variable {prog:Program} {w:World} {A:Around} {E:Value→Shared→Prop} {s:Shared} {kd:SortKind} {Ok:Keyed→Prop} {lt:Keyed→Keyed→Bool}
noncomputable def a2u (lt:Keyed→Keyed→Bool) (f:Bool) (k:Keyed) (r:Array Keyed) (b i:Nat):Bool:=if f=true then lt (gA r (b + i)) k else !lt k (gA r (b + i))
theorem a7m (C:Cmp prog w A E s kd Ok lt) {f:Bool} {k:Keyed} {r:Array Keyed} {b n h:Nat} {st:SortSt} {Q:Option Nat→SortSt→Prop} (hst:kindOf st=kd) (ho:AllOk Ok r) (hk:Ok k) (hn:b + n≤r.size) (hh:h < n)
  (hm:∀ i j,i≤j→j < n→a2u lt f k r b j=true→a2u lt f k r b i=true)
  (q:∀ t,t≤n→(∀ i,i < t→a2u lt f k r b i=true)→(∀ i,t≤i→i < n→a2u lt f k r b i=false)→Q (some t) st):wpS (model prog w) A E s (gal f k r b n h) Q st:=by
 have yon:∀ i,i < n→∀ {Q:Option Bool→SortSt→Prop},Q (some (a2u lt f k r b i)) st→wpS (model prog w) A E s (do let x ← elem' r (b + i); if f=true then lt' x k else do let y ← lt' k x; pure (y.map (!·))) Q st:=by
  intro i hi Q q
  rw [elem'_eq,a3i (show b + i < r.size by lia)]
  refine wpS_bind (wpS_pure ?_)
  have hx:=ho.at (show b + i < r.size by lia)
  unfold a2u at q
  cases f with
  | true=>simp only [if_true] at q ⊢; exact C.run _ _ hx hk _ _ hst q
  | false =>
   simp only [Bool.false_eq_true,if_false] at q ⊢
   exact wpS_bind (C.run _ _ hk hx _ _ hst (wpS_pure q))
 rw [d0c]
 dsimp only
 refine wpS_bind (yon h hh ?_)
 have low:∀ i j,i≤j→j < n→a2u lt f k r b i=false→a2u lt f k r b j=false:=fun i j h1 h2 h3=>by
  cases e:a2u lt f k r b j with
  | false=>rfl
  | true=>rw [hm i j h1 h2 e] at h3; cases h3
 rcases Bool.eq_false_or_eq_true (a2u lt f k r b h) with c | c
 rw [c]
 simp only [if_true]
 refine wpS_bind (wpS_mono (wpS_forRange (I:=fun j c st'=>∃ z o,st'=st∧c=(none,z,o)∧z < o∧j + 1≤o∧h + z < n∧a2u lt f k r b (h + z)=true)
  (Q:=fun c st'=>∃ z o,st'=st∧c=(none,z,o)∧z < o∧h + z < n∧a2u lt f k r b (h + z)=true∧(n - h≤o ∨ a2u lt f k r b (h + o)=false)) ?_ ?_ ⟨0,1,rfl,rfl,by lia,by lia,by lia,c⟩) ?_)
 ·rintro j c st' - hj ⟨z,o,rfl,rfl,h1,h2,h3,h4⟩
  dsimp only
  by_cases hge:o ≥ n - h
  ·rw [if_pos hge]
   exact wpS_pure ⟨z,o,rfl,rfl,h1,h3,h4,.inl hge⟩
  ·rw [if_neg hge]
   refine wpS_bind (yon (h + o) (by lia) ?_)
   rcases Bool.eq_false_or_eq_true (a2u lt f k r b (h + o)) with e | e
   ·rw [e]
    exact wpS_pure ⟨o,2 * o + 1,rfl,rfl,by lia,by lia,by lia,e⟩
   ·rw [e]
    exact wpS_pure ⟨z,o,rfl,rfl,h1,h3,h4,.inr e⟩
 ·rintro c st' ⟨z,o,rfl,rfl,h1,h2,h3,h4⟩
  exact ⟨z,o,rfl,rfl,h1,h3,h4,.inl (by lia)⟩
 rintro c' st' ⟨z,o,hse,rfl,h1,h3,h4,h5⟩
 rw [hse]
 clear hse
 dsimp only
 obtain ⟨u,hu⟩:∃ u,u=h + z + 1:=⟨_,rfl⟩
 obtain ⟨v,hv⟩:∃ v,v=h + min o (n - h):=⟨_,rfl⟩
 have huv:u≤v:=by lia
 have hvn:v≤n:=by lia
 have hlo:∀ i,i < u→a2u lt f k r b i=true:=fun i hi=>hm i (h + z) (by lia) h3 h4
 have hhi:∀ i,v≤i→i < n→a2u lt f k r b i=false:=fun i h6 h7=>by
  rcases h5 with h5 | h5
  ·lia
  ·exact low (h + o) i (by lia) h7 h5
 rw [← hu,← hv]
 clear hu hv h1 h3 h4 h5 c
 rotate_left
 rw [c]
 simp only [Bool.false_eq_true,if_false]
 refine wpS_bind (wpS_mono (wpS_forRange (I:=fun j c st'=>∃ z o,st'=st∧c=(none,z,o)∧z < o∧j + 1≤o∧z≤h∧a2u lt f k r b (h - z)=false)
  (Q:=fun c st'=>∃ z o,st'=st∧c=(none,z,o)∧z < o∧z≤h∧a2u lt f k r b (h - z)=false∧(h + 1≤o ∨ o≤h∧a2u lt f k r b (h - o)=true)) ?_ ?_ ⟨0,1,rfl,rfl,by lia,by lia,by lia,c⟩) ?_)
 ·rintro j c st' - hj ⟨z,o,rfl,rfl,h1,h2,h3,h4⟩
  dsimp only
  by_cases hge:o ≥ h + 1
  ·rw [if_pos hge]
   exact wpS_pure ⟨z,o,rfl,rfl,h1,h3,h4,.inl hge⟩
  ·rw [if_neg hge]
   refine wpS_bind (yon (h - o) (by lia) ?_)
   rcases Bool.eq_false_or_eq_true (a2u lt f k r b (h - o)) with e | e
   ·rw [e]
    exact wpS_pure ⟨z,o,rfl,rfl,h1,h3,h4,.inr ⟨by lia,e⟩⟩
   ·rw [e]
    exact wpS_pure ⟨o,2 * o + 1,rfl,rfl,by lia,by lia,by lia,e⟩
 ·rintro c st' ⟨z,o,rfl,rfl,h1,h2,h3,h4⟩
  exact ⟨z,o,rfl,rfl,h1,h3,h4,.inl (by lia)⟩
 rintro c' st' ⟨z,o,hse,rfl,h1,h3,h4,h5⟩
 rw [hse]
 clear hse
 dsimp only
 obtain ⟨u,hu⟩:∃ u,u=h + 1 - min o (h + 1):=⟨_,rfl⟩
 obtain ⟨v,hv⟩:∃ v,v=h - z:=⟨_,rfl⟩
 have huv:u≤v:=by lia
 have hvn:v≤n:=by lia
 have hlo:∀ i,i < u→a2u lt f k r b i=true:=fun i hi=>by
  rcases h5 with h5 | h5
  ·lia
  ·exact hm i (h - o) (by lia) (by lia) h5.2
 have hhi:∀ i,v≤i→i < n→a2u lt f k r b i=false:=fun i h6 h7=>low (h - z) i (by lia) h7 h4
 rw [← hu,← hv]
 clear hu hv h1 h3 h4 h5 c
 all_goals
  refine wpS_bind (wpS_mono (wpS_forRange (I:=fun j c st'=>∃ u v,st'=st∧c=(none,u,v)∧u≤v∧v≤n∧v - u≤n - j∧(∀ i,i < u→a2u lt f k r b i=true)∧∀ i,v≤i→i < n→a2u lt f k r b i=false)
   (Q:=fun c st'=>∃ v,st'=st∧c=(none,v,v)∧v≤n∧(∀ i,i < v→a2u lt f k r b i=true)∧∀ i,v≤i→i < n→a2u lt f k r b i=false) ?_ ?_ ⟨u,v,rfl,rfl,huv,hvn,by lia,hlo,hhi⟩) ?_)
  ·rintro j c st' - hj ⟨u,v,rfl,rfl,huv,hvn,hme,hlo,hhi⟩
   dsimp only
   by_cases hge:u ≥ v
   ·rw [if_pos hge]
    have:u=v:=by lia
    subst this
    exact wpS_pure ⟨u,rfl,rfl,hvn,hlo,hhi⟩
   ·rw [if_neg hge]
    refine wpS_bind (yon (u + (v - u) / 2) (by lia) ?_)
    rcases Bool.eq_false_or_eq_true (a2u lt f k r b (u + (v - u) / 2)) with e | e
    ·rw [e]
     exact wpS_pure ⟨_,v,rfl,rfl,by lia,hvn,by lia,fun i hi=>hm i _ (by lia) (by lia) e,hhi⟩
    ·rw [e]
     exact wpS_pure ⟨u,_,rfl,rfl,by lia,by lia,by lia,hlo,fun i h1 h2=>low _ i h1 h2 e⟩
  ·rintro c st' ⟨u,v,rfl,rfl,huv,hvn,hme,hlo,hhi⟩
   have:u=v:=by lia
   subst this
   exact ⟨u,rfl,rfl,hvn,hlo,hhi⟩
  ·rintro c st' ⟨v,rfl,rfl,hvn,hlo,hhi⟩
   exact wpS_pure (q v hvn hlo hhi)
end
abbrev Asc {α:Type} (lt:α→α→Bool) (l:List α):Prop:=l.Pairwise fun x y=>lt y x=false
structure MI {α:Type} (lt:α→α→Bool) (X Y O:List α) (i j:Nat):Prop where
 perm:O.Perm (X.take i++Y.take j)
 srt:Asc lt O
 bef:∀ x∈O,∀ y∈X.drop i++Y.drop j,lt y x=false
section
variable {α:Type} {lt:α→α→Bool} {X Y O:List α} {i j k:Nat}
noncomputable def Hid (p:Prop):Prop:=p
theorem c6i {T g:Prop} (rest:Hid T→g) (pf:T):g:=rest pf
theorem MI.swap (h:MI lt X Y O i j):MI lt Y X O j i:=⟨h.perm.trans List.perm_append_comm,h.srt,fun x hx y hy=>h.bef x hx y (by simpa [or_comm] using hy)⟩
theorem MI.more (h:MI lt X Y O i j) (hX:Asc lt X) (hc:∀ x∈(X.drop i).take k,∀ y∈Y.drop j,lt y x=false):MI lt X Y (O++(X.drop i).take k) (i + k) j:=by
 have hsub:X.drop i=(X.drop i).take k++X.drop (i + k):=by rw [← List.drop_drop,List.take_append_drop]
 have hXd:Asc lt (X.drop i):=hX.sublist (List.drop_sublist _ _)
 rw [hsub] at hXd
 obtain ⟨s1,s2,s3⟩:=List.pairwise_append.mp hXd
 refine ⟨?_,?_,fun x hx y hy=>?_⟩
 ·rw [List.take_add,List.append_assoc]
  refine (h.perm.append_right _).trans ?_
  rw [List.append_assoc]
  exact List.Perm.append_left _ List.perm_append_comm
 ·refine List.pairwise_append.mpr ⟨h.srt,s1,fun x hx y hy=>h.bef x hx y (List.mem_append_left _ (List.mem_of_mem_take hy))⟩
 ·rcases List.mem_append.mp hx with hx | hx
  ·refine h.bef x hx y ?_
   rcases List.mem_append.mp hy with hy | hy
   ·rw [hsub]; exact List.mem_append_left _ (List.mem_append_right _ hy)
   ·exact List.mem_append_right _ hy
  ·rcases List.mem_append.mp hy with hy | hy
   ·exact s3 x hx y hy
   ·exact hc x hx y hy
theorem a7w (h:i < X.length):(X.drop i).take 1=[X[i]]:=by rw [List.drop_eq_getElem_cons h,List.take_succ_cons,List.take_zero]
noncomputable def Mrg (lt:α→α→Bool) (X Y R:List α):Prop:=R.Perm (X++Y)∧Asc lt R
theorem MI.fin (h:MI lt X Y O i j) (hX:Asc lt X) (hY:Asc lt Y) (hc:∀ x∈X.drop i,∀ y∈Y.drop j,lt y x=false):Mrg lt X Y (O++X.drop i++Y.drop j):=by
 refine ⟨?_,?_⟩
 ·have h1:=(h.perm.append_right (X.drop i)).append_right (Y.drop j)
  refine h1.trans ?_
  have:(X.take i++Y.take j++X.drop i++Y.drop j).Perm (X.take i++X.drop i++(Y.take j++Y.drop j)):=by
   rw [List.append_assoc (X.take i),List.append_assoc (X.take i),List.append_assoc (X.take i)]
   refine List.Perm.append_left _ ?_
   rw [← List.append_assoc (X.drop i)]
   exact List.perm_append_comm.append_right _
  rwa [List.take_append_drop,List.take_append_drop] at this
 ·refine List.pairwise_append.mpr ⟨List.pairwise_append.mpr ⟨h.srt,hX.sublist (List.drop_sublist _ _),fun x hx y hy=>h.bef x hx y (List.mem_append_left _ hy)⟩,hY.sublist (List.drop_sublist _ _),fun x hx y hy=>?_⟩
  rcases List.mem_append.mp hx with hx | hx
  ·exact h.bef x hx y (List.mem_append_right _ hy)
  ·exact hc x hx y hy
theorem Mrg.swap {R:List α} (h:Mrg lt X Y R):Mrg lt Y X R:=⟨h.1.trans List.perm_append_comm,h.2⟩
theorem a2x {x:α} (h:x∈X.drop i):∃ k,∃ hk:k < X.length,i≤k∧X[k]=x:=by
 obtain ⟨m,hm,e⟩:=List.mem_iff_getElem.mp h
 rw [List.getElem_drop] at e
 exact ⟨i + m,by simp at hm; lia,by lia,e⟩
theorem a3m {x:α} (h:x∈(X.drop i).take k):∃ m,∃ hm:m < X.length,i≤m∧m < i + k∧X[m]=x:=by
 obtain ⟨m,hm,e⟩:=List.mem_iff_getElem.mp h
 rw [List.getElem_take,List.getElem_drop] at e
 simp at hm
 exact ⟨i + m,by lia,by lia,by lia,e⟩
end
theorem a0n {a:Array Keyed} {i:Nat} (h:i < a.toList.length):gA a i=a.toList[i]:=by
 have:=a3i (a:=a) (i:=i) (by simpa using h)
 rw [← Array.getElem?_toList,List.getElem?_eq_getElem h] at this
 exact (Option.some.inj this).symm
section
variable {lt:Keyed→Keyed→Bool} {x y o:Array Keyed} {i j k:Nat}
abbrev MA (lt:Keyed→Keyed→Bool) (x y o:Array Keyed) (i j:Nat):Prop:=MI lt x.toList y.toList o.toList i j
theorem a2a (x:Array Keyed) (i j:Nat):(x.extract i j).toList=(x.toList.drop i).take (j - i):=by
 rw [Array.toList_extract,List.extract_eq_take_drop]
theorem b3c (x:Array Keyed) (i:Nat):(x.extract i x.size).toList=x.toList.drop i:=by
 rw [a2a,List.take_of_length_le (by simp)]
theorem MA.moreX (h:MA lt x y o i j) (hX:Asc lt x.toList) (hc:∀ m m',i≤m→m < i + k→m < x.size→j≤m'→m' < y.size→lt (gA y m') (gA x m)=false):MA lt x y (o++x.extract i (i + k)) (i + k) j:=by
 have:=MI.more (k:=k) h hX fun u hu v hv=>by
  obtain ⟨m,hm,m1,m2,rfl⟩:=a3m hu
  obtain ⟨m',hm',n1,rfl⟩:=a2x hv
  rw [← a0n hm,← a0n hm']
  exact hc m m' m1 m2 (by simpa using hm) n1 (by simpa using hm')
 unfold MA
 rw [Array.toList_append,a2a,show i + k - i=k by lia]
 exact this
theorem MA.swap (h:MA lt x y o i j):MA lt y x o j i:=MI.swap h
theorem MA.pushX (h:MA lt x y o i j) (hX:Asc lt x.toList) (hi:i < x.size) (hc:∀ m',j≤m'→m' < y.size→lt (gA y m') (gA x i)=false):MA lt x y (o.push (gA x i)) (i + 1) j:=by
 have hl:i < x.toList.length:=by simpa using hi
 have:=MI.more (k:=1) h hX fun u hu v hv=>by
  rw [a7w hl] at hu
  rw [List.mem_singleton] at hu
  subst hu
  obtain ⟨m',hm',n1,rfl⟩:=a2x hv
  rw [← a0n hl,← a0n hm']
  exact hc m' n1 (by simpa using hm')
 unfold MA
 rw [Array.toList_push,a0n hl,← a7w hl]
 exact this
theorem MA.pushY (h:MA lt x y o i j) (hY:Asc lt y.toList) (hj:j < y.size) (hc:∀ m',i≤m'→m' < x.size→lt (gA x m') (gA y j)=false):MA lt x y (o.push (gA y j)) i (j + 1):=(h.swap.pushX hY hj hc).swap
theorem MA.moreY (h:MA lt x y o i j) (hY:Asc lt y.toList) (hc:∀ m m',j≤m→m < j + k→m < y.size→i≤m'→m' < x.size→lt (gA x m') (gA y m)=false):MA lt x y (o++y.extract j (j + k)) i (j + k):=(h.swap.moreX hY hc).swap
theorem MA.fin (h:MA lt x y o i j) (hX:Asc lt x.toList) (hY:Asc lt y.toList) (hc:∀ m m',i≤m→m < x.size→j≤m'→m' < y.size→lt (gA y m') (gA x m)=false):Mrg lt x.toList y.toList (o++x.extract i x.size++y.extract j y.size).toList:=by
 rw [Array.toList_append,Array.toList_append,b3c,b3c]
 refine MI.fin h hX hY fun u hu v hv=>?_
 obtain ⟨m,hm,m1,rfl⟩:=a2x hu
 obtain ⟨m',hm',n1,rfl⟩:=a2x hv
 rw [← a0n hm,← a0n hm']
 exact hc m m' m1 (by simpa using hm) n1 (by simpa using hm')
theorem MA.fin2 (h:MA lt x y o i j) (hX:Asc lt x.toList) (hY:Asc lt y.toList) (hc:∀ m m',i≤m→m < x.size→j≤m'→m' < y.size→lt (gA x m) (gA y m')=false):Mrg lt x.toList y.toList (o++y.extract j y.size++x.extract i x.size).toList:=(h.swap.fin hY hX fun m m' h1 h2 h3 h4=>hc m' m h3 h4 h1 h2).swap
theorem b3m (hX:Asc lt x.toList) (hr:∀ u,lt u u=false) (hij:i≤j) (hj:j < x.size):lt (gA x j) (gA x i)=false:=by
 by_cases e:i=j
 ·subst e; exact hr _
 ·have hl:j < x.toList.length:=by simpa using hj
  rw [a0n hl,a0n (show i < x.toList.length by lia)]
  exact List.pairwise_iff_getElem.mp hX i j (by lia) hl (by lia)
end
noncomputable def mLo:Array Keyed→Array Keyed→StateT SortSt Sem (Array Keyed):=sortPriv% PySem.Builtin.mergeLo
noncomputable def c7f:Nat→StateT SortSt Sem Unit:=sortPriv% PySem.Builtin.setMinGallop
theorem a5e (n:Nat):c7f n=modify fun s=>SortSt.mk' (kindOf s) (arrOf s) (pendingOf s) n (failedOf s):=rfl
theorem c9i (x y:Array Keyed):mLo x y=(do
 rule "list.sort.merge-lo"
 let N:=x.size + y.size
 let fin (o:Array Keyed) (i j:Nat):=o++x.extract i x.size++y.extract j y.size
 let lst (o:Array Keyed) (i j:Nat):=o++y.extract j y.size++x.extract i x.size
 let mut o:Array Keyed:=#[← elem' y 0]
 let mut i:=0; let mut j:=1
 if j == y.size then return fin o i j
 if i + 1 == x.size then return lst o i j
 let mut G:=gallopOf (← get)
 for _ in [0:N] do
  let mut c:=0; let mut d:=0
  for _ in [0:N] do
   let some t ← lt' (← elem' y j) (← elem' x i) | return fin o i j
   if t then
    o:=o.push (← elem' y j); j:=j + 1; d:=d + 1; c:=0
    if j == y.size then return fin o i j
    if d ≥ G then break
   else
    o:=o.push (← elem' x i); i:=i + 1; c:=c + 1; d:=0
    if i + 1 == x.size then return lst o i j
    if c ≥ G then break
  rule "list.sort.gallop"
  G:=G + 1
  for _ in [0:N] do
   if G > 1 then G:=G - 1
   c7f G
   let some k ← gal false (← elem' y j) x i (x.size - i) 0 | return fin o i j
   c:=k
   if k > 0 then
    o:=o++x.extract i (i + k); i:=i + k
    if i + 1 == x.size then return lst o i j
    if i == x.size then return fin o i j
   o:=o.push (← elem' y j); j:=j + 1
   if j == y.size then return fin o i j
   let some k ← gal true (← elem' x i) y j (y.size - j) 0 | return fin o i j
   d:=k
   if k > 0 then
    o:=o++y.extract j (j + k); j:=j + k
    if j == y.size then return fin o i j
   o:=o.push (← elem' x i); i:=i + 1
   if i + 1 == x.size then return lst o i j
   if c < 7 && d < 7 then break
  G:=G + 1
  c7f G
 unsupported "internal:list.sort.merge-bound"):=rfl
section
variable {prog:Program} {w:World} {A:Around} {E:Value→Shared→Prop} {s:Shared} {kd:SortKind} {Ok:Keyed→Prop} {lt:Keyed→Keyed→Bool}
theorem c9h (C:Cmp prog w A E s kd Ok lt) {a x y:Array Keyed} {p:Array (Nat×Nat×Nat)} {g:Nat} {Q:Array Keyed→SortSt→Prop} (hx:AllOk Ok x) (hy:AllOk Ok y) (nx:1≤x.size) (ny:1≤y.size) (sx:Asc lt x.toList) (sy:Asc lt y.toList)
  (hf:lt (gA x 0) (gA y 0)=false) (hl:∀ j,j < y.size→lt (gA x (x.size - 1)) (gA y j)=false)
  (q:∀ r g',Mrg lt x.toList y.toList r.toList→Q r (stA kd a p g')):wpS (model prog w) A E s (mLo x y) Q (stA kd a p g):=by
 rw [c9i]
 refine wpS_bind (wpS_lift (wpAny_rule ⟨rfl,?_⟩))
 dsimp only
 rw [elem'_eq,a3i (show 0 < y.size by lia)]
 refine wpS_bind (wpS_pure ?_)
 have ax:∀ {i j},i≤j→j < x.size→lt (gA x j) (gA x i)=false:=fun h1 h2=>b3m sx C.refl h1 h2
 have ay:∀ {i j},i≤j→j < y.size→lt (gA y j) (gA y i)=false:=fun h1 h2=>b3m sy C.refl h1 h2
 have M0:MA lt x y #[gA y 0] 0 1:=by
  have:MA lt x y #[] 0 0:=⟨by simp,by simp,by simp⟩
  exact this.pushY sy (by lia) fun m' _ h2=>C.trans _ _ _ hf (ax (Nat.zero_le _) h2)
 have finJ:∀ {o i j},MA lt x y o i j→j=y.size→Mrg lt x.toList y.toList (o++x.extract i x.size++y.extract j y.size).toList:=fun h e=>h.fin sx sy fun m m' _ _ h3 h4=>by lia
 have finI:∀ {o i j},MA lt x y o i j→i=x.size→Mrg lt x.toList y.toList (o++x.extract i x.size++y.extract j y.size).toList:=fun h e=>h.fin sx sy fun m m' h1 h2 _ _=>by lia
 have lstI:∀ {o i j},MA lt x y o i j→i + 1=x.size→Mrg lt x.toList y.toList (o++y.extract j y.size++x.extract i x.size).toList:=fun h e=>h.fin2 sx sy fun m m' h1 h2 h3 h4=>by
  have:m=x.size - 1:=by lia
  rw [this]; exact hl m' h4
 by_cases hj1:1=y.size
 ·rw [if_pos (by simpa using hj1)]
  exact wpS_pure (q _ g (finJ M0 hj1))
 rw [if_neg (by simpa using hj1)]
 by_cases hi1:0 + 1=x.size
 ·rw [if_pos (by simpa using hi1)]
  exact wpS_pure (q _ g (lstI M0 hi1))
 rw [if_neg (by simpa using hi1)]
 refine wpS_bind (wpS_get ?_)
 let Go:=fun (o:Array Keyed) (i j T:Nat)=>MA lt x y o i j∧i + 1 < x.size∧j < y.size∧T≤i + j
 refine wpS_bind (wpS_mono (wpS_forRange (I:=fun n c st'=>∃ g',st'=stA kd a p g'∧c.1=none∧Go c.2.1 c.2.2.1 c.2.2.2.1 n)
  (Q:=fun c st'=>∃ g' r,st'=stA kd a p g'∧c.1=some r∧Mrg lt x.toList y.toList r.toList) ?_ ?_ ⟨g,rfl,rfl,M0,by first | lia | (dsimp only; lia),by first | lia | (dsimp only; lia),by first | lia | (dsimp only; lia)⟩) ?_)
 ·rintro n c st' - hn ⟨g1,rfl,hc,hgo⟩
  obtain ⟨r,o,i,j,G⟩:=c
  dsimp only at hc hgo ⊢
  subst hc
  refine wpS_bind (wpS_mono (wpS_forRange (I:=fun n' c st'=>∃ g',st'=stA kd a p g'∧c.1=none∧Go c.2.1 c.2.2.1 c.2.2.2.1 (n + n'))
   (Q:=fun c st'=>∃ g',st'=stA kd a p g'∧((∃ r,c.1=some r∧Mrg lt x.toList y.toList r.toList) ∨ c.1=none∧Go c.2.1 c.2.2.1 c.2.2.2.1 (n + 1))) ?_ ?_ ⟨g1,rfl,rfl,hgo⟩) ?_)
  ·rintro n' c st' - hn' ⟨g2,rfl,hc,hgo⟩
   obtain ⟨r,o,i,j,cc,dd⟩:=c
   dsimp only at hc hgo ⊢
   subst hc
   obtain ⟨hM,hi,hj,hT⟩:=hgo
   rw [elem'_eq,a3i hj,elem'_eq,a3i (show i < x.size by first | lia | (dsimp only; lia))]
   refine wpS_bind (wpS_pure (wpS_bind (wpS_pure (wpS_bind (C.run _ _ (hy.at hj) (hx.at (by first | lia | (dsimp only; lia))) _ _ rfl ?_)))))
   rcases Bool.eq_false_or_eq_true (lt (gA y j) (gA x i)) with e | e
   ·rw [e]
    have e':=C.asym _ _ e
    simp only [if_true]
    refine wpS_bind (wpS_pure ?_)
    have hM2:=hM.pushY sy hj fun m' h1 h2=>C.trans _ _ _ e' (ax h1 h2)
    by_cases hb:j + 1=y.size
    ·rw [if_pos (by simpa using hb)]
     exact wpS_pure ⟨g2,rfl,.inl ⟨_,rfl,finJ hM2 hb⟩⟩
    ·rw [if_neg (by simpa using hb)]
     split
     ·exact wpS_pure ⟨g2,rfl,.inr ⟨rfl,hM2,hi,by first | lia | (dsimp only; lia),by first | lia | (dsimp only; lia)⟩⟩
     ·exact wpS_pure ⟨g2,rfl,rfl,hM2,hi,by first | lia | (dsimp only; lia),by first | lia | (dsimp only; lia)⟩
   ·rw [e]
    simp only [Bool.false_eq_true,if_false]
    refine wpS_bind (wpS_pure ?_)
    have hM2:=hM.pushX sx (by first | lia | (dsimp only; lia)) fun m' h1 h2=>C.trans _ _ _ e (ay h1 h2)
    by_cases hb:i + 1 + 1=x.size
    ·rw [if_pos (by simpa using hb)]
     exact wpS_pure ⟨g2,rfl,.inl ⟨_,rfl,lstI hM2 hb⟩⟩
    ·rw [if_neg (by simpa using hb)]
     split
     ·exact wpS_pure ⟨g2,rfl,.inr ⟨rfl,hM2,by first | lia | (dsimp only; lia),hj,by first | lia | (dsimp only; lia)⟩⟩
     ·exact wpS_pure ⟨g2,rfl,rfl,hM2,by first | lia | (dsimp only; lia),hj,by first | lia | (dsimp only; lia)⟩
  ·rintro c st' ⟨g2,rfl,hc,hM,hi,hj,hT⟩
   exfalso; lia
  ·rintro c st' ⟨g2,rfl,hc⟩
   obtain ⟨r,o,i,j,cc,dd⟩:=c
   dsimp only at hc ⊢
   rcases hc with ⟨r',rfl,hr⟩ | ⟨rfl,hgo⟩
   ·exact wpS_pure ⟨g2,r',rfl,rfl,hr⟩
   dsimp only
   refine wpS_bind (wpS_lift (wpAny_rule ⟨rfl,?_⟩))
   refine wpS_bind (wpS_mono (wpS_forRange (I:=fun n' c st'=>∃ g',st'=stA kd a p g'∧c.1=none∧Go c.2.1 c.2.2.1 c.2.2.2.1 (n + 1 + n'))
    (Q:=fun c st'=>∃ g',st'=stA kd a p g'∧((∃ r,c.1=some r∧Mrg lt x.toList y.toList r.toList) ∨ c.1=none∧Go c.2.1 c.2.2.1 c.2.2.2.1 (n + 1))) ?_ ?_ ⟨g2,rfl,rfl,hgo⟩) ?_)
   ·rintro n' c st' - hn' ⟨g3,rfl,hc,hgo⟩
    obtain ⟨r,o,i,j,G,cc,dd⟩:=c
    dsimp only at hc hgo ⊢
    subst hc
    obtain ⟨hM,hi,hj,hT⟩:=hgo
    apply c6i
    ·intro key
     by_cases hG:G > 1
     ·rw [if_pos hG,a5e]
      refine wpS_bind (wpS_modify ?_)
      generalize G - 1=G1
      revert G1
      exact key
     ·rw [if_neg hG,a5e]
      refine wpS_bind (wpS_modify ?_)
      exact key G
    ·intro G
     rw [elem'_eq,a3i hj]
     refine wpS_bind (wpS_pure ?_)
     refine wpS_bind (a7m C (kd:=kd) rfl hx (hy.at hj) (by lia) (by lia) ?_ ?_)
     ·intro u v huv hv h
      simp only [a2u,Bool.false_eq_true,if_false,Bool.not_eq_true'] at h ⊢
      exact C.trans _ _ _ (ax (by lia) (by lia)) h
     intro k hk kl kr
     simp only [a2u,Bool.false_eq_true,if_false,Bool.not_eq_true',Bool.not_eq_false'] at kl kr
     dsimp only
     apply c6i
     ·intro cont
      have key:∀ m,i + k≤m→m < x.size→lt (gA x m) (gA y j)=false:=fun m h1 h2=>by
       have:=kr (m - i) (by lia) (by lia)
       rw [show i + (m - i)=m by lia] at this
       exact C.asym _ _ this
      have hM1:MA lt x y (o++x.extract i (i + k)) (i + k) j:=hM.moreX sx fun m m' h1 h2 h3 h4 h5=>by
       have:=kl (m - i) (by lia)
       rw [show i + (m - i)=m by lia] at this
       exact C.trans _ _ _ this (ay h4 h5)
      by_cases hk0:k > 0
      rw [if_pos hk0]
      by_cases hb1:i + k + 1=x.size
      rw [if_pos (by simpa using hb1)]
      exact wpS_pure ⟨_,rfl,.inl ⟨_,rfl,lstI hM1 hb1⟩⟩
      rw [if_neg (by simpa using hb1)]
      by_cases hb2:i + k=x.size
      rw [if_pos (by simpa using hb2)]
      exact wpS_pure ⟨_,rfl,.inl ⟨_,rfl,finI hM1 hb2⟩⟩
      rw [if_neg (by simpa using hb2)]
      have hi2:i + k + 1 < x.size:=by lia
      have hT2:n + 1 + n'≤i + k + j:=by lia
      generalize i + k=i1 at hM1 key hi2 hT2 ⊢
      generalize o++x.extract i i1=o1 at hM1 ⊢
      revert hM1 key hi2 hT2
      revert o1 i1
      exact cont
      rw [if_neg hk0]
      have hk0:k=0:=by lia
      rw [hk0] at key hM1
      rw [show o++x.extract i (i + 0)=o by simp; lia] at hM1
      have hi2:i + 0 + 1 < x.size:=by lia
      have hT2:n + 1 + n'≤i + 0 + j:=by lia
      rw [Nat.add_zero] at key hM1 hi2 hT2
      generalize i=i1 at hM1 key hi2 hT2 ⊢
      generalize o=o1 at hM1 ⊢
      exact cont _ _ key hi2 hT2 hM1
     intro i1 o1 key hi2 hT2 hM1
     refine wpS_bind (wpS_pure ?_)
     have hM2:=hM1.pushY sy hj key
     by_cases hb3:j + 1=y.size
     ·rw [if_pos (by simpa using hb3)]
      exact wpS_pure ⟨_,rfl,.inl ⟨_,rfl,finJ hM2 hb3⟩⟩
     rw [if_neg (by simpa using hb3),elem'_eq,a3i (show i1 < x.size by lia)]
     refine wpS_bind (wpS_pure ?_)
     refine wpS_bind (a7m C (kd:=kd) rfl hy (hx.at (show i1 < x.size by lia)) (by lia) (by lia) ?_ ?_)
     ·intro u v huv hv h
      simp only [a2u,if_true] at h ⊢
      cases e:lt (gA y (j + 1 + u)) (gA x i1) with
      | true=>rfl
      | false =>
       have:=C.trans _ _ _ e (ay (show j + 1 + u≤j + 1 + v by lia) (by lia))
       rw [h] at this; cases this
     intro k hk kl kr
     simp only [a2u,if_true] at kl kr
     dsimp only
     apply c6i
     ·intro cont
      have key2:∀ m,j + 1 + k≤m→m < y.size→lt (gA y m) (gA x i1)=false:=fun m h1 h2=>by
       have:=kr (m - (j + 1)) (by lia) (by lia)
       rwa [show j + 1 + (m - (j + 1))=m by lia] at this
      have hM3:=hM2.moreY (k:=k) sy fun m m' h1 h2 h3 h4 h5=>by
       have:=C.asym _ _ (kl (m - (j + 1)) (by lia))
       rw [show j + 1 + (m - (j + 1))=m by lia] at this
       exact C.trans _ _ _ this (ax h4 h5)
      by_cases hk0:k > 0
      rw [if_pos hk0]
      by_cases hb4:j + 1 + k=y.size
      rw [if_pos (by simpa using hb4)]
      exact wpS_pure ⟨_,rfl,.inl ⟨_,rfl,finJ hM3 hb4⟩⟩
      rw [if_neg (by simpa using hb4)]
      have hj2:j + 1 + k < y.size:=by lia
      have hT3:n + 1 + n' + 1≤i1 + (j + 1 + k):=by lia
      generalize (o1.push (gA y j))++y.extract (j + 1) (j + 1 + k)=o2 at hM3 ⊢
      generalize j + 1 + k=j1 at hM3 key2 hj2 hT3 ⊢
      revert hM3 key2 hj2 hT3
      revert o2 j1
      exact cont
      rw [if_neg hk0]
      have hk0:k=0:=by lia
      rw [hk0] at key2 hM3
      rw [show o1.push (gA y j)++y.extract (j + 1) (j + 1 + 0)=o1.push (gA y j) by simp; lia] at hM3
      have hj2:j + 1 + 0 < y.size:=by lia
      have hT3:n + 1 + n' + 1≤i1 + (j + 1 + 0):=by lia
      rw [Nat.add_zero] at key2 hM3 hj2 hT3
      generalize (o1.push (gA y j))=o2 at hM3 ⊢
      generalize j + 1=j1 at hM3 key2 hj2 hT3 ⊢
      exact cont _ _ hM3 key2 hj2 hT3
     intro j1 o2 hM3 key2 hj2 hT3
     refine wpS_bind (wpS_pure ?_)
     have hM4:=hM3.pushX sx (show i1 < x.size by lia) key2
     by_cases hb5:i1 + 1 + 1=x.size
     ·rw [if_pos (by simpa using hb5)]
      exact wpS_pure ⟨_,rfl,.inl ⟨_,rfl,lstI hM4 hb5⟩⟩
     rw [if_neg (by simpa using hb5)]
     split
     ·exact wpS_pure ⟨_,rfl,.inr ⟨rfl,hM4,by first | lia | (dsimp only; lia),hj2,by first | lia | (dsimp only; lia)⟩⟩
     ·exact wpS_pure ⟨_,rfl,rfl,hM4,by first | lia | (dsimp only; lia),hj2,by first | lia | (dsimp only; lia)⟩
   ·rintro c st' ⟨g3,rfl,hc,hM,hi,hj,hT⟩
    exfalso; lia
   ·rintro c st' ⟨g3,rfl,hc⟩
    obtain ⟨r,o,i,j,G,cc,dd⟩:=c
    dsimp only at hc ⊢
    rcases hc with ⟨r',rfl,hr⟩ | ⟨rfl,hgo⟩
    ·exact wpS_pure ⟨g3,r',rfl,rfl,hr⟩
    ·dsimp only
     rw [a5e]
     exact wpS_bind (wpS_modify (wpS_pure ⟨_,rfl,rfl,hgo⟩))
 ·rintro c st' ⟨g2,rfl,hc,hM,hi,hj,hT⟩
  exfalso; lia
 ·rintro c st' ⟨g2,r,rfl,hc,hr⟩
  obtain ⟨r',o,i,j,cc⟩:=c
  dsimp only at hc ⊢
  subst hc
  exact wpS_pure (q _ _ hr)
end
abbrev rv (lt:Keyed→Keyed→Bool):Keyed→Keyed→Bool:=fun u v=>lt v u
noncomputable def MH (lt:Keyed→Keyed→Bool) (x y o:Array Keyed) (i j:Nat):Prop:=MI (rv lt) x.toList.reverse y.toList.reverse o.toList (x.size - i) (y.size - j)
section
variable {lt:Keyed→Keyed→Bool} {x y o:Array Keyed} {i j t:Nat}
theorem b1j {l:List Keyed} (h:Asc lt l):Asc (rv lt) l.reverse:=List.pairwise_reverse.mpr h
theorem a3n (hi:i≤x.size):x.toList.reverse.drop (x.size - i)=(x.toList.take i).reverse:=by
 rw [List.drop_reverse]; congr 2; simp; lia
theorem b8e (hi:i≤x.size) (ht:t≤i):(x.toList.reverse.drop (x.size - i)).take (i - t)=(x.extract t i).toList.reverse:=by
 rw [a3n hi,List.take_reverse,a2a,List.drop_take]
 congr 2
 ·simp; lia
 ·congr 1; simp; lia
theorem a3w {α:Type} {X:List α} {u:α} {i:Nat} (h:u∈X.take i):∃ k,∃ hk:k < X.length,k < i∧X[k]=u:=by
 obtain ⟨m,hm,e⟩:=List.mem_iff_getElem.mp h
 rw [List.getElem_take] at e
 simp at hm
 exact ⟨m,by lia,by lia,e⟩
theorem MH.swap (h:MH lt x y o i j):MH lt y x o j i:=MI.swap h
theorem MH.moreX (h:MH lt x y o i j) (hX:Asc lt x.toList) (hi:i≤x.size) (hj:j≤y.size) (ht:t≤i) (hc:∀ m m',t≤m→m < i→m' < j→lt (gA x m) (gA y m')=false):MH lt x y (o++(x.extract t i).reverse) t j:=by
 have:=MI.more (k:=i - t) h (b1j hX) fun u hu v hv=>by
  rw [b8e hi ht,List.mem_reverse,a2a] at hu
  rw [a3n hj,List.mem_reverse] at hv
  obtain ⟨m,hm,m1,m2,rfl⟩:=a3m hu
  obtain ⟨m',hm',n1,rfl⟩:=a3w hv
  rw [← a0n hm,← a0n hm']
  exact hc m m' m1 (by lia) n1
 unfold MH
 rw [Array.toList_append,Array.toList_reverse,← b8e hi ht]
 rwa [show x.size - i + (i - t)=x.size - t by lia] at this
theorem c5y (hi:i < x.size):(x.extract i (i + 1)).toList=[gA x i]:=by
 have hl:i < x.toList.length:=by simpa using hi
 rw [a2a,show i + 1 - i=1 by lia,a7w hl,a0n hl]
theorem MH.pushX (h:MH lt x y o (i + 1) j) (hX:Asc lt x.toList) (hi:i < x.size) (hj:j≤y.size) (hc:∀ m',m' < j→lt (gA x i) (gA y m')=false):MH lt x y (o.push (gA x i)) i j:=by
 have:=h.moreX hX (show i + 1≤x.size by lia) hj (Nat.le_succ i) fun m m' h1 h2 h3=>by
  have:m=i:=by lia
  subst this; exact hc m' h3
 unfold MH at this ⊢
 rw [Array.toList_append,Array.toList_reverse,c5y hi] at this
 rw [Array.toList_push]
 simpa using this
theorem MH.pushY (h:MH lt x y o i (j + 1)) (hY:Asc lt y.toList) (hj:j < y.size) (hi:i≤x.size) (hc:∀ m',m' < i→lt (gA y j) (gA x m')=false):MH lt x y (o.push (gA y j)) i j:=(h.swap.pushX hY hj hi hc).swap
theorem MH.moreY (h:MH lt x y o i j) (hY:Asc lt y.toList) (hi:i≤x.size) (hj:j≤y.size) (ht:t≤j) (hc:∀ m m',t≤m→m < j→m' < i→lt (gA y m) (gA x m')=false):MH lt x y (o++(y.extract t j).reverse) i t:=(h.swap.moreX hY hj hi ht hc).swap
theorem Mrg.rev {X Y R:List Keyed} (h:Mrg (rv lt) X.reverse Y.reverse R):Mrg lt X Y R.reverse:=by
 refine ⟨?_,?_⟩
 ·refine R.reverse_perm.trans (h.1.trans ?_)
  exact (X.reverse_perm.append_right _).trans (Y.reverse_perm.append_left _)
 ·exact List.pairwise_reverse.mpr h.2
theorem MH.fin2 (h:MH lt x y o i j) (hX:Asc lt x.toList) (hY:Asc lt y.toList) (hi:i≤x.size) (hj:j≤y.size) (hc:∀ m m',m < i→m' < j→lt (gA x m) (gA y m')=false):Mrg lt x.toList y.toList (y.extract 0 j++x.extract 0 i++o.reverse).toList:=by
 have:=MI.fin h (b1j hX) (b1j hY) fun u hu v hv=>by
  rw [a3n hi,List.mem_reverse] at hu
  rw [a3n hj,List.mem_reverse] at hv
  obtain ⟨m,hm,m1,rfl⟩:=a3w hu
  obtain ⟨m',hm',n1,rfl⟩:=a3w hv
  rw [← a0n hm,← a0n hm']
  exact hc m m' m1 n1
 have:=this.rev
 rw [a3n hi,a3n hj] at this
 rw [Array.toList_append,Array.toList_append,Array.toList_reverse,a2a,a2a]
 simpa using this
theorem MH.fin (h:MH lt x y o i j) (hX:Asc lt x.toList) (hY:Asc lt y.toList) (hi:i≤x.size) (hj:j≤y.size) (hc:∀ m m',m < i→m' < j→lt (gA y m') (gA x m)=false):Mrg lt x.toList y.toList (x.extract 0 i++y.extract 0 j++o.reverse).toList:=(h.swap.fin2 hY hX hj hi fun m m' h1 h2=>hc m' m h2 h1).swap
end
noncomputable def mHi:Array Keyed→Array Keyed→StateT SortSt Sem (Array Keyed):=sortPriv% PySem.Builtin.mergeHi
theorem c9k (x y:Array Keyed):mHi x y=(do
 rule "list.sort.merge-hi"
 let N:=x.size + y.size
 let fin (o:Array Keyed) (i j:Nat):=x.extract 0 i++y.extract 0 j++o.reverse
 let fst (o:Array Keyed) (i j:Nat):=y.extract 0 j++x.extract 0 i++o.reverse
 let mut i:=x.size - 1; let mut j:=y.size
 let mut o:Array Keyed:=#[← elem' x i]
 if i == 0 then return fin o i j
 if j == 1 then return fst o i j
 let mut G:=gallopOf (← get)
 for _ in [0:N] do
  let mut c:=0; let mut d:=0
  for _ in [0:N] do
   let some t ← lt' (← elem' y (j - 1)) (← elem' x (i - 1)) | return fin o i j
   if t then
    i:=i - 1; o:=o.push (← elem' x i); c:=c + 1; d:=0
    if i == 0 then return fin o i j
    if c ≥ G then break
   else
    j:=j - 1; o:=o.push (← elem' y j); d:=d + 1; c:=0
    if j == 1 then return fst o i j
    if d ≥ G then break
  rule "list.sort.gallop"
  G:=G + 1
  for _ in [0:N] do
   if G > 1 then G:=G - 1
   c7f G
   let some t ← gal false (← elem' y (j - 1)) x 0 i (i - 1) | return fin o i j
   let k:=i - t; c:=k
   if k > 0 then
    o:=o++(x.extract t i).reverse; i:=t
    if i == 0 then return fin o i j
   j:=j - 1; o:=o.push (← elem' y j)
   if j == 1 then return fst o i j
   let some t ← gal true (← elem' x (i - 1)) y 0 j (j - 1) | return fin o i j
   let k:=j - t; d:=k
   if k > 0 then
    o:=o++(y.extract t j).reverse; j:=t
    if j == 1 then return fst o i j
    if j == 0 then return fin o i j
   i:=i - 1; o:=o.push (← elem' x i)
   if i == 0 then return fin o i j
   if c < 7 && d < 7 then break
  G:=G + 1
  c7f G
 unsupported "internal:list.sort.merge-bound"):=rfl
section
variable {prog:Program} {w:World} {A:Around} {E:Value→Shared→Prop} {s:Shared} {kd:SortKind} {Ok:Keyed→Prop} {lt:Keyed→Keyed→Bool}
theorem c9j (C:Cmp prog w A E s kd Ok lt) {a x y:Array Keyed} {p:Array (Nat×Nat×Nat)} {g:Nat} {Q:Array Keyed→SortSt→Prop} (hx:AllOk Ok x) (hy:AllOk Ok y) (nx:1≤x.size) (ny:1≤y.size) (sx:Asc lt x.toList) (sy:Asc lt y.toList)
  (hf:lt (gA x 0) (gA y 0)=false) (hl:∀ j,j < y.size→lt (gA x (x.size - 1)) (gA y j)=false)
  (q:∀ r g',Mrg lt x.toList y.toList r.toList→Q r (stA kd a p g')):wpS (model prog w) A E s (mHi x y) Q (stA kd a p g):=by
 rw [c9k]
 refine wpS_bind (wpS_lift (wpAny_rule ⟨rfl,?_⟩))
 dsimp only
 rw [elem'_eq,a3i (show x.size - 1 < x.size by lia)]
 refine wpS_bind (wpS_pure ?_)
 have ax:∀ {i j},i≤j→j < x.size→lt (gA x j) (gA x i)=false:=fun h1 h2=>b3m sx C.refl h1 h2
 have ay:∀ {i j},i≤j→j < y.size→lt (gA y j) (gA y i)=false:=fun h1 h2=>b3m sy C.refl h1 h2
 have M0:MH lt x y #[gA x (x.size - 1)] (x.size - 1) y.size:=by
  have h0:MH lt x y #[] (x.size - 1 + 1) y.size:=by
   refine ⟨?_,by simp,by simp⟩
   rw [show x.size - (x.size - 1 + 1)=0 by lia]; simp
  exact h0.pushX sx (by lia) (Nat.le_refl _) fun m' h2=>hl m' h2
 have finI:∀ {o i j},MH lt x y o i j→i=0→j≤y.size→Mrg lt x.toList y.toList (x.extract 0 i++y.extract 0 j++o.reverse).toList:=fun h e hj=>h.fin sx sy (by lia) hj fun m m' h1 _=>by lia
 have finJ:∀ {o i j},MH lt x y o i j→j=0→i≤x.size→Mrg lt x.toList y.toList (x.extract 0 i++y.extract 0 j++o.reverse).toList:=fun h e hi=>h.fin sx sy hi (by lia) fun m m' _ h2=>by lia
 have fstJ:∀ {o i j},MH lt x y o i j→j=1→i≤x.size→Mrg lt x.toList y.toList (y.extract 0 j++x.extract 0 i++o.reverse).toList:=fun h e hi=>h.fin2 sx sy hi (by lia) fun m m' h1 h2=>by
  have:m'=0:=by lia
  subst this
  exact C.trans _ _ _ hf (ax (Nat.zero_le _) (by lia))
 by_cases hi1:x.size - 1=0
 ·rw [if_pos (by simpa using hi1)]
  exact wpS_pure (q _ g (finI M0 hi1 (Nat.le_refl _)))
 rw [if_neg (by simpa using hi1)]
 by_cases hj1:y.size=1
 ·rw [if_pos (by simpa using hj1)]
  exact wpS_pure (q _ g (fstJ M0 hj1 (by lia)))
 rw [if_neg (by simpa using hj1)]
 refine wpS_bind (wpS_get ?_)
 let Go:=fun (o:Array Keyed) (i j T:Nat)=>MH lt x y o i j∧1≤i∧i < x.size∧2≤j∧j≤y.size∧T + i + j≤x.size + y.size
 refine wpS_bind (wpS_mono (wpS_forRange (I:=fun n c st'=>∃ g',st'=stA kd a p g'∧c.1=none∧Go c.2.2.2.1 c.2.1 c.2.2.1 n)
  (Q:=fun c st'=>∃ g' r,st'=stA kd a p g'∧c.1=some r∧Mrg lt x.toList y.toList r.toList) ?_ ?_ ⟨g,rfl,rfl,M0,by first | lia | (dsimp only; lia),by first | lia | (dsimp only; lia),by first | lia | (dsimp only; lia),by first | lia | (dsimp only; lia),by first | lia | (dsimp only; lia)⟩) ?_)
 ·rintro n c st' - hn ⟨g1,rfl,hc,hgo⟩
  obtain ⟨r,i,j,o,G⟩:=c
  dsimp only at hc hgo ⊢
  subst hc
  refine wpS_bind (wpS_mono (wpS_forRange (I:=fun n' c st'=>∃ g',st'=stA kd a p g'∧c.1=none∧Go c.2.2.2.1 c.2.1 c.2.2.1 (n + n'))
   (Q:=fun c st'=>∃ g',st'=stA kd a p g'∧((∃ r,c.1=some r∧Mrg lt x.toList y.toList r.toList) ∨ c.1=none∧Go c.2.2.2.1 c.2.1 c.2.2.1 (n + 1))) ?_ ?_ ⟨g1,rfl,rfl,hgo⟩) ?_)
  ·rintro n' c st' - hn' ⟨g2,rfl,hc,hgo⟩
   obtain ⟨r,i,j,o,cc,dd⟩:=c
   dsimp only at hc hgo ⊢
   subst hc
   obtain ⟨hM,h1,h2,h3,h4,hT⟩:=hgo
   obtain ⟨i,rfl⟩:∃ m,i=m + 1:=⟨i - 1,by lia⟩
   obtain ⟨j,rfl⟩:∃ m,j=m + 1:=⟨j - 1,by lia⟩
   simp only [Nat.add_sub_cancel]
   rw [elem'_eq,a3i (show j < y.size by lia),elem'_eq,a3i (show i < x.size by lia)]
   refine wpS_bind (wpS_pure (wpS_bind (wpS_pure (wpS_bind (C.run _ _ (hy.at (by lia)) (hx.at (by lia)) _ _ rfl ?_)))))
   rcases Bool.eq_false_or_eq_true (lt (gA y j) (gA x i)) with e | e
   ·rw [e]
    have e':=C.asym _ _ e
    simp only [if_true]
    refine wpS_bind (wpS_pure ?_)
    have hM2:=hM.pushX sx (by lia) h4 fun m' hm'=>C.trans _ _ _ (ay (show m'≤j by lia) (by lia)) e'
    by_cases hb:i=0
    ·rw [if_pos (by simpa using hb)]
     exact wpS_pure ⟨g2,rfl,.inl ⟨_,rfl,finI hM2 hb h4⟩⟩
    ·rw [if_neg (by simpa using hb)]
     split
     ·exact wpS_pure ⟨g2,rfl,.inr ⟨rfl,hM2,by first | lia | (dsimp only; lia),by first | lia | (dsimp only; lia),h3,h4,by first | lia | (dsimp only; lia)⟩⟩
     ·exact wpS_pure ⟨g2,rfl,rfl,hM2,by first | lia | (dsimp only; lia),by first | lia | (dsimp only; lia),h3,h4,by first | lia | (dsimp only; lia)⟩
   ·rw [e]
    simp only [Bool.false_eq_true,if_false]
    refine wpS_bind (wpS_pure ?_)
    have hM2:=hM.pushY sy (by lia) (by lia) fun m' hm'=>C.trans _ _ _ (ax (show m'≤i by lia) (by lia)) e
    by_cases hb:j=1
    ·rw [if_pos (by simpa using hb)]
     exact wpS_pure ⟨g2,rfl,.inl ⟨_,rfl,fstJ hM2 hb (by lia)⟩⟩
    ·rw [if_neg (by simpa using hb)]
     split
     ·exact wpS_pure ⟨g2,rfl,.inr ⟨rfl,hM2,h1,h2,by first | lia | (dsimp only; lia),by first | lia | (dsimp only; lia),by first | lia | (dsimp only; lia)⟩⟩
     ·exact wpS_pure ⟨g2,rfl,rfl,hM2,h1,h2,by first | lia | (dsimp only; lia),by first | lia | (dsimp only; lia),by first | lia | (dsimp only; lia)⟩
  ·rintro c st' ⟨g2,rfl,hc,hM,h1,h2,h3,h4,hT⟩
   exfalso; lia
  ·rintro c st' ⟨g2,rfl,hc⟩
   obtain ⟨r,i,j,o,cc,dd⟩:=c
   dsimp only at hc ⊢
   rcases hc with ⟨r',rfl,hr⟩ | ⟨rfl,hgo⟩
   ·exact wpS_pure ⟨g2,r',rfl,rfl,hr⟩
   dsimp only
   refine wpS_bind (wpS_lift (wpAny_rule ⟨rfl,?_⟩))
   refine wpS_bind (wpS_mono (wpS_forRange (I:=fun n' c st'=>∃ g',st'=stA kd a p g'∧c.1=none∧Go c.2.2.2.1 c.2.1 c.2.2.1 (n + 1 + n'))
    (Q:=fun c st'=>∃ g',st'=stA kd a p g'∧((∃ r,c.1=some r∧Mrg lt x.toList y.toList r.toList) ∨ c.1=none∧Go c.2.2.2.1 c.2.1 c.2.2.1 (n + 1))) ?_ ?_ ⟨g2,rfl,rfl,hgo⟩) ?_)
   ·rintro n' c st' - hn' ⟨g3,rfl,hc,hgo⟩
    obtain ⟨r,i,j,o,G,cc,dd⟩:=c
    dsimp only at hc hgo ⊢
    subst hc
    obtain ⟨hM,h1,h2,h3,h4,hT⟩:=hgo
    obtain ⟨j,rfl⟩:∃ m,j=m + 1:=⟨j - 1,by lia⟩
    simp only [Nat.add_sub_cancel]
    have hj:j < y.size:=by lia
    apply c6i
    ·intro key
     by_cases hG:G > 1
     ·rw [if_pos hG,a5e]
      refine wpS_bind (wpS_modify ?_)
      generalize G - 1=G1
      revert G1
      exact key
     ·rw [if_neg hG,a5e]
      refine wpS_bind (wpS_modify ?_)
      exact key G
    ·intro G
     rw [elem'_eq,a3i hj]
     refine wpS_bind (wpS_pure ?_)
     refine wpS_bind (a7m C (kd:=kd) rfl hx (hy.at hj) (by lia) (by lia) ?_ ?_)
     ·intro u v huv hv h
      simp only [a2u,Bool.false_eq_true,if_false,Bool.not_eq_true',Nat.zero_add] at h ⊢
      exact C.trans _ _ _ (ax (by lia) (by lia)) h
     intro t ht kl kr
     simp only [a2u,Bool.false_eq_true,if_false,Bool.not_eq_true',Bool.not_eq_false',Nat.zero_add] at kl kr
     dsimp only
     apply c6i
     ·intro cont
      have hM1:=hM.moreX (t:=t) sx (by lia) h4 ht fun m m' g1 g2 g3=>C.trans _ _ _ (ay (show m'≤j by lia) hj) (C.asym _ _ (kr m g1 g2))
      by_cases hk0:i - t > 0
      rw [if_pos hk0]
      by_cases hb1:t=0
      rw [if_pos (by simpa using hb1)]
      exact wpS_pure ⟨_,rfl,.inl ⟨_,rfl,finI hM1 hb1 h4⟩⟩
      rw [if_neg (by simpa using hb1)]
      have hT2:n + 1 + n' + t + (j + 1)≤x.size + y.size:=by lia
      have h5:1≤t:=by lia
      have h6:t < x.size:=by lia
      generalize o++(x.extract t i).reverse=o1 at hM1 ⊢
      generalize i - t=ck
      have kl2:=kl
      revert hM1 hT2 h5 h6 kl2
      generalize t=t1
      revert o1 ck t1
      exact cont
      rw [if_neg hk0]
      have hk0:t=i:=by lia
      subst hk0
      rw [show o++(x.extract t t).reverse=o by simp; lia] at hM1
      have hT2:n + 1 + n' + t + (j + 1)≤x.size + y.size:=by lia
      have h5:1≤t:=by lia
      have h6:t < x.size:=by lia
      generalize o=o1 at hM1 ⊢
      generalize t - t=ck
      exact cont _ _ _ hT2 h5 h6 hM1 kl
     intro o1 ck t hT2 h5 h6 hM1 kl
     obtain ⟨t,rfl⟩:∃ m,t=m + 1:=⟨t - 1,by lia⟩
     simp only [Nat.add_sub_cancel]
     refine wpS_bind (wpS_pure ?_)
     have hM2:=hM1.pushY sy hj (by lia) fun m' hm'=>kl m' hm'
     by_cases hb3:j=1
     ·rw [if_pos (by simpa using hb3)]
      exact wpS_pure ⟨_,rfl,.inl ⟨_,rfl,fstJ hM2 hb3 (by lia)⟩⟩
     rw [if_neg (by simpa using hb3),elem'_eq,a3i (show t < x.size by lia)]
     refine wpS_bind (wpS_pure ?_)
     refine wpS_bind (a7m C (kd:=kd) rfl hy (hx.at (show t < x.size by lia)) (by lia) (by lia) ?_ ?_)
     ·intro u v huv hv h
      simp only [a2u,if_true,Nat.zero_add] at h ⊢
      cases e:lt (gA y u) (gA x t) with
      | true=>rfl
      | false =>
       have:=C.trans _ _ _ e (ay huv (by lia))
       rw [h] at this; cases this
     intro b hb kl2 kr2
     simp only [a2u,if_true,Nat.zero_add] at kl2 kr2
     dsimp only
     apply c6i
     ·intro cont
      have hM3:=hM2.moreY (t:=b) sy (by lia) (by lia) hb fun m m' g1 g2 g3=>C.trans _ _ _ (ax (show m'≤t by lia) (by lia)) (kr2 m g1 g2)
      by_cases hk1:j - b > 0
      rw [if_pos hk1]
      by_cases hb4:b=1
      rw [if_pos (by simpa using hb4)]
      exact wpS_pure ⟨_,rfl,.inl ⟨_,rfl,fstJ hM3 hb4 (by lia)⟩⟩
      rw [if_neg (by simpa using hb4)]
      by_cases hb5:b=0
      rw [if_pos (by simpa using hb5)]
      exact wpS_pure ⟨_,rfl,.inl ⟨_,rfl,finJ hM3 hb5 (by lia)⟩⟩
      rw [if_neg (by simpa using hb5)]
      have h7:2≤b:=by lia
      have h8:b≤y.size:=by lia
      have hT3:n + 1 + n' + 1 + t + b≤x.size + y.size:=by lia
      generalize (o1.push (gA y j))++(y.extract b j).reverse=o2 at hM3 ⊢
      generalize j - b=dk
      have kl3:=kl2
      revert hM3 h7 h8 hT3 kl3
      generalize b=b1
      revert o2 dk b1
      exact cont
      rw [if_neg hk1]
      have hk1:b=j:=by lia
      subst hk1
      rw [show o1.push (gA y b)++(y.extract b b).reverse=o1.push (gA y b) by simp; lia] at hM3
      have h7:2≤b:=by lia
      have h8:b≤y.size:=by lia
      have hT3:n + 1 + n' + 1 + t + b≤x.size + y.size:=by lia
      generalize (o1.push (gA y b))=o2 at hM3 ⊢
      generalize b - b=dk
      exact cont _ _ _ h7 h8 hT3 hM3 kl2
     intro o2 dk b h7 h8 hT3 hM3 kl2
     refine wpS_bind (wpS_pure ?_)
     have hM4:=hM3.pushX sx (show t < x.size by lia) h8 fun m' hm'=>C.asym _ _ (kl2 m' hm')
     by_cases hb6:t=0
     ·rw [if_pos (by simpa using hb6)]
      exact wpS_pure ⟨_,rfl,.inl ⟨_,rfl,finI hM4 hb6 h8⟩⟩
     rw [if_neg (by simpa using hb6)]
     split
     ·exact wpS_pure ⟨_,rfl,.inr ⟨rfl,hM4,by first | lia | (dsimp only; lia),by first | lia | (dsimp only; lia),h7,h8,by first | lia | (dsimp only; lia)⟩⟩
     ·exact wpS_pure ⟨_,rfl,rfl,hM4,by first | lia | (dsimp only; lia),by first | lia | (dsimp only; lia),h7,h8,by first | lia | (dsimp only; lia)⟩
   ·rintro c st' ⟨g3,rfl,hc,hM,h1,h2,h3,h4,hT⟩
    exfalso; lia
   ·rintro c st' ⟨g3,rfl,hc⟩
    obtain ⟨r,i,j,o,G,cc,dd⟩:=c
    dsimp only at hc ⊢
    rcases hc with ⟨r',rfl,hr⟩ | ⟨rfl,hgo⟩
    ·exact wpS_pure ⟨g3,r',rfl,rfl,hr⟩
    ·dsimp only
     rw [a5e]
     exact wpS_bind (wpS_modify (wpS_pure ⟨_,rfl,rfl,hgo⟩))
 ·rintro c st' ⟨g2,rfl,hc,hM,h1,h2,h3,h4,hT⟩
  exfalso; lia
 ·rintro c st' ⟨g2,r,rfl,hc,hr⟩
  obtain ⟨r',i,j,o,cc⟩:=c
  dsimp only at hc ⊢
  subst hc
  exact wpS_pure (q _ _ hr)
end
theorem b0o {lt:Keyed→Keyed→Bool} (hr:∀ u,lt u u=false) {a:Array Keyed} {lo hi:Nat} (hh:hi≤a.size):Srt lt a lo hi↔Asc lt ((a.toList.drop lo).take (hi - lo)):=by
 rw [Asc,List.pairwise_iff_getElem]
 constructor
 ·intro h i j hi' hj hij
  simp at hi' hj
  simp only [List.getElem_take,List.getElem_drop]
  have:=h (lo + i) (lo + j) (by lia) (by lia) (by lia)
  rwa [a0n (show lo + i < a.toList.length by simp; lia),a0n (show lo + j < a.toList.length by simp; lia)] at this
 ·intro h i j h1 h2 h3
  by_cases e:i=j
  ·subst e; exact hr _
  ·have:=h (i - lo) (j - lo) (by simp; lia) (by simp; lia) (by lia)
   simp only [List.getElem_take,List.getElem_drop,show lo + (i - lo)=i by lia,show lo + (j - lo)=j by lia] at this
   rw [a0n (show i < a.toList.length by simp; lia),a0n (show j < a.toList.length by simp; lia)]
   exact this
noncomputable def back (r:Array Keyed) (s:Nat) (a:Array Keyed):Array Keyed:=r.toList.zipIdx.foldl (fun a q=>a.setIfInBounds (s + q.2) q.1) a
theorem a9s (s:Nat):∀ (l:List Keyed) (k:Nat) (a:Array Keyed),s + k + l.length≤a.size→((l.zipIdx k).foldl (fun a q=>a.setIfInBounds (s + q.2) q.1) a).toList=a.toList.take (s + k)++l++a.toList.drop (s + k + l.length)
 | [],k,a,_=>by simp
 | x :: l,k,a,h=>by
  rw [List.zipIdx_cons,List.foldl_cons,a9s s l (k + 1) _ (by simp at h ⊢; lia)]
  have hk:s + k < a.toList.length:=by simp at h ⊢; lia
  have e:(a.setIfInBounds (s + k) x).toList=a.toList.take (s + k)++x :: a.toList.drop (s + k + 1):=by
   rw [Array.toList_setIfInBounds,List.set_eq_take_append_cons_drop,if_pos hk]
  show (a.setIfInBounds (s + k) x).toList.take (s + (k + 1))++l++(a.setIfInBounds (s + k) x).toList.drop (s + (k + 1) + l.length)=_
  have hl:(a.toList.take (s + k)).length=s + k:=by rw [List.length_take]; lia
  have e1:(a.setIfInBounds (s + k) x).toList.take (s + (k + 1))=a.toList.take (s + k)++[x]:=by
   rw [e,List.take_append,List.take_of_length_le (by rw [hl]; lia),hl,show s + (k + 1) - (s + k)=1 by lia]; rfl
  have e2:(a.setIfInBounds (s + k) x).toList.drop (s + (k + 1) + l.length)=a.toList.drop (s + k + (x :: l).length):=by
   rw [e,List.drop_append,List.drop_of_length_le (by rw [hl]; lia),hl,show s + (k + 1) + l.length - (s + k)=l.length + 1 by lia,List.nil_append,List.drop_succ_cons,List.drop_drop,List.length_cons]
   congr 1; lia
  rw [e1,e2]; simp
theorem b8n {r a:Array Keyed} {s:Nat} (h:s + r.size≤a.size):(back r s a).toList=a.toList.take s++r.toList++a.toList.drop (s + r.size):=by
 have:=a9s s r.toList 0 a (by simpa using h)
 simpa [back] using this
theorem b3w (i:Nat):mergeAt' i=(do
 let z ← get
 let (some (u,m,e),some (v,n,_)):=((pendingOf z)[i]?,(pendingOf z)[i + 1]?) | unsupported "internal:list.sort.pending"
 set (SortSt.mk' (kindOf z) (arrOf z) (((pendingOf z).setIfInBounds i (u,m + n,e)).eraseIdxIfInBounds (i + 1)) (gallopOf z) (failedOf z))
 let some k ← gal false (← elem' (arrOf z) v) (arrOf z) u m 0 | return false
 let (u,m):=(u + k,m - k)
 if m == 0 then return true
 let some n ← gal true (← elem' (arrOf z) (u + m - 1)) (arrOf z) v n (n - 1) | return false
 if n == 0 then return true
 let x:=(arrOf z).extract u v
 let y:=(arrOf z).extract v (v + n)
 let r ← if m≤n then mLo x y else mHi x y
 modify fun z=>setArr z (r.toList.zipIdx.foldl (fun a (p,j)=>a.setIfInBounds (u + j) p) (arrOf z))
 return (failedOf (← get)).isNone):=rfl
section
variable {prog:Program} {w:World} {A:Around} {E:Value→Shared→Prop} {s:Shared} {kd:SortKind} {Ok:Keyed→Prop} {lt:Keyed→Keyed→Bool}
theorem c2s {Q:PUnit→SortSt→Prop} {st st':SortSt} (h:Q ⟨⟩ st'):wpS (model prog w) A E s (set st':StateT SortSt Sem PUnit) Q st:=by
 unfold wpS; rw [StateT.run_set]; exact Γb ⟨rfl,h⟩
theorem b2z {a:Array Keyed} {i j k:Nat} (hj:j≤a.size) (hk:i + k < j):gA (a.extract i j) k=gA a (i + k):=by
 apply a2z
 rw [Array.getElem?_extract,if_pos (by lia)]
theorem c9l (C:Cmp prog w A E s kd Ok lt) {a:Array Keyed} {p:Array (Nat×Nat×Nat)} {g i u m e n f:Nat} {Q:Bool→SortSt→Prop} (ho:AllOk Ok a) (h1:p[i]?=some (u,m,e)) (h2:p[i + 1]?=some (u + m,n,f)) (hm:1≤m) (hn:1≤n) (hz:u + m + n≤a.size) (s1:Srt lt a u (u + m)) (s2:Srt lt a (u + m) (u + m + n))
  (q:∀ b g',Out a b u (u + m + n)→Srt lt b u (u + m + n)→Q true (stA kd b ((p.setIfInBounds i (u,m + n,e)).eraseIdxIfInBounds (i + 1)) g')):wpS (model prog w) A E s (mergeAt' i) Q (stA kd a p g):=by
 rw [b3w]
 refine wpS_bind (wpS_get ?_)
 show wpS _ _ _ _ (match (p[i]?,p[i + 1]?) with | (some (u,m,e),some (v,n,_))=>_ | _=>_) _ _
 rw [h1,h2]
 refine wpS_bind (c2s ?_)
 generalize ((p.setIfInBounds i (u,m + n,e)).eraseIdxIfInBounds (i + 1))=p' at q ⊢
 rw [show arrOf (stA kd a p g)=a from rfl,show SortSt.mk' (kindOf (stA kd a p g)) a p' (gallopOf (stA kd a p g)) (failedOf (stA kd a p g))=stA kd a p' g from rfl,elem'_eq,a3i (show u + m < a.size by lia)]
 refine wpS_bind (wpS_pure ?_)
 refine wpS_bind (a7m C (kd:=kd) rfl ho (ho.at (by lia)) (by lia) (by lia) ?_ ?_)
 ·intro x y hxy hy h
  simp only [a2u,Bool.false_eq_true,if_false,Bool.not_eq_true'] at h ⊢
  exact C.trans _ _ _ (s1 _ _ (by lia) (by lia) (by lia)) h
 intro k hk kl kr
 simp only [a2u,Bool.false_eq_true,if_false,Bool.not_eq_true',Bool.not_eq_false'] at kl kr
 dsimp only
 -- where all of the first row is ahead of the second
 have whole:(∀ i j,u≤i→i < u + m→u + m≤j→j < u + m + n→lt (gA a j) (gA a i)=false)→Srt lt a u (u + m + n):=by
  intro h i j h1 h2 h3
  by_cases hj:j < u + m
  ·exact s1 i j h1 h2 hj
  ·by_cases hi:i < u + m
   ·exact h i j h1 hi (by lia) h3
   ·exact s2 i j (by lia) h2 h3
 by_cases hb:m - k=0
 ·rw [if_pos (by simpa using hb)]
  refine wpS_pure (q a g (Out.refl _ _ _) (whole fun i j h1 h2 h3 h4=>?_))
  have:=kl (i - u) (by lia)
  rw [show u + (i - u)=i by lia] at this
  exact C.trans _ _ _ this (s2 _ _ (Nat.le_refl _) h3 h4)
 rw [if_neg (by simpa using hb),elem'_eq,a3i (show u + k + (m - k) - 1 < a.size by lia)]
 refine wpS_bind (wpS_pure ?_)
 rw [show u + k + (m - k) - 1=u + m - 1 by lia]
 refine wpS_bind (a7m C (kd:=kd) rfl ho (ho.at (by lia)) (by lia) (by lia) ?_ ?_)
 ·intro x y hxy hy h
  simp only [a2u,if_true] at h ⊢
  cases e:lt (gA a (u + m + x)) (gA a (u + m - 1)) with
  | true=>rfl
  | false =>
   have:=C.trans _ _ _ e (s2 (u + m + x) (u + m + y) (by lia) (by lia) (by lia))
   rw [h] at this; cases this
 intro t ht kl2 kr2
 simp only [a2u,if_true] at kl2 kr2
 dsimp only
 by_cases hb2:t=0
 ·rw [if_pos (by simpa using hb2)]
  refine wpS_pure (q a g (Out.refl _ _ _) (whole fun i j h1 h2 h3 h4=>?_))
  have:=kr2 (j - (u + m)) (by lia) (by lia)
  rw [show u + m + (j - (u + m))=j by lia] at this
  exact C.trans _ _ _ (s1 i (u + m - 1) h1 (by lia) (by lia)) this
 rw [if_neg (by simpa using hb2)]
 have xs:(a.extract (u + k) (u + m)).size=m - k:=by rw [Array.size_extract]; lia
 have ys:(a.extract (u + m) (u + m + t)).size=t:=by rw [Array.size_extract]; lia
 have xl:(a.extract (u + k) (u + m)).toList=(a.toList.drop (u + k)).take (m - k):=by rw [a2a]; congr 1; lia
 have yl:(a.extract (u + m) (u + m + t)).toList=(a.toList.drop (u + m)).take t:=by rw [a2a]; congr 1; lia
 have hx:AllOk Ok (a.extract (u + k) (u + m)):=fun z hz=>ho z (by rw [xl] at hz; exact List.mem_of_mem_drop (List.mem_of_mem_take hz))
 have hy:AllOk Ok (a.extract (u + m) (u + m + t)):=fun z hz=>ho z (by rw [yl] at hz; exact List.mem_of_mem_drop (List.mem_of_mem_take hz))
 have sx:Asc lt (a.extract (u + k) (u + m)).toList:=by
  rw [xl]
  have:Srt lt a (u + k) (u + m):=fun i j h1 h2 h3=>s1 i j (by lia) h2 h3
  have:=(b0o C.refl (by lia)).mp this
  rwa [show u + m - (u + k)=m - k by lia] at this
 have sy:Asc lt (a.extract (u + m) (u + m + t)).toList:=by
  rw [yl]
  have:Srt lt a (u + m) (u + m + t):=fun i j h1 h2 h3=>s2 i j h1 h2 (by lia)
  have:=(b0o C.refl (by lia)).mp this
  rwa [show u + m + t - (u + m)=t by lia] at this
 have hf:lt (gA (a.extract (u + k) (u + m)) 0) (gA (a.extract (u + m) (u + m + t)) 0)=false:=by
  rw [b2z (by lia) (by lia),b2z (by lia) (by lia)]
  exact C.asym _ _ (kr k (Nat.le_refl _) (by lia))
 have hl:∀ j,j < (a.extract (u + m) (u + m + t)).size→lt (gA (a.extract (u + k) (u + m)) ((a.extract (u + k) (u + m)).size - 1)) (gA (a.extract (u + m) (u + m + t)) j)=false:=by
  intro j hj
  rw [ys] at hj
  rw [xs,b2z (by lia) (by lia),b2z (by lia) (by lia),show u + k + (m - k - 1)=u + m - 1 by lia]
  exact C.asym _ _ (kl2 j hj)
 have last:∀ r g',Mrg lt (a.extract (u + k) (u + m)).toList (a.extract (u + m) (u + m + t)).toList r.toList→Q true (stA kd (back r (u + k) a) p' g'):=by
  intro r g' hr
  rw [xl,yl] at hr
  have rs:r.size=m - k + t:=by
   have:=hr.1.length_eq
   simp at this; lia
  have bl:=b8n (r:=r) (a:=a) (s:=u + k) (by lia)
  have pm:(back r (u + k) a).Perm a:=by
   rw [Array.perm_iff_toList_perm,bl,rs]
   have:a.toList=a.toList.take (u + k)++((a.toList.drop (u + k)).take (m - k)++(a.toList.drop (u + m)).take t)++a.toList.drop (u + k + (m - k + t)):=by
    have e1:(a.toList.drop (u + k)).take (m - k)++(a.toList.drop (u + m)).take t=(a.toList.drop (u + k)).take (m - k + t):=by
     rw [List.take_add,List.drop_drop,show u + k + (m - k)=u + m by lia]
    rw [e1,← List.take_add,List.take_append_drop]
   conv=>rhs; rw [this]
   exact (hr.1.append_left _).append_right _
  have bsz:(back r (u + k) a).size=a.size:=pm.size_eq
  have hlen:(a.toList.take (u + k)).length=u + k:=by simp; lia
  -- an item behind,by its place
  have out1:∀ i,i < u + k→gA (back r (u + k) a) i=gA a i:=fun i hi=>by
   rw [a0n (show i < (back r (u + k) a).toList.length by simp; lia),a0n (show i < a.toList.length by simp; lia)]
   simp only [bl]
   rw [List.getElem_append_left (by simp; lia),List.getElem_append_left (by simp; lia),List.getElem_take]
  have out2:∀ i,u + m + t≤i→gA (back r (u + k) a) i=gA a i:=fun i hi=>by
   by_cases hs:i < a.size
   ·rw [a0n (show i < (back r (u + k) a).toList.length by simp; lia),a0n (show i < a.toList.length by simp; lia)]
    simp only [bl]
    rw [List.getElem_append_right (by simp; lia),List.getElem_drop]
    congr 1
    simp
    lia
   ·apply a2z
    rw [Array.getElem?_eq_none (by lia),Array.getElem?_eq_none (by lia)]
  have inr:∀ i,(h1:u + k≤i)→(h2:i < u + m + t)→gA (back r (u + k) a) i=r.toList[i - (u + k)]'(by simp; lia):=fun i h1 h2=>by
   rw [a0n (show i < (back r (u + k) a).toList.length by simp; lia)]
   simp only [bl]
   rw [List.getElem_append_left (by simp; lia),List.getElem_append_right (by simp; lia)]
   congr 1
   simp; lia
  have inn:∀ i,u + k≤i→i < u + m + t→gA (back r (u + k) a) i∈r.toList:=fun i h1 h2=>by
   rw [a0n (show i < (back r (u + k) a).toList.length by simp; lia)]
   simp only [bl]
   rw [List.getElem_append_left (by simp; lia),List.getElem_append_right (by simp; lia)]
   exact List.getElem_mem _
  have mem:∀ z∈r.toList,(∃ i,u + k≤i∧i < u + m∧z=gA a i) ∨ ∃ i,u + m≤i∧i < u + m + t∧z=gA a i:=fun z hz=>by
   rcases List.mem_append.mp (hr.1.mem_iff.mp hz) with hz | hz
   ·obtain ⟨i,hi,i1,i2,e⟩:=a3m hz
    exact .inl ⟨i,i1,by lia,by rw [a0n hi,e]⟩
   ·obtain ⟨i,hi,i1,i2,e⟩:=a3m hz
    exact .inr ⟨i,i1,by lia,by rw [a0n hi,e]⟩
  refine q _ g' ⟨pm,fun i hi=>?_⟩ fun i j h1 h2 h3=>?_
  ·rcases hi with hi | hi
   ·exact out1 i (by lia)
   ·exact out2 i (by lia)
  ·by_cases hi1:i < u + k
   ·rw [out1 i hi1]
    have low:=kl (i - u) (by lia)
    rw [show u + (i - u)=i by lia] at low
    by_cases hj1:j < u + k
    ·rw [out1 j hj1]; exact s1 i j h1 h2 (by lia)
    ·by_cases hj2:j < u + m + t
     ·rcases mem _ (inn j (by lia) hj2) with ⟨j',a1,a2,e⟩ | ⟨j',a1,a2,e⟩
      ·rw [e]; exact s1 i j' h1 (by lia) (by lia)
      ·rw [e]; exact C.trans _ _ _ low (s2 _ _ (Nat.le_refl _) a1 (by lia))
     ·rw [out2 j (by lia)]
      exact C.trans _ _ _ low (s2 _ _ (Nat.le_refl _) (by lia) h3)
   ·by_cases hj2:j < u + m + t
    ·by_cases e:i=j
     ·subst e; exact C.refl _
     ·have ha:=List.pairwise_iff_getElem.mp hr.2
      have:=ha (i - (u + k)) (j - (u + k)) (by simp; lia) (by simp; lia) (by lia)
      rw [inr i (by lia) (by lia),inr j (by lia) hj2]
      exact this
    ·rw [out2 j (by lia)]
     by_cases hi2:i < u + m + t
     ·have up:=kr2 (j - (u + m)) (by lia) (by lia)
      rw [show u + m + (j - (u + m))=j by lia] at up
      rcases mem _ (inn i (by lia) hi2) with ⟨i',a1,a2,e⟩ | ⟨i',a1,a2,e⟩
      ·rw [e]; exact C.trans _ _ _ (s1 i' (u + m - 1) (by lia) (by lia) (by lia)) up
      ·rw [e]; exact s2 i' j a1 (by lia) h3
     ·rw [out2 i (by lia)]
      exact s2 i j (by lia) h2 h3
 by_cases hmn:m - k≤t
 ·rw [if_pos hmn]
  refine wpS_bind (c9h C hx hy (by lia) (by lia) sx sy hf hl fun r g' hr=>?_)
  refine wpS_bind (wpS_modify (wpS_bind (wpS_get (wpS_pure ?_))))
  exact last r g' hr
 ·rw [if_neg hmn]
  refine wpS_bind (c9j C hx hy (by lia) (by lia) sx sy hf hl fun r g' hr=>?_)
  refine wpS_bind (wpS_modify (wpS_bind (wpS_get (wpS_pure ?_))))
  exact last r g' hr
end
noncomputable def Cov (lt:Keyed→Keyed→Bool) (a:Array Keyed):List (Nat×Nat×Nat)→Nat→Nat→Prop
 | [],s,e=>s=e
 | (u,n,_) :: r,s,e=>u=s∧1≤n∧Srt lt a s (s + n)∧Cov lt a r (s + n) e
section
variable {lt:Keyed→Keyed→Bool} {a b:Array Keyed}
theorem Cov.le:∀ {l:List (Nat×Nat×Nat)} {s e:Nat},Cov lt a l s e→s + l.length≤e
 | [],s,e,h=>by cases (show s=e from h); simp
 | (u,n,_) :: r,s,e,⟨_,h2,_,h4⟩=>by have:=h4.le; simp; lia
theorem Cov.out:∀ {l:List (Nat×Nat×Nat)} {s e lo hi:Nat},Cov lt a l s e→Out a b lo hi→e≤lo ∨ hi≤s→Cov lt b l s e
 | [],s,e,lo,hi,h,o,d=>h
 | (u,n,_) :: r,s,e,lo,hi,⟨h1,h2,h3,h4⟩,o,d=>⟨h1,h2,h3.out o (by have:=h4.le; lia),h4.out o (by lia)⟩
theorem Cov.snoc:∀ {l:List (Nat×Nat×Nat)} {s e n f:Nat},Cov lt a l s e→1≤n→Srt lt a e (e + n)→Cov lt a (l++[(e,n,f)]) s (e + n)
 | [],s,e,n,f,h,h1,h2=>by cases (show s=e from h); exact ⟨rfl,h1,h2,rfl⟩
 | (u,m,_) :: r,s,e,n,f,⟨g1,g2,g3,g4⟩,h1,h2=>⟨g1,g2,g3,g4.snoc h1 h2⟩
theorem Cov.join : ∀ {l : List (Nat × Nat × Nat)} {i s e : Nat}, Cov lt a l s e → i + 1 < l.length → ∃ u m f n f', l[i]? = some (u, m, f) ∧ l[i + 1]? = some (u + m, n, f') ∧ 1 ≤ m ∧ 1 ≤ n ∧ s ≤ u ∧ u + m + n ≤ e ∧ Srt lt a u (u + m) ∧ Srt lt a (u + m) (u + m + n) ∧
      ∀ b, Out a b u (u + m + n) → Srt lt b u (u + m + n) → Cov lt b ((l.set i (u, m + n, f)).eraseIdx (i + 1)) s e
  | [], i, s, e, h, hi => by simp at hi
  | [_], i, s, e, h, hi => by simp at hi
  | (u, m, f) :: (v, n, f') :: r, 0, s, e, ⟨g1, g2, g3, g4, g5, g6, g7⟩, hi => by
    subst g1; subst g4
    refine ⟨u, m, f, n, f', rfl, rfl, g2, g5, Nat.le_refl _, by have := g7.le; lia, g3, g6, fun b o hs => ?_⟩
    refine ⟨rfl, by lia, by rw [← Nat.add_assoc]; exact hs, ?_⟩
    rw [← Nat.add_assoc]
    exact g7.out o (.inr (Nat.le_refl _))
  | (u, m, f) :: q :: r, i + 1, s, e, ⟨g1, g2, g3, g4⟩, hi => by
    obtain ⟨u', m', f1, n', f2, e1, e2, h1, h2, h3, h4, h5, h6, h7⟩ := Cov.join (i := i) g4 (by simpa using hi)
    refine ⟨u', m', f1, n', f2, by simpa using e1, by simpa using e2, h1, h2, by lia, h4, h5, h6, fun b o hs => ?_⟩
    have := h7 b o hs
    rw [List.set_cons_succ, List.eraseIdx_cons_succ]
    exact ⟨g1, g2, g3.out o (.inl h3), this⟩
theorem Cov.pow:∀ {l:List (Nat×Nat×Nat)} {i s e:Nat} (f:Nat×Nat×Nat→Nat×Nat×Nat),(∀ x,(f x).1=x.1∧(f x).2.1=x.2.1)→Cov lt a l s e→Cov lt a (l.modify i f) s e
 | [],i,s,e,f,hf,h=>by simpa using h
 | (u,n,w) :: r,0,s,e,f,hf,⟨h1,h2,h3,h4⟩=>by
  obtain ⟨e1,e2⟩:=hf (u,n,w)
  rw [List.modify_zero_cons]
  rcases e0:f (u,n,w) with ⟨u',n',w'⟩
  rw [e0] at e1 e2
  dsimp only at e1 e2
  subst e1; subst e2
  exact ⟨h1,h2,h3,h4⟩
 | q :: r,i + 1,s,e,f,hf,h=>by
  obtain ⟨u,n,w⟩:=q
  rw [List.modify_succ_cons]
  exact ⟨h.1,h.2.1,h.2.2.1,h.2.2.2.pow f hf⟩
end
section
variable {prog:Program} {w:World} {A:Around} {E:Value→Shared→Prop} {s:Shared} {kd:SortKind} {Ok:Keyed→Prop} {lt:Keyed→Keyed→Bool}
theorem b2e (C:Cmp prog w A E s kd Ok lt) {a:Array Keyed} {p:Array (Nat×Nat×Nat)} {g i e:Nat} {Q:Bool→SortSt→Prop} (ho:AllOk Ok a) (hc:Cov lt a p.toList 0 e) (hh:e≤a.size) (hi:i + 1 < p.size)
  (q:∀ b p' g',Out a b 0 e→Cov lt b p'.toList 0 e→p'.size + 1=p.size→Q true (stA kd b p' g')):wpS (model prog w) A E s (mergeAt' i) Q (stA kd a p g):=by
 obtain ⟨u,m,f,n,f',e1,e2,h1,h2,h3,h4,h5,h6,h7⟩:=hc.join (i:=i) (by simpa using hi)
 rw [Array.getElem?_toList] at e1 e2
 refine c9l C ho e1 e2 h1 h2 (by lia) h5 h6 fun b g' o hs=>?_
 have hl:((p.setIfInBounds i (u,m + n,f)).eraseIdxIfInBounds (i + 1)).toList=(p.toList.set i (u,m + n,f)).eraseIdx (i + 1):=by
  simp
 refine q b _ g' (o.wide (by lia) h4) (by rw [hl]; exact h7 b o hs) ?_
 rw [← Array.length_toList,hl,List.length_eraseIdx_of_lt (by simpa using hi),List.length_set,Array.length_toList]
 lia
theorem c3k (C:Cmp prog w A E s kd Ok lt) {a:Array Keyed} {g:Nat} {Q:Unit→SortSt→Prop} (ho:AllOk Ok a) (h2:2≤a.size)
  (q:∀ b p g',b.Perm a→Srt lt b 0 a.size→Q () (stA kd b p g')):wpS (model prog w) A E s sortRuns' Q (stA kd a #[] g):=by
 rw [sortRuns'_eq]
 refine wpS_bind (wpS_get ?_)
 dsimp only
 rw [show arrOf (stA kd a #[] g)=a from rfl]
 generalize minRun' a.size a.size 0=mr
 refine wpS_bind (wpS_mono (wpS_forRange (I:=fun n c st'=>∃ b p g' lo,st'=stA kd b p g'∧c=(none,lo)∧b.Perm a∧Cov lt b p.toList 0 lo∧lo≤a.size∧(lo=a.size ∨ n≤lo))
  (Q:=fun c st'=>∃ b p g',st'=stA kd b p g'∧c=(none,a.size)∧b.Perm a∧Cov lt b p.toList 0 a.size) ?_ ?_ ⟨a,#[],g,0,rfl,rfl,Array.Perm.refl _,rfl,by lia,by lia⟩) ?_)
 ·rintro x c st' - hx ⟨b,p,g',lo,rfl,rfl,hp,hc,hlo,hor⟩
  dsimp only
  by_cases hge:lo ≥ a.size
  ·rw [if_pos hge]
   have:lo=a.size:=by lia
   subst this
   exact wpS_pure ⟨b,p,g',rfl,rfl,hp,hc⟩
  rw [if_neg hge]
  have hbz:=hp.size_eq
  have hob:=ho.perm hp
  refine wpS_bind (c7i C hob (by lia) (by lia) fun m b1 m1 m2 o1 s1=>?_)
  dsimp only
  have hp1:=o1.1.trans hp
  have hc1:=hc.out o1 (.inl (Nat.le_refl _))
  have hob1:=ho.perm hp1
  have hb1:=hp1.size_eq
  by_cases hmr:m < mr
  rw [if_pos hmr]
  refine wpS_bind (wpS_lift (wpAny_rule ⟨rfl,?_⟩))
  refine wpS_bind (c9z C (n:=min (a.size - lo) mr) hob1 m1 (by lia) (by lia) s1 fun b2 o2 s2=>?_)
  simp only [Bool.not_true,Bool.false_eq_true,if_false]
  have hp2:=o2.1.trans hp1
  have hc2:=hc1.out o2 (.inl (Nat.le_refl _))
  have hn1:1≤min (a.size - lo) mr:=by lia
  have hn2:lo + min (a.size - lo) mr≤a.size:=by lia
  generalize min (a.size - lo) mr=n at s2 hn1 hn2 ⊢
  clear s1 o1 o2 hp1 hc1 hob1 hb1 hob hbz hc hp
  rotate_left
  rw [if_neg hmr]
  have hp2:=hp1
  have hc2:=hc1
  have s2:=s1
  have hn1:=m1
  have hn2:lo + m≤a.size:=by lia
  clear s1 o1 hp1 hc1 hob1 hb1 hob hbz hc hp m2
  generalize b1=b2 at hp2 hc2 s2 ⊢
  generalize m=n at s2 hn1 hn2 ⊢
  all_goals
   have fin:∀ (b3:Array Keyed) (p3:Array (Nat×Nat×Nat)) (g3:Nat),b3.Perm a→Cov lt b3 p3.toList 0 lo→Srt lt b3 lo (lo + n)→∃ (b:Array Keyed) (p:Array (Nat×Nat×Nat)) (g' lo':Nat),stA kd b3 (p3.push (lo,n,0)) g3=stA kd b p g'∧((none,lo + n):Option Unit×Nat)=(none,lo')∧b.Perm a∧Cov lt b p.toList 0 lo'∧lo'≤a.size∧(lo'=a.size ∨ x + 1≤lo'):=by
    intro b3 p3 g3 i1 i2 i3
    refine ⟨b3,_,g3,lo + n,rfl,rfl,i1,?_,hn2,by lia⟩
    rw [Array.toList_push]
    exact i2.snoc hn1 i3
   refine wpS_bind (wpS_get ?_)
   rw [show pendingOf (stA kd b2 p g')=p from rfl]
   rcases hbk:p.back? with _ | ⟨s1,n1,w1⟩
   ·exact wpS_bind (wpS_modify (wpS_pure (fin b2 p g' hp2 hc2 s2)))
   ·dsimp only
    generalize power' a.size (2 * s1 + n1) (2 * s1 + n1 + n1 + n) a.size=pw
    refine wpS_bind (wpS_mono (wpS_forRange (I:=fun _ c st'=>∃ b p g',st'=stA kd b p g'∧c=(none,())∧b.Perm a∧Cov lt b p.toList 0 lo∧Srt lt b lo (lo + n))
     (Q:=fun c st'=>∃ b p g',st'=stA kd b p g'∧c=(none,())∧b.Perm a∧Cov lt b p.toList 0 lo∧Srt lt b lo (lo + n)) ?_ (fun _ _ h=>h) ⟨b2,p,g',rfl,rfl,hp2,hc2,s2⟩) ?_)
    ·rintro x' c st' - hx' ⟨b3,p3,g3,rfl,rfl,i1,i2,i3⟩
     refine wpS_bind (wpS_get ?_)
     rw [show pendingOf (stA kd b3 p3 g3)=p3 from rfl]
     have hb3:=i1.size_eq
     by_cases hz:p3.size > 1
     ·rw [if_pos hz]
      rcases hq:p3[p3.size - 2]? with _ | ⟨t1,t2,t3⟩
      ·exact wpS_pure ⟨b3,p3,g3,rfl,rfl,i1,i2,i3⟩
      ·dsimp only
       by_cases ht:t3≤pw
       ·rw [if_pos ht]; exact wpS_pure ⟨b3,p3,g3,rfl,rfl,i1,i2,i3⟩
       ·rw [if_neg ht]
        refine wpS_bind (b2e C (ho.perm i1) i2 (by lia) (by lia) fun b4 p4 g4 o4 c4 _=>?_)
        simp only [Bool.not_true,Bool.false_eq_true,if_false]
        exact wpS_pure ⟨b4,p4,g4,rfl,rfl,o4.1.trans i1,c4,i3.out o4 (.inr (Nat.le_refl _))⟩
     ·rw [if_neg hz]
      exact wpS_pure ⟨b3,p3,g3,rfl,rfl,i1,i2,i3⟩
    ·rintro c st' ⟨b3,p3,g3,rfl,rfl,i1,i2,i3⟩
     dsimp only
     refine wpS_bind (wpS_modify (wpS_bind (wpS_modify (wpS_pure (fin b3 _ g3 i1 ?_ i3)))))
     show Cov lt b3 (p3.modify (p3.size - 1) _).toList 0 lo
     rw [Array.toList_modify]
     exact i2.pow _ fun z=>⟨rfl,rfl⟩
 ·rintro c st' ⟨b,p,g',lo,rfl,rfl,hp,hc,hlo,hor⟩
  have:lo=a.size:=by lia
  subst this
  exact ⟨b,p,g',rfl,rfl,hp,hc⟩
 ·rintro c st' ⟨b,p,g',rfl,rfl,hp,hc⟩
  dsimp only
  have hbz:=hp.size_eq
  refine wpS_bind (wpS_mono (wpS_forRange (I:=fun n c st'=>∃ b p g',st'=stA kd b p g'∧c=(none,())∧b.Perm a∧Cov lt b p.toList 0 a.size∧p.size≤max 1 (a.size - n))
   (Q:=fun c st'=>∃ b p g',st'=stA kd b p g'∧c=(none,())∧b.Perm a∧Cov lt b p.toList 0 a.size∧p.size≤1) ?_ ?_ ⟨b,p,g',rfl,rfl,hp,hc,by have:=hc.le; simp at this; lia⟩) ?_)
  ·rintro x c st' - hx ⟨b,p,g',rfl,rfl,hp,hc,hz⟩
   refine wpS_bind (wpS_get ?_)
   rw [show pendingOf (stA kd b p g')=p from rfl]
   have hbz:=hp.size_eq
   by_cases h1:p.size≤1
   ·rw [if_pos h1]
    exact wpS_pure ⟨b,p,g',rfl,rfl,hp,hc,h1⟩
   rw [if_neg h1]
   generalize hi0:(if ((if p.size - 2 > 0 then Option.map (fun x=>x.2.1) p[p.size - 2 - 1]? else none).any fun x=>decide (x < p[p.size - 2 + 1]?.elim 0 fun x=>x.2.1))=true then p.size - 2 - 1 else p.size - 2)=i0
   have two:∀ c:Bool,(if c=true then p.size - 2 - 1 else p.size - 2) + 1 < p.size:=by
    intro c
    cases c
    ·rw [if_neg Bool.false_ne_true]; lia
    ·rw [if_pos rfl]; lia
   have hi:i0 + 1 < p.size:=by rw [← hi0]; exact two _
   refine wpS_bind (b2e C (ho.perm hp) hc (by lia) hi fun b4 p4 g4 o4 c4 hz4=>?_)
   simp only [Bool.not_true,Bool.false_eq_true,if_false]
   exact wpS_pure ⟨b4,p4,g4,rfl,rfl,o4.1.trans hp,c4,by lia⟩
  ·rintro c st' ⟨b,p,g',rfl,rfl,hp,hc,hz⟩
   exact ⟨b,p,g',rfl,rfl,hp,hc,by lia⟩
  ·rintro c st' ⟨b,p,g',rfl,rfl,hp,hc,hz⟩
   refine wpS_pure (q b p g' hp ?_)
   rcases hl:p.toList with _ | ⟨⟨u,n,w⟩,_ | ⟨y,r⟩⟩
   ·rw [hl] at hc
    have:(0:Nat)=a.size:=hc
    lia
   ·rw [hl] at hc
    obtain ⟨h1,h2,h3,h4⟩:=hc
    have:0 + n=a.size:=h4
    rwa [this] at h3
   ·have:=congrArg List.length hl
    simp at this; lia
end
theorem a8l:∀ a:List Int,lexLt a a=false
 | []=>rfl
 | x :: r=>by rw [lexLt,if_pos rfl,a8l r]
theorem b2i:∀ a b:List Int,lexLt a b=true→lexLt b a=false
 | [],[],h=>by cases h
 | [],_ :: _,_=>rfl
 | _ :: _,[],h=>by cases h
 | x :: r,y :: q,h=>by
  rw [lexLt] at h ⊢
  by_cases e:x=y
  ·rw [if_pos e] at h; rw [if_pos e.symm]; exact b2i r q h
  ·rw [if_neg e] at h; rw [if_neg (Ne.symm e)]
   simp only [decide_eq_true_eq,decide_eq_false_iff_not] at h ⊢; lia
theorem a9o:∀ a b c:List Int,lexLt b a=false→lexLt c b=false→lexLt c a=false
 | [],b,c,h1,h2=>by cases c <;> rfl
 | x :: r,[],c,h1,h2=>by cases h1
 | x :: r,y :: q,[],h1,h2=>by cases h2
 | x :: r,y :: q,z :: t,h1,h2=>by
  rw [lexLt] at h1 h2 ⊢
  by_cases e1:y=x
  ·rw [if_pos e1] at h1
   by_cases e2:z=y
   ·rw [if_pos e2] at h2; rw [if_pos (e2.trans e1)]; exact a9o r q t h1 h2
   ·rw [if_neg e2] at h2; rw [if_neg (by rw [← e1]; exact e2),← e1]; exact h2
  ·rw [if_neg e1] at h1
   by_cases e2:z=y
   ·rw [if_pos e2] at h2; rw [if_neg (by rw [e2]; exact e1),e2]; exact h1
   ·rw [if_neg e2] at h2
    simp only [decide_eq_false_iff_not] at h1 h2
    rw [if_neg (by lia)]
    simp only [decide_eq_false_iff_not]; lia
section
variable {prog:Program} {w:World} {A:Around} {E:Value→Shared→Prop} {s:Shared} {vs:List Value} {kd:SortKind} {kf:Value→List Int}
theorem d0u (hc:∀ x∈vs,∀ y∈vs,∀ Q:Bool→Shared→Prop,∀ E':Value→Shared→Prop,Q (lexLt (kf x) (kf y)) s→wpAny (model prog w) A (keyLt' kd x y) Q E' s):Cmp prog w A E s kd (fun p=>p.1∈vs) (fun p q=>lexLt (kf p.1) (kf q.1)) where
 run:=fun x y hx hy st Q hk q=>by
  rw [lt'_eq]
  refine wpS_bind (wpS_get ?_)
  rw [hk]
  refine wpS_bind (wpS_lift (wpAny_attempt (hc _ hx _ hy _ _ ⟨rfl,?_⟩)))
  exact wpS_pure q
 refl:=fun x=>a8l _
 trans:=fun x y z h1 h2=>a9o _ _ _ h1 h2
 asym:=fun x y h=>b2i _ _ h
theorem c9o {a:Addr} {n:Nat} {P:PySem.Fin→Shared→Prop} (ho:s.heap.get? a=some (seqObj "list" vs.toArray n)) (hb:vs.length≤100000)
  (hk:2≤vs.length→∀ h3:Heap,(∀ b o,b≠a→s.heap.get? b=some o→h3.get? b=some o)→∀ Q:SortKind→Shared→Prop,Q kd { s with heap:=h3 }→wpAny (model prog w) A (keyKind' vs.toArray) Q E { s with heap:=h3 })
  (hc:∀ h3:Heap,(∀ b o,b≠a→s.heap.get? b=some o→h3.get? b=some o)→∀ x∈vs,∀ y∈vs,∀ Q:Bool→Shared→Prop,∀ E':Value→Shared→Prop,Q (lexLt (kf x) (kf y)) { s with heap:=h3 }→wpAny (model prog w) A (keyLt' kd x y) Q E' { s with heap:=h3 })
  (K:∀ (vs':List Value) (h':Heap) (c tk:Nat),vs'.Perm vs→(vs'.Pairwise fun x y=>lexLt (kf y) (kf x)=false)→h'.get? a=some (seqObj "list" vs'.toArray c)→(∀ b o,b≠a→s.heap.get? b=some o→h'.get? b=some o)→P (.done (.ret .none)) { s with heap:=h',toks:=tk }) :
  wpAny (model prog w) A (Builtin.«list.sort» ⟨[.ref a],[]⟩) P E s:=by
 obtain ⟨e1,ho1⟩:∃ e1,(s.heap.update a (Obj.mapSeq fun _=>(#[]:Array Value))).get? a=some (seqObj "list" #[] e1):=⟨_,get?_update_seq ho fun _=>#[]⟩
 have kp:∀ b o,b≠a→s.heap.get? b=some o→(((s.heap.update a (Obj.mapSeq fun _=>(#[]:Array Value))).push (seqObj "tuple" vs.toArray 0)).push (seqObj "list" #[] 0)).get? b=some o:=fun b o hb e =>
  Γc _ (Γc _ ((Γf _ _ (Ne.symm hb)).trans e))
 have ho2:(((s.heap.update a (Obj.mapSeq fun _=>(#[]:Array Value))).push (seqObj "tuple" vs.toArray 0)).push (seqObj "list" #[] 0)).get? a=some (seqObj "list" #[] e1):=Γc _ (Γc _ ho1)
 rw [list_sort_plain]
 refine Γa (listItems_at ho rfl ?_)
 refine Γa (listUpdate_at ho rfl ?_ (by rw [List.size_toArray,sizeLine_eq]; lia) (Nat.zero_le _))
 refine Γa (seqEpoch_at ho1 rfl ?_)
 refine Γa (wpAny_newTuple ?_ (by show vs.length≤_; rw [sizeLine_eq]; lia))
 refine Γa (wpAny_newList ?_ (Nat.zero_le _))
 refine Γg ?_
 show wpAny (model prog w) A _ P E { s with heap:=((s.heap.update a (Obj.mapSeq fun _=>(#[]:Array Value))).push (seqObj "tuple" vs.toArray 0)).push (seqObj "list" #[] 0) }
 dsimp only
 generalize ((s.heap.update a (Obj.mapSeq fun _=>(#[]:Array Value))).push (seqObj "tuple" vs.toArray 0)).push (seqObj "list" #[] 0)=h3 at kp ho2
 -- what comes behind the sorting
 have fin:∀ b:Array Keyed,b.Perm (pairsOf vs)→Srt (fun p q=>lexLt (kf p.1) (kf q.1)) b 0 b.size→∀ st:SortSt,arrOf st=b→failedOf st=none→wpAny (model prog w) A (do
   let touched:=(← seqEpoch a) != e1
   Builtin.List.listUpdate (.ref a) fun _=>(arrOf st).map (·.2)
   if let some e:=failedOf st then rule "list.sort.comparison-raised"; throw e
   if touched then rule "list.sort.modified"; raiseError "ValueError" "list modified during sort"
   ret .none) P E { s with heap:=h3 }:=by
  intro b hp hs st hst hf
  have hpl:b.toList.Perm (vs.zip vs):=by rw [← pairsOf_toList]; exact Array.perm_iff_toList_perm.mp hp
  have hself:∀ p∈b.toList,p.1=p.2∧p.1∈vs:=fun p hp=>mem_zip_self (hpl.mem_iff.mp hp)
  have hperm:((b.map (·.2)).toList).Perm vs:=by
   rw [Array.toList_map]
   have:=hpl.map (·.2)
   rwa [show (vs.zip vs).map (·.2)=vs by rw [List.map_snd_zip (Nat.le_refl _)]] at this
  have hord:(b.map (·.2)).toList.Pairwise fun x y=>lexLt (kf y) (kf x)=false:=by
   rw [Array.toList_map,List.pairwise_map]
   have h1:=(b0o (lt:=fun p q=>lexLt (kf p.1) (kf q.1)) (fun u=>a8l _) (Nat.le_refl _)).mp hs
   rw [List.drop_zero,List.take_of_length_le (by simp)] at h1
   refine List.Pairwise.imp_of_mem (fun {x y} hx hy h=>?_) h1
   rw [← (hself x hx).1,← (hself y hy).1]; exact h
  have hsz:(b.map (·.2)).size=vs.length:=by rw [← Array.length_toList]; exact hperm.length_eq
  obtain ⟨c2,hc2⟩:∃ c2,(h3.update a (Obj.mapSeq fun _=>b.map (·.2))).get? a=some (seqObj "list" (b.map (·.2)) c2):=⟨_,get?_update_seq ho2 fun _=>b.map (·.2)⟩
  refine Γa (seqEpoch_at ho2 rfl ?_)
  rw [hst]
  refine Γa (listUpdate_at ho2 rfl ?_ (Nat.zero_le _) (Nat.le_trans (Nat.le_of_eq hsz) (by rw [sizeLine_eq]; lia)))
  rw [hf]
  simp only [bne_self_eq_false,Bool.false_eq_true,if_false]
  exact Γb (K (b.map (·.2)).toList _ c2 _ hperm hord (by rw [Array.toArray_toList]; exact hc2) fun b' o hb' e=>(Γf _ _ (Ne.symm hb')).trans (kp b' o hb' e))
 by_cases h2:vs.toArray.size < 2
 ·rw [if_pos h2,if_pos h2]
  refine Γa (Γb ?_)
  rw [StateT.run_pure]
  refine Γa (Γb ?_)
  refine fin (pairsOf vs) (Array.Perm.refl _) (fun i j i1 i2 i3=>?_) _ rfl rfl
  rw [pairsOf_size] at i3
  have:vs.length < 2:=by simpa using h2
  have:i=j:=by lia
  subst this; exact a8l _
 ·rw [if_neg h2,if_neg h2]
  have h2':2≤vs.length:=by simpa using h2
  refine Γa (hk h2' h3 kp _ ?_)
  refine Γa (wpAny_mono (c3k (E:=E) (d0u (E:=E) (hc h3 kp)) (a:=pairsOf vs) (g:=7) (Q:=fun _ st'=>∃ b,b.Perm (pairsOf vs)∧Srt (fun p q=>lexLt (kf p.1) (kf q.1)) b 0 (pairsOf vs).size∧arrOf st'=b∧failedOf st'=none)
   (fun p hp=>by rw [pairsOf_toList] at hp; exact (mem_zip_self hp).2) (by rw [pairsOf_size]; exact h2') fun b p g' q1 q2=>⟨b,q1,q2,rfl,rfl⟩) ?_ fun _ _ e=>e)
  rintro ⟨⟨⟩,st'⟩ s' ⟨rfl,b,q1,q2,q3,q4⟩
  rw [← q1.size_eq] at q2
  exact fin b q1 q2 st' q3 q4
theorem b3s {l:Addr} {Q:Value→Shared→Prop} (hl:s.heap.IsList l vs.toArray) (hb:vs.length≤100000)
  (hk:∀ A':Around,2≤vs.length→∀ h3:Heap,(∀ b o,s.heap.get? b=some o→h3.get? b=some o)→∀ Q:SortKind→Shared→Prop,Q kd { s with heap:=h3 }→wpAny (model prog w) A' (keyKind' vs.toArray) Q E { s with heap:=h3 })
  (hc:∀ A':Around,∀ h3:Heap,(∀ b o,s.heap.get? b=some o→h3.get? b=some o)→∀ x∈vs,∀ y∈vs,∀ Q:Bool→Shared→Prop,∀ E':Value→Shared→Prop,Q (lexLt (kf x) (kf y)) { s with heap:=h3 }→wpAny (model prog w) A' (keyLt' kd x y) Q E' { s with heap:=h3 })
  (K:∀ (D:Addr) (vs':List Value) (h':Heap) (c tk:Nat),vs'.Perm vs→(vs'.Pairwise fun x y=>lexLt (kf y) (kf x)=false)→s.heap.objs.size≤D→h'.get? D=some (seqObj "list" vs'.toArray c)→(∀ b o,s.heap.get? b=some o→h'.get? b=some o)→Q (.ref D) { s with heap:=h',toks:=tk }) :
  wpAny (model prog w) A (call (.builtin "sorted") [.ref l]) Q E s:=by
 refine Calls.call_function_entry kind_sorted plain_sorted entry_sorted (args_sorted1 _) ?_
 unfold Builtin.«sorted»
 refine Γa (m:=checkCount "sorted" 1 1 _) (Γb ?_)
 refine Γa (collect_list hl ?_ (by rw [sizeLine_eq]; lia))
 refine Γa (wpAny_newList ?_ (by rw [sizeLine_eq]; lia))
 have hsz:((s.heap.push (seqObj "list" #[] 0)).update s.heap.objs.size (Obj.mapSeq (·++vs.toArray))).objs.size=s.heap.objs.size + 1:=by
  rw [Heap.size_update,size_push']
 have hoL:(((s.heap.push (seqObj "list" #[] 0)).update s.heap.objs.size (Obj.mapSeq (·++vs.toArray))).push (seqObj "list" vs.toArray 0)).get? (s.heap.objs.size + 1)=some (seqObj "list" vs.toArray 0):=by
  rw [← hsz]; exact Heap.get?_push_size _ rfl
 have keep:∀ b o,s.heap.get? b=some o→(((s.heap.push (seqObj "list" #[] 0)).update s.heap.objs.size (Obj.mapSeq (·++vs.toArray))).push (seqObj "list" vs.toArray 0)).get? b=some o:=fun b o q=>by
  have hlt:b < s.heap.objs.size:=Heap.lt_size q
  rw [Heap.get?_push_ne _ _ _ (by rw [hsz]; exact Nat.ne_of_lt (Nat.lt_succ_of_lt hlt)),Heap.get?_update_ne _ _ _ _ (Nat.ne_of_lt hlt),Heap.get?_push_ne _ _ _ (Nat.ne_of_lt hlt)]
  exact q
 have old:∀ b o,s.heap.get? b=some o→b≠s.heap.objs.size + 1:=fun b o e=>Nat.ne_of_lt (Nat.lt_succ_of_lt (Heap.lt_size e))
 show wpAny _ _ _ _ _ { s with heap:=((s.heap.push (seqObj "list" #[] 0)).update s.heap.objs.size (Obj.mapSeq (·++vs.toArray))).push (seqObj "list" vs.toArray 0) }
 rw [hsz]
 refine Γa (Γg (wpAny_call_entry slot_list_sort ⟨_,hoL,rfl⟩ entry_list_sort (c9o (kd:=kd) (kf:=kf) hoL hb (fun h2 h3 kp=>hk _ h2 h3 fun b o e=>kp b o (old b o e) (keep b o e)) (fun h3 kp=>hc _ h3 fun b o e=>kp b o (old b o e) (keep b o e)) fun vs' h' c tk a1 a2 a3 a4=>⟨_,rfl,?_⟩) (args_list_sort _)))
 exact Γb ⟨_,rfl,K _ vs' h' c tk a1 a2 (Nat.le_succ _) a3 fun b o e=>a4 b o (old b o e) (keep b o e)⟩
end
noncomputable def a3r (h:Heap):Value→List Int
 | .ref a=>match h.get? a with
  | some o=>match o.data with
   | .seq us _=>us.toList.map numOf
   | _=>[]
  | none=>[]
 | _=>[]
theorem a8w:∀ {ks:List Int} {us:List Value},Vals (ks.map V.int) us→us.map numOf=ks
 | [],us,h=>by cases h; rfl
 | k :: ks,us,h=>by
  cases h with
  | @cons _ u _ us' r1 h =>
  obtain ⟨t,rfl⟩:=r1
  rw [List.map_cons,a8w h]; rfl
noncomputable def c2h (fin:Bool):List Int→List Int→Bool
 | [],_=>fin
 | _ :: _,[]=>fin
 | k :: ks,j :: js=>if k=j then c2h fin ks js else decide (k < j)
theorem b6l:∀ (ks js:List Int),c2h (decide (ks.length < js.length)) ks js=lexLt ks js
 | [],[]=>by simp [c2h,lexLt]
 | [],j :: js=>by simp [c2h,lexLt]
 | k :: ks,[]=>by simp [c2h,lexLt]
 | k :: ks,j :: js=>by
  rw [c2h,lexLt]
  have:=b6l ks js
  simp only [List.length_cons,Nat.add_lt_add_iff_right]
  rw [this]
section
variable {prog:Program} {w:World} {A:Around} {E:Value→Shared→Prop} {s:Shared} {vs:List Value}
theorem c2f {b fin:Bool} {Q:Bool→Shared→Prop}:∀ (ks js:List Int) (us ws:List Value) (i:Nat),Vals (ks.map V.int) us→Vals (js.map V.int) ws→Q (c2h fin ks js) s→KatLex prog w A b fin Q (us.zip ws) i s
 | [],js,us,ws,i,h1,h2,q=>by
  cases h1
  rw [List.zip_nil_left]
  exact q
 | k :: ks,[],us,ws,i,h1,h2,q=>by
  cases h2
  rw [List.zip_nil_right]
  exact q
 | k :: ks,j :: js,us,ws,i,h1,h2,q=>by
  cases h1 with
  | @cons _ u _ us' r1 h1 =>
  cases h2 with
  | @cons _ x _ ws' r2 h2 =>
  obtain ⟨t1,rfl⟩:=r1
  obtain ⟨t2,rfl⟩:=r2
  rw [List.zip_cons_cons]
  rw [c2h] at q
  refine kat_cons (wpAny_eqBool_int (kat_go (fun e=>kat_yes (c2f ks js us' ws' (i + 1) h1 h2 ?_)) fun e=>kat_no ?_))
  ·have e:k=j:=by simpa using e
   rwa [if_pos e] at q
  ·have e:k≠j:=by simpa using e
   rw [if_neg e] at q
   cases b && i == 0
   ·exact kat_one _ _ (PyProof.Rows.lt_int q)
   ·exact oneLt_int q
noncomputable def NumTup (h:Heap) (v:Value) (ks:List Int):Prop:=∃ (a:Addr) (o:Obj) (us:List Value) (n:Nat),v=.ref a∧h.get? a=some o∧o.cls=.type "tuple"∧o.data=.seq us.toArray n∧Vals (ks.map V.int) us∧ks≠[]
theorem NumTup.keep {h h':Heap} {v:Value} {ks:List Int} (x:NumTup h v ks) (k:∀ b o,h.get? b=some o→h'.get? b=some o):NumTup h' v ks:=by
 obtain ⟨a,o,us,n,e,h1,h2⟩:=x
 exact ⟨a,o,us,n,e,k _ _ h1,h2⟩
theorem NumTup.nums {h:Heap} {v:Value} {ks:List Int} (x:NumTup h v ks):a3r h v=ks:=by
 obtain ⟨a,o,us,n,rfl,h1,h2,h3,h4,_⟩:=x
 simp only [a3r,h1,h3]
 exact a8w h4
theorem NumTup.it {h:Heap} {v:Value} {ks:List Int} (x:NumTup h v ks):IntTup h v:=by
 obtain ⟨a,o,us,n,rfl,h1,h2,h3,h4,h5⟩:=x
 cases ks with
 | nil=>exact absurd rfl h5
 | cons k ks=>exact ⟨a,o,us,n,k,ks,rfl,h1,h2,h3,h4⟩
theorem c9m {b:Bool} {x y:Value} {ks js:List Int} {Q:Bool→Shared→Prop} (hx:NumTup s.heap x ks) (hy:NumTup s.heap y js) (q:Q (lexLt ks js) s):wpAny (model prog w) A (keyLt' (tuples' b) x y) Q E s:=by
 obtain ⟨a,o,us,n,rfl,h1,h2,h3,h4,_⟩:=hx
 obtain ⟨a',o',us',n',rfl,g1,g2,g3,g4,_⟩:=hy
 refine kat_lt h1 h3 g1 g3 (c2f ks js _ _ 0 h4 g4 ?_)
 have e1:ks.length=us.length:=by have:=h4.length; simpa using this
 have e2:js.length=us'.length:=by have:=g4.length; simpa using this
 rw [List.size_toArray,List.size_toArray,← e1,← e2,b6l]; exact q
theorem b0p {l:Addr} {Q:Value→Shared→Prop} (hl:s.heap.IsList l vs.toArray) (hb:vs.length≤100000) (ht:∀ v∈vs,∃ ks,NumTup s.heap v ks)
  (K:∀ (D:Addr) (vs':List Value) (h':Heap) (c tk:Nat),vs'.Perm vs→(vs'.Pairwise fun x y=>lexLt (a3r s.heap y) (a3r s.heap x)=false)→s.heap.objs.size≤D→h'.get? D=some (seqObj "list" vs'.toArray c)→(∀ b o,s.heap.get? b=some o→h'.get? b=some o)→Q (.ref D) { s with heap:=h',toks:=tk }) :
  wpAny (model prog w) A (call (.builtin "sorted") [.ref l]) Q E s:=by
 refine b3s (kd:=tuples' true) (kf:=a3r s.heap) hl hb (fun A' h2 h3 kp Q q=>?_) (fun A' h3 kp x hx y hy Q E' q=>?_) K
 ·obtain ⟨fs,t1,t2,t3⟩:=a8o (h:=h3) (vs:=vs) fun v hv=>by
   obtain ⟨ks,hk⟩:=ht v hv
   exact (hk.keep kp).it
  refine kat_kind (T:=.type "int") t1 (by lia) (fun v hv=>?_) (by decide) q
  obtain ⟨k,t,rfl⟩:=t3 v hv
  exact .now
 ·obtain ⟨ks,hk⟩:=ht x hx
  obtain ⟨js,hj⟩:=ht y hy
  rw [hk.nums,hj.nums] at q
  exact c9m (hk.keep kp) (hj.keep kp) q
end
noncomputable def vNum:V→Int
 | .int i=>i
 | _=>0
noncomputable def c1j (H:Hp):V→List Int
 | .ref b=>match H b with
  | some (.tup xs)=>xs.map vNum
  | _=>[]
 | _=>[]
noncomputable def c5o:FV→List Int
 | .tup ps=>(a0r ps).getD []
 | _=>[]
theorem a7s:∀ ks:List Int,(ks.map V.int).map vNum=ks
 | []=>rfl
 | k :: ks=>by rw [List.map_cons,List.map_cons,a7s ks]; rfl
noncomputable def b7k (a:EW):EW:=fun L Q=>a L fun v L1=>wp (a1v v) fun xs=>a2k xs=true∧xs.length≤big∧∀ ys:List FV,ys.Perm xs→(ys.Pairwise fun x y=>lexLt (c5o y) (c5o x)=false)→Q (.lst ys) L1
@[scoped simp ↓] theorem d0k (a:EW) (L:a0d) (Q:FV→a0d→Prop):b7k a L Q=(a L fun v L1=>wp (a1v v) fun xs=>a2k xs=true∧xs.length≤big∧∀ ys:List FV,ys.Perm xs→(ys.Pairwise fun x y=>lexLt (c5o y) (c5o x)=false)→Q (.lst ys) L1):=propext Iff.rfl
section
variable {K:Γd} {S:Hp}
theorem a7t:∀ {xs:List FV} {ys:List V},a2k xs=true→RVs K S xs ys→(∀ y∈ys,∃ (b:Addr) (ks:List Int),y=.ref b∧ks≠[]∧S b=some (.tup (ks.map V.int)))∧ys.map (c1j S)=xs.map c5o
 | [],ys,_,h=>by cases (show ys=[] from h); simp
 | x :: xs,ys,t,⟨v,r,e,h1,h2⟩=>by
  subst e
  cases x with
  | tup ps =>
   have t:((match a0r ps with | some (_ :: _)=>true | _=>false) && a2k xs)=true:=t
   obtain ⟨t1,t2⟩:=Bool.and_eq_true_iff.mp t
   obtain ⟨i1,i2⟩:=a7t t2 h2
   cases e:a0r ps with
   | none=>rw [e] at t1; cases t1
   | some ns =>
    cases ns with
    | nil=>rw [e] at t1; cases t1
    | cons k ks =>
     obtain ⟨a,us,rfl,g1,g2⟩:=h1
     cases a2s g2 e
     refine ⟨fun y hy=>?_,?_⟩
     ·rcases List.mem_cons.mp hy with rfl | hy
      ·exact ⟨a,k :: ks,rfl,by simp,g1⟩
      ·exact i1 y hy
     ·rw [List.map_cons,List.map_cons,i2]
      congr 1
      simp only [c1j,g1,c5o,e,Option.getD_some]
      exact a7s _
  | _=>cases t
end
section
variable {X:Cx}
noncomputable def c7m (X:Cx):List V→Hp→VK→Prop:=fun xs H Q=>∃ (a:Addr) (ys:List V),xs=[.ref a]∧SqL X.K H a ys∧ys.length≤100000∧(∀ y∈ys,∃ (b:Addr) (ks:List Int),y=.ref b∧ks≠[]∧H b=some (.tup (ks.map V.int)))∧∀ p zs,H p=none→zs.Perm ys→(zs.Pairwise fun x y=>lexLt (c1j H y) (c1j H x)=false)→Q (.ref p) (upd H p (.lst zs))
theorem Vals.keyed {H:Hp} {h:Heap} (hk:∀ (b:Addr) (ks:List Int),H b=some (.tup (ks.map V.int))→ks≠[]→NumTup h (.ref b) ks):∀ {zs:List V} {us:List Value},Vals zs us→(∀ z∈zs,∃ (b:Addr) (ks:List Int),z=.ref b∧ks≠[]∧H b=some (.tup (ks.map V.int)))→us.map (a3r h)=zs.map (c1j H)
 | [],us,r,_=>by cases r; rfl
 | z :: zs,us,r,hz=>by
  cases r with
  | @cons _ u _ us' r1 r =>
  obtain ⟨b,ks,rfl,h1,h2⟩:=hz z (by simp)
  cases (show u=Value.ref b from r1)
  rw [List.map_cons,List.map_cons,Vals.keyed hk r fun y hy=>hz y (List.mem_cons_of_mem _ hy),(hk b ks h2 h1).nums]
  simp only [c1j,h2,a7s]
theorem b1z {α β γ:Type} {R:γ→γ→Prop} {f:α→γ} {g:β→γ} {xs:List α} {ys:List β} (e:xs.map f=ys.map g) (h:xs.Pairwise fun x y=>R (f y) (f x)):ys.Pairwise fun x y=>R (g y) (g x):=by
 have h1:=List.pairwise_map (f:=f) (R:=fun x y=>R y x) |>.mpr h
 rw [e] at h1
 exact List.pairwise_map.mp h1
theorem c6a:a1k X (.builtin "sorted") (c7m X):=by
 rintro pins s σ H xs us Q I r ⟨a,ys,rfl,hl,hb,ht,k⟩
 obtain ⟨u,rfl,ru⟩:=a3o r
 cases (show u=Value.ref a from ru)
 obtain ⟨its,rv,pl,hz⟩:=I.list hl
 have ll:ys.length=its.length:=rv.length
 have nt:∀ (b:Addr) (ks:List Int),H b=some (.tup (ks.map V.int))→ks≠[]→NumTup s.heap (.ref b) ks:=by
  intro b ks hb hn
  obtain ⟨_,jts,rr,o,e1,e2,n,e3⟩:=(show ObjOk X.prog X.w H s.heap b (.tup (ks.map V.int)) from I.hok b _ hb)
  exact ⟨b,o,jts,n,rfl,e1,e2,e3,rr,hn⟩
 have tv:∀ v∈its,∃ ks,NumTup s.heap v ks:=by
  intro v hv
  obtain ⟨i,hi⟩:=List.mem_iff_getElem?.mp hv
  have hil:i < ys.length:=by rw [ll]; exact (List.getElem?_eq_some_iff.mp hi).1
  obtain ⟨u,e,ru⟩:=rv.get (i:=i) (x:=ys[i]) (by simp [hil])
  rw [hi] at e; cases e
  obtain ⟨b,ks,e,hn,hb⟩:=ht _ (List.getElem_mem hil)
  rw [e] at ru
  cases (show v=Value.ref b from ru)
  exact ⟨ks,nt b ks hb hn⟩
 refine b0p pl.isList (by lia) tv fun D vs' h' c tk p1 po p2 p3 p4=>?_
 obtain ⟨zs,e,g⟩:=Vals.perm p1 rv
 have hn:H D=none:=I.hok.fresh p2
 have hkey:=Vals.keyed nt g fun z hz=>ht z (e.mem_iff.mp hz)
 refine ⟨.ref D,_,I.laid (a:=D) (o:=.lst zs) (t':=tk) p4 p2 ⟨by rw [e.length_eq]; exact hz,vs',c,g,p3⟩,rfl,k D zs hn e ?_⟩
 exact b1z (R:=fun u v=>lexLt u v=false) hkey po
end
section
variable {X:Cx} {C:CC} {n:Nat} {sp:Γd→Nat→Sp} {a:Expr} {ea:EW} {pos p:Pos}
theorem d1x (G:Good X C n sp) (hg:C.gl (Γe "sorted")=true) (hs:a0k a=false) (ha:FR X C a ea):FE X C (.Call (.Name (Γe "sorted") p) [a] [] pos) (b7k ea) :=
 PE.imp (a4k c6a (G.gl hg) (G.blt "sorted" (by decide)) (by nofun) (a0p ha a1p (a0c hs)) (by nofun) (by nofun) (a0c hs) rfl) fun σ H Q ⟨c,L,S,Q0,I,h,k⟩ =>
 ⟨c,L,S,_,I,h,fun v L1 hv x S1 H1 r1 I1 s1=>by
  obtain ⟨xs,e1,t1,t2,q⟩:=wpx hv
  obtain ⟨a,ys,rfl,hq,ry⟩:=r1.list I1.sub e1
  have hl:=ry.length
  obtain ⟨i1,i2⟩:=a7t t1 ry
  refine ⟨a,ys,rfl,hq,by simp only [big] at t2; lia,fun y hy=>?_,fun p zs hp hz ho=>?_⟩
  ·obtain ⟨b,ks,e,hn,hb⟩:=i1 y hy
   exact ⟨b,ks,e,hn,I1.sub _ _ hb⟩
  ·obtain ⟨qs,e,g⟩:=RVs.perm hz ry
   have tq:a2k qs=true:=by
    have mem:∀ (l:List FV),a2k l=true↔∀ x∈l,a2k [x]=true:=by
     intro l
     induction l with
     | nil=>simp [a2k]
     | cons x r ih =>
      cases x with
      | tup ps=>simp only [a2k,Bool.and_eq_true,ih,List.forall_mem_cons,and_true]
      | _=>simp [a2k]
    exact (mem qs).mpr fun x hx=>(mem xs).mp t1 x (e.mem_iff.mp hx)
   obtain ⟨j1,j2⟩:=a7t tq g
   have hkk:zs.map (c1j H1)=qs.map c5o:=by
    rw [← j2]
    apply List.map_congr_left
    intro z hz'
    obtain ⟨b,ks,rfl,hn,hb⟩:=j1 z hz'
    simp only [c1j,hb,I1.sub _ _ hb]
   refine k _ L1 (q qs e (b1z (R:=fun u v=>lexLt u v=false) hkk ho)) _ _ _ ⟨p,zs,rfl,a0f,g.mono (a0m (I1.sn hp))⟩ (I1.new hp _) (s1.trans (a0m (I1.sn hp)))⟩
end
noncomputable def EntAt (h:Heap) (d:Addr) (es:Array DictEntry) (ep:Nat):Prop:=∃ o,h.get? d=some o∧o.ExactDict∧o.data=.dict es ep
section
variable {prog:Program} {w:World} {A:Around} {E:Value→Shared→Prop} {s:Shared} {it d:Addr} {i n ep:Nat} {es:Array DictEntry}
theorem EntAt.ty (x:EntAt s.heap d es ep):s.TypeIs (.ref d) "dict":=by
 obtain ⟨o,ho,hc,_⟩:=x
 exact ⟨o,ho,hc.1⟩
theorem EntAt.keep {h h':Heap} (x:EntAt h d es ep) (k:∀ o,h.get? d=some o→h'.get? d=some o):EntAt h' d es ep:=by
 obtain ⟨o,ho,r⟩:=x
 exact ⟨o,k o ho,r⟩
theorem EntAt.lt {h:Heap} (x:EntAt h d es ep):d < h.objs.size:=by
 obtain ⟨o,ho,_⟩:=x
 exact Heap.lt_size ho
theorem b2s {Q:Value→Shared→Prop} (hd:(d == sysModules)=false) (hm:EntAt s.heap d es ep)
  (q:Q (.ref s.heap.objs.size) { s with heap:=s.heap.push { cls:=.type "dict_keyiterator",data:=.fields #[.ref d,.int 0 0,.int es.size 0,.int ep 0] } }):wpAny (model prog w) A (pyIter (.ref d)) Q E s:=by
 have hT:=hm.ty
 obtain ⟨o,ho,hc,hdat⟩:=hm
 refine wpAny_pyIter_slot hT F.slot_dict_iter (wpAny_call_entry F.slot_dict_iter hT F.entry_dict_iter ?_ (F.args_dict_iter_1 _)); unfold Builtin.«dict.__iter__»; refine Γa ?_; unfold Builtin.Dict.dictSlotNone
 refine Γa (wpAny_notOrdered_dict hT ?_); show wpAny _ _ (pure (Value.ref d)) _ _ s; refine Γb ?_; show wpAny _ _ (Builtin.Dict.showsAll d >>= _) _ _ s; unfold Builtin.Dict.showsAll
 rw [if_neg (by rw [hd]; exact Bool.false_ne_true)]; refine Γa (Γb (Γa (wpAny_dictEntries ho hdat (Γa (wpAny_dictEpoch ho hdat ?_)))))
 refine Γa (wpAny_newObj_type (Γb ⟨_,rfl,"dict_keyiterator",_,⟨_,Heap.get?_push_size _ rfl,rfl⟩,F.slot_dict_keyiterator_next.lookup,?_⟩)); simpa [rawInt] using q
theorem b2c {Q:Option Value→Shared→Prop} (hit:s.heap.IsKeyIter it d i es.size ep) (hm:EntAt s.heap d es ep) (hi:i < es.size)
  (q:∀ h',h'.IsKeyIter it d (i + 1) es.size ep→Heap.SameBut it s.heap h'→Q (some es[i].key) { s with heap:=h' }):wpAny (model prog w) A (pyNext (.ref it)) Q E s:=by
 have hT:=hit.typeIs
 obtain ⟨o,ho,hc,hd⟩:=id hit
 obtain ⟨od,hod,_,hdd⟩:=hm
 have hown:Builtin.Dict_items.ownsTuple "dict_keyiterator" = false:=by decide
 unfold pyNext; refine Γa (wpAny_attempt (wpAny_callSpecial?_slot (name:=Γe "__next__") hT F.slot_dict_keyiterator_next (wpAny_call_entry F.slot_dict_keyiterator_next hT F.entry_dict_keyiterator_next ?_ (F.args_dict_keyiterator_next_1 _))))
 refine Γa (Γb (Γa (Γa ?_))); first | refine Γa (wpAny_typeNameOfWhole_keyiter hT (Γb ?_)) | refine Γa (wpAny_typeNameOf_keyiter hT (Γb ?_))
 refine Γa (wpAny_fieldsOf ho hd ?_); simp only [hown,Bool.false_eq_true,if_false]; show wpAny _ _ (if (Value.ref d == Value.none)=true then _ else _) _ _ s; rw [if_neg (show ¬ ((Value.ref d == Value.none)=true) from Bool.false_ne_true)]
 refine Γa (Γb (Γa (wpAny_dictEntries hod hdd ?_))); rw [if_neg (by simp)]
 refine Γa (Γb (Γa (wpAny_dictEpoch hod hdd ?_))); rw [if_neg (by simp)]; refine Γb ?_
 simp only [show ¬ ((i:Int) < 0) from by lia,if_false,Int.toNat_natCast,Array.getElem?_eq_getElem hi]; refine Γa ?_
 first | refine Γa (wpAny_typeNameOfWhole_keyiter hT (Γb (Γa (wpAny_isOneOf_keyiter hT ?_)))) | refine Γa (wpAny_typeNameOf_keyiter hT (Γb (Γa (wpAny_isOneOf_keyiter hT ?_))))
 show wpAny _ _ (setField (.ref it) 1 (rawInt ((i:Int) + 1)) >>= _) _ _ s; refine Γa (wpAny_setField ho hd (by simp) ?_)
 have hit':(s.heap.update it (Obj.mapFields (·.setIfInBounds 1 (rawInt ((i:Int) + 1))))).IsKeyIter it d (i + 1) es.size ep:=⟨_,Heap.get?_update_self _ ho (Obj.isFreed_of_fields (Obj.data_mapFields hd _)),(Obj.cls_mapFields ..).trans hc,by rw [Obj.data_mapFields hd]; simp [rawInt]⟩
 refine Γa (Γg (Γa (wpAny_isOneOf_keyiter (s:={ s with heap:=s.heap.update it (Obj.mapFields (·.setIfInBounds 1 (rawInt ((i:Int) + 1)))) }) hit'.typeIs ?_))); show wpAny _ _ (pure es[i].key) _ _ _
 exact Γb (Γb ⟨_,rfl,Γb (q _ hit' (Heap.SameBut.update ..))⟩)
theorem b7j {Q:Option Value→Shared→Prop} (hh:A.handled=none) (hit:s.heap.IsKeyIter it d i es.size ep) (hm:EntAt s.heap d es ep) (hi:es.size≤i)
  (q:∀ h',Heap.ExtBut it s.heap h'→Q none { s with heap:=h' }):wpAny (model prog w) A (pyNext (.ref it)) Q E s:=by
 have hT:=hit.typeIs
 obtain ⟨o,ho,hc,hd⟩:=id hit
 obtain ⟨od,hod,_,hdd⟩:=hm
 have hown:Builtin.Dict_items.ownsTuple "dict_keyiterator" = false:=by decide
 unfold pyNext; refine Γa (wpAny_attempt (wpAny_callSpecial?_slot (name:=Γe "__next__") hT F.slot_dict_keyiterator_next (wpAny_call_entry F.slot_dict_keyiterator_next hT F.entry_dict_keyiterator_next ?_ (F.args_dict_keyiterator_next_1 _))))
 refine Γa (Γb (Γa (Γa ?_))); first | refine Γa (wpAny_typeNameOfWhole_keyiter hT (Γb ?_)) | refine Γa (wpAny_typeNameOf_keyiter hT (Γb ?_))
 refine Γa (wpAny_fieldsOf ho hd ?_); simp only [hown,Bool.false_eq_true,if_false]; show wpAny _ _ (if (Value.ref d == Value.none)=true then _ else _) _ _ s; rw [if_neg (show ¬ ((Value.ref d == Value.none)=true) from Bool.false_ne_true)]
 refine Γa (Γb (Γa (wpAny_dictEntries hod hdd ?_))); rw [if_neg (by simp)]
 refine Γa (Γb (Γa (wpAny_dictEpoch hod hdd ?_))); rw [if_neg (by simp)]; refine Γb ?_
 simp only [show ¬ ((i:Int) < 0) from by lia,if_false,Int.toNat_natCast,Array.getElem?_eq_none hi]; refine Γa ?_
 first | refine Γa (wpAny_typeNameOfWhole_keyiter hT (Γb ?_)) | refine Γa (wpAny_typeNameOf_keyiter hT (Γb ?_))
 show wpAny _ _ (setField (.ref it) 0 .none >>= _) _ _ s; refine Γa (wpAny_setField ho hd (by simp) ?_); show wpAny _ _ (newExc (.type "StopIteration") [] >>= _) _ _ _; refine Γa ?_; simp only [newExc,newTuple]
 refine Γa (wpAny_newObj_type ?_ (by size_fits)); refine Γa (m:=firstArgMember _ _) (wpAny_of_eq (a:=Value.none) (by first | rfl | (simp only [firstArgMember]; rfl)) ?_); refine wpAny_newObj_type ?_ (by size_fits); simp only [raiseNew]
 refine Γa (wpAny_handled ?_); rw [show A.in1.handled=none from hh]; refine Γa (Γb (wpAny_throw ?_))
 refine Γa (wpAny_isInstance (T:="StopIteration") (b:=true) ⟨_,Heap.get?_push_size _ rfl,rfl⟩ isSubtype_stop ?_); exact Γb (q _ (((Heap.SameBut.update ..).extBut.push _).push _))
theorem b8y (hh:A.handled=none) (I:Addr) (hne:d≠I):Walks prog w A I [I,d] [I] es.size (fun i v=>∃ e,es[i]?=some e∧v=e.key) (fun i h=>h.IsKeyIter I d i es.size ep∧EntAt h d es ep) where
 sub:=fun b hb=>by simp at hb; simp [hb]
 frame:=fun i h h' st hk=>⟨st.1.at fun o e=>hk I (by simp) o e,st.2.keep fun o e=>hk d (by simp) o e⟩
 item:=fun i s Q E hi st hQ=>b2c st.1 st.2 hi fun h' hit' hs'=>hQ _ h' s.toks ⟨es[i],by simp [hi],rfl⟩ ⟨hit',st.2.keep fun o e=>hs'.extBut d o hne e⟩ fun b o hb e=>hs'.extBut b o (fun h=>hb (by simp [h])) e
 done:=fun s Q E st hQ=>b7j hh st.1 st.2 (Nat.le_refl _) fun h' he'=>hQ h' s.toks fun b o hb e=>he' b o (fun h=>hb (by simp [h])) e
 self:=fun i s Q E st hQ=>wpAny_pyIter_keyiter st.1 hQ
theorem c3f (lo:(d == sysModules)=false):KdlSrc prog w "dict" d d es.size (fun i v=>∃ e,es[i]?=some e∧v=e.key) (fun h=>EntAt h d es ep) where
 type:=fun s hm=>EntAt.ty hm
 there:=fun h hm=>⟨hm.lt,hm.lt⟩
 keep:=fun h h' hm hk=>hm.keep fun o e=>hk d (.inl rfl) o e
 notList:=by decide
 notTuple:=by decide
 hint:=fun A E s Q hm hq=>kdl_hint_dict (EntAt.ty hm) hq
 iter:=fun A s hh hm=>⟨_,_,fun E Q hq=>b2s lo hm hq,b8y hh _ (Nat.ne_of_lt hm.lt),⟨_,Heap.get?_push_size _ rfl,rfl,rfl⟩,hm.keep fun o e=>Γc _ e⟩
end
section
variable {X:Cx} {pins:List (Addr×Obj)} {σ:L2.St} {H:Hp} {s:Shared} {a:Addr}
theorem c0n {kvs:List (List (Int ⊕ Str)×V)} {o:Obj} (I:Inv X pins σ H s) (h:H a=some (.dT kvs)) (ho:s.heap.get? a=some o):Inv X pins σ (upd H a (.frz o (.dT kvs))) s:=by
 have ne:∀ {b:Addr} {u:HO},H b=some u→u≠.dT kvs→b≠a:=fun e n z=>by subst z; rw [h] at e; exact n (Option.some.inj e).symm
 have ow:∀ b c,H b=some (.own c)→upd H a (.frz o (.dT kvs)) b=some (.own c):=fun b c e=>by rw [a0e (ne e (fun z=>nomatch z))]; exact e
 have tu:∀ b xs,H b=some (.tup xs)→upd H a (.frz o (.dT kvs)) b=some (.tup xs):=fun b xs e=>by rw [a0e (ne e (fun z=>nomatch z))]; exact e
 refine I.un (t':=s.toks) (h':=s.heap) ⟨fun b o' e _ _ _=>e,fun b o' e _ _ _=>⟨o'.slots,e⟩,fun b o' e n _=>?_,fun b o' e _=>⟨o',e⟩,tu,fun b o' u e=>?_,fun b ps e=>?_⟩ fun b u e=>?_
 ·rw [a0e (fun z=>by subst z; rw [h] at n; cases n)]; exact n
 ·rw [a0e (ne e (fun z=>nomatch z))]; exact e
 ·exact ⟨#[],by rw [a0e (ne e (fun z=>nomatch z)),Array.append_empty]; exact e⟩
 ·by_cases z:b=a
  ·subst z
   rw [a0f] at e; cases e
   exact ⟨ho,(I.hok b _ h).stay (fun _ _ _ q=>q) (fun c e=>ow c b e) tu⟩
  ·rw [a0e z] at e
   exact (I.hok b u e).stay (fun _ _ _ q=>q) (fun c e=>ow c b e) tu
end
noncomputable def Itk (a:Addr) (o:Obj) (kvs:List (List (Int ⊕ Str)×V)):It :=
 ⟨fun i H=>H a=some (.frz o (.dT kvs))∧i < kvs.length,fun i H v H'=>H'=H∧∃ b p,v=.ref b∧kvs[i]?=some p∧H b=some (.tup (p.1.map kV)),fun i H=>H a=some (.frz o (.dT kvs))∧kvs.length≤i⟩
theorem a9u {P:Program} {w:World} {H:Hp} {h:Heap} {a:Addr} {kvs:List (List (Int ⊕ Str)×V)} (x:ObjOk P w H h a (.dT kvs)):∃ o es ep,h.get? a=some o∧o.data=.dict es ep∧EntAt h a es ep∧es.size=kvs.length∧(a == sysModules)=false∧∀ (i:Nat) (hi:i < es.size) p,kvs[i]?=some p→∃ b,es[i].key=.ref b∧H b=some (.tup (p.1.map kV)):=by
 obtain ⟨_,y,xs,r,o,es,ep,h1,h2,h3,h4,_⟩:=x
 have hl:kvs.length=xs.length:=r.length
 have hs:es.size=xs.length:=by rw [← Array.length_toList,h4,List.length_map]
 refine ⟨o,es,ep,h1,h3,⟨o,h1,h2,h3⟩,by lia,y,fun i hi p hp=>?_⟩
 have hx:i < xs.length:=by lia
 have key:∀ {l:List (List (Int ⊕ Str)×V)} {m:List (List (Int ⊕ Str)×Addr×Value)},Paired (fun (p:List (Int ⊕ Str)×V) (q:List (Int ⊕ Str)×Addr×Value)=>p.1=q.1∧H q.2.1=some (.tup (p.1.map kV))∧RelV p.2 q.2.2) l m→∀ (i:Nat) p q,l[i]?=some p→m[i]?=some q→H q.2.1=some (.tup (p.1.map kV)):=by
  intro l m z
  induction z with
  | nil=>intro i p q h; simp at h
  | @cons p0 q0 ps qs hq t ih =>
   intro i p q e1 e2
   cases i with
   | zero=>simp at e1 e2; subst e1; subst e2; exact hq.2.1
   | succ i=>simp at e1 e2; exact ih i p q e1 e2
 refine ⟨xs[i].2.1,?_,key r i p xs[i] hp (by simp [hx])⟩
 have e:es.toList[i]'(by simpa using hi)=entryOfKey (tupleKind (a0w P w)) xs[i]:=by simp only [h4,List.getElem_map]
 rw [← Array.getElem_toList (h:=hi),e]; rfl
theorem b5e {P:Program} {w:World} {K:Γd} {tg:Expr} {o:Obj} {kvs:List (List (Int ⊕ Str)×V)} {es:Array DictEntry} {ep:Nat} (a it:Addr) (hd:o.data=.dict es ep) (hz:es.size=kvs.length):Turn P w K tg (Itk a o kvs) [it] it (fun i h=>h.IsKeyIter it a i es.size ep) where
 mem:=by simp
 obj:=fun i h st b hb=>by
  have e:b=it:=by simpa using hb
  subst e
  obtain ⟨o,e,c,d⟩:=st
  exact ⟨o,e,fun v z=>by rw [d] at z; cases z⟩
 keep:=fun i h h' st k=>st.at fun o e=>k it (by simp) o e
 item:=by
  intro X hP hw hK hc i pins s σ H E I hf st hg
  subst hP hw hK
  obtain ⟨e0,hi⟩:=hg
  obtain ⟨q1,q2⟩:=(show ObjOk X.prog X.w H s.heap a (.frz o (.dT kvs)) from I.hok a _ e0)
  obtain ⟨o',es',ep',f1,f2,f3,f4,f5,f6⟩:=a9u q2
  rw [q1] at f1; cases f1
  rw [hd] at f2; cases f2
  obtain ⟨f0,g1,g2,g3,g4,g5⟩:=hf it (by simp)
  have hi':i < es.size:=by lia
  obtain ⟨b,k1,k2⟩:=f6 i hi' kvs[i] (by simp [hi])
  refine b2c st f3 hi' fun h' st' sb=>?_
  have I1:Inv X pins σ H { s with heap:=h' }:=I.turned (t':=s.toks) (fun b o hb e=>(sb.2 b hb).trans e) f0 g1 g3 g4 g5
  obtain ⟨o2,e,c,d⟩:=id st'
  rw [k1]
  exact ⟨_,rfl,c0s (s:={ s with heap:=h' }) e c d (by decide) ⟨.ref b,H,I1,rfl,⟨rfl,b,kvs[i],rfl,by simp [hi],k2⟩,st',fun b hb=>(hf b hb).1⟩⟩
 done:=by
  intro X hP hw hK hc i pins s σ H E I hf st hg
  subst hP hw hK
  obtain ⟨e0,hi⟩:=hg
  obtain ⟨q1,q2⟩:=(show ObjOk X.prog X.w H s.heap a (.frz o (.dT kvs)) from I.hok a _ e0)
  obtain ⟨o',es',ep',f1,f2,f3,f4,f5,f6⟩:=a9u q2
  rw [q1] at f1; cases f1
  rw [hd] at f2; cases f2
  obtain ⟨f0,g1,g2,g3,g4,g5⟩:=hf it (by simp)
  exact b7j (I.ok.hd hc) st f3 (by lia) fun h' eb=>⟨rfl,I.turned (t':=s.toks) (fun b o hb e=>eb b o hb e) f0 g1 g3 g4 g5⟩
 self:=fun _ _ _ _ _ st h=>wpAny_pyIter_keyiter st h
theorem c4d {X:Cx} {tg it:Expr} {te:TE} (h:PE X it te):PI X tg it (fun σ H R=>te σ H fun v H1=>∃ a kvs,v=.ref a∧((H1 a=some (.dT kvs)∧∀ o,R (Itk a o kvs) (upd H1 a (.frz o (.dT kvs)))) ∨ ∃ o,H1 a=some (.frz o (.dT kvs))∧R (Itk a o kvs) H1)):=by
 intro pins s σ H R I hh
 refine thn (h pins s σ H _ I hh) fun v s1 ⟨x,H1,I1,r1,a,kvs,e,q⟩=>?_
 subst e
 cases r1
 have one:∀ (o:Obj) (H2:Hp),Inv X pins σ H2 s1→H2 a=some (.frz o (.dT kvs))→R (Itk a o kvs) H2→wpAny (model X.prog X.w) X.A (pyIter (.ref a)) (PIE X pins σ tg R) X.xe s1:=by
  intro o H2 I2 e2 q
  obtain ⟨q1,q2⟩:=(show ObjOk X.prog X.w H2 s1.heap a (.frz o (.dT kvs)) from I2.hok a _ e2)
  obtain ⟨o',es,ep,f1,f2,f3,f4,f5,f6⟩:=a9u q2
  rw [q1] at f1; cases f1
  refine b2s f5 f3 ?_
  refine ⟨s1.heap.objs.size,[s1.heap.objs.size],_,_,H2,rfl,I2.kept (t':=s1.toks) fun b o e=>Γc _ e,b5e a _ f2 f4,⟨_,Heap.get?_push_size _ rfl,rfl,rfl⟩,fun b hb=>?_,q⟩
  have e:b=s1.heap.objs.size:=by simpa using hb
  subst e
  exact I2.fpOk (Nat.le_refl _) (I2.hok.fresh (Nat.le_refl _))
 rcases q with ⟨e1,q⟩ | ⟨o,e1,q⟩
 ·obtain ⟨o,es,ep,f1,f2,_⟩:=a9u (show ObjOk X.prog X.w H1 s1.heap a (.dT kvs) from I1.hok a _ e1)
  exact one o _ (c0n I1 e1 f1) a0f (q o)
 ·exact one o H1 I1 e1 q
noncomputable def b8t (k:List Int):FV:=.tup (k.map .int)
noncomputable def b2w (j:Nat):AW:=fun L Q=>wp (lk L j) fun v=>match v with
 | .dct ks vs=>∀ o,Q (ks.map b8t) (L.set j (some (.dcz o ks vs)))
 | .dcz _ ks _=>Q (ks.map b8t) L
 | _=>False
@[scoped simp ↓] theorem d0b (j:Nat) (L:a0d) (Q:List FV→a0d→Prop):b2w j L Q=(wp (lk L j) fun v=>match v with
 | .dct ks vs=>∀ o,Q (ks.map b8t) (L.set j (some (.dcz o ks vs)))
 | .dcz _ ks _=>Q (ks.map b8t) L
 | _=>False):=propext Iff.rfl
section
variable {X:Cx} {C:CC} {n:Nat} {sp:Γd→Nat→Sp} {tg:Expr} {p:Pos} {i:Nat} {nx:Str}
variable {K:Γd} {c:Cn} {md:Md}
theorem b6v {a:Addr} {o:Obj} {ks:List (List Int)} {us:List V} {S1:Hp} (hl:ks.length=us.length) (hp:(a,HO.frz o (.dT ((a1a ks).zip us)))∈c.pr):ItR K c md (Itk a o ((a1a ks).zip us)) (ks.map b8t) S1:=by
 intro i L σ S H I s
 have ha:=(I.prs _ hp).1
 have hz:((a1a ks).zip us).length=ks.length:=by rw [List.length_zip]; simp [a1a]; lia
 refine ⟨fun e=>⟨ha,?_⟩,fun p ep=>?_⟩
 ·have:=List.getElem?_eq_none_iff.mp e
  rw [List.length_map] at this; lia
 ·rw [List.getElem?_map] at ep
  obtain ⟨k,ek,rfl⟩:=Option.map_eq_some_iff.mp ep
  have hi:=(List.getElem?_eq_some_iff.mp ek).1
  refine ⟨⟨ha,by lia⟩,fun v H' ⟨eh,b,q,ev,eq,hb⟩=>?_⟩
  subst eh; subst ev
  have hq:q.1=k.map Sum.inl:=by
   obtain ⟨q1,q2⟩:=q
   have:=(List.getElem?_zip_eq_some.mp eq).1
   rw [a1a,List.getElem?_map,ek] at this
   simpa using this.symm
  rw [hq,List.map_map] at hb
  have hb:H' b=some (.tup (k.map V.int)):=hb
  exact ⟨_,(I.tup hb).2,fun c md L σ J=>(J.tup hb).1,b,_,rfl,a0f,RVs.ns k⟩
theorem d5s (G:Good X C n sp) (h:C.nm i nx=true) (m:a0u C.md i=.own):FI X C (C.md.set i .frz) tg (.Name nx p) (b2w i):=PI.imp (c4d (a1u G h)) fun σ H R ⟨c,L,S,Q0,I,h,k⟩=>by
 obtain ⟨v,e,h⟩:=wpx h
 have e:=(a2y _ _ _).mp e
 obtain ⟨l,e1,⟨o1,qs,us,e2,o2,o3⟩,o4⟩:=I.own i v (fun z=>by rw [m] at z; cases z) e
 cases v with
 | dct ks vs =>
  obtain ⟨hl,rfl⟩:=itd e2
  have hlu:=o3.length
  refine ⟨_,e1,l,_,rfl,.inl ⟨o2,fun o=>?_⟩⟩
  have I1:=I.writeV (w:=.dcz o ks vs) m e e1 (if_pos hl) o3
  have hi:=(List.getElem?_eq_some_iff.mp e).1
  obtain ⟨I2,un⟩:=I1.frz m (List.getElem?_set_self hi) e1 a0f
  exact k _ _ (h o) _ _ S _ I2 un rfl (b6v (by lia) List.mem_cons_self) (Same.refl S)
 | dcz o ks vs =>
  obtain ⟨hl,rfl⟩:=itd e2
  have hlu:=o3.length
  obtain ⟨I2,un⟩:=I.frz m e e1 o2
  exact ⟨_,e1,l,_,rfl,.inr ⟨o,o2,k _ _ h _ _ S _ I2 un rfl (b6v (by lia) List.mem_cons_self) (Same.refl S)⟩⟩
 | _=>exact h.elim
end
section
variable {prog:Program} {w:World} {A:Around} {E:Value→Shared→Prop} {s:Shared} {d:Addr} {es:Array DictEntry} {ep:Nat}
theorem b0q {Q:Value→Shared→Prop} (hh:A.in1.handled=none) (lo:(d == sysModules)=false) (hm:EntAt s.heap d es ep) (hb:es.size≤100000) (ht:∀ e∈es.toList,∃ ks,NumTup s.heap e.key ks)
  (K:∀ (D:Addr) (vs':List Value) (h':Heap) (c tk:Nat),vs'.Perm (es.toList.map (·.key))→(vs'.Pairwise fun x y=>lexLt (a3r s.heap y) (a3r s.heap x)=false)→(∀ b o,s.heap.get? b=some o→b≠D)→h'.get? D=some (seqObj "list" vs'.toArray c)→(∀ b o,s.heap.get? b=some o→h'.get? b=some o)→Q (.ref D) { s with heap:=h',toks:=tk }) :
  wpAny (model prog w) A (call (.builtin "sorted") [.ref d]) Q E s:=by
 refine Calls.call_function_entry kind_sorted plain_sorted entry_sorted (args_sorted1 _) ?_
 unfold Builtin.«sorted»
 refine Γa (m:=checkCount "sorted" 1 1 _) (Γb ?_)
 refine Γa (kdu_collect (c3f lo) hh hm (Nat.le_trans hb (by rw [sizeLine_eq]; lia)) fun h1 tk acc kp1 hacc=>?_)
 have hvs:acc.toList=es.toList.map (·.key):=by
  obtain ⟨h1,h2⟩:=hacc
  apply List.ext_getElem
  ·simp [h1]
  ·intro i i1 i2
   have hi:i < acc.size:=by simpa using i1
   obtain ⟨e,e1,e2⟩:=h2 i acc[i] (by simp [hi])
   simp at i2
   rw [Array.getElem?_eq_getElem i2] at e1
   cases e1
   simpa using e2
 generalize hv:acc.toList=vs at hvs ⊢
 have hlen:vs.length≤100000:=by rw [hvs]; simpa using hb
 have htv:∀ v∈vs,∃ ks,NumTup s.heap v ks:=fun v hv=>by
  rw [hvs] at hv
  obtain ⟨e,he,rfl⟩:=List.mem_map.mp hv
  exact ht e he
 refine Γa (wpAny_newList ?_ (by rw [sizeLine_eq]; lia))
 have hoL:(h1.push (seqObj "list" vs.toArray 0)).get? h1.objs.size=some (seqObj "list" vs.toArray 0):=Heap.get?_push_size _ rfl
 have keep:∀ b o,s.heap.get? b=some o→(h1.push (seqObj "list" vs.toArray 0)).get? b=some o:=fun b o q=>Γc _ (kp1 b o q)
 have old:∀ b o,s.heap.get? b=some o→b≠h1.objs.size:=fun b o e=>Nat.ne_of_lt (Heap.lt_size (kp1 b o e))
 show wpAny _ _ _ _ _ { s with heap:=h1.push (seqObj "list" vs.toArray 0),toks:=tk }
 refine Γa (Γg (wpAny_call_entry slot_list_sort ⟨_,hoL,rfl⟩ entry_list_sort (c9o (s:={ s with heap:=h1.push (seqObj "list" vs.toArray 0),toks:=tk }) (kd:=tuples' true) (kf:=a3r s.heap) hoL hlen (fun h2 h3 kp Q q=>?_) (fun h3 kp x hx y hy Q E' q=>?_) fun vs' h' c tk a1 a2 a3 a4=>⟨_,rfl,?_⟩) (args_list_sort _)))
 ·obtain ⟨fs,t1,t2,t3⟩:=a8o (h:=h3) (vs:=vs) fun v hv=>by
   obtain ⟨ks,hk⟩:=htv v hv
   exact (hk.keep fun b o e=>kp b o (old b o e) (keep b o e)).it
  refine kat_kind (T:=.type "int") t1 (by lia) (fun v hv=>?_) (by decide) q
  obtain ⟨k,t,rfl⟩:=t3 v hv
  exact .now
 ·obtain ⟨ks,hk⟩:=htv x hx
  obtain ⟨js,hj⟩:=htv y hy
  rw [hk.nums,hj.nums] at q
  exact c9m (hk.keep fun b o e=>kp b o (old b o e) (keep b o e)) (hj.keep fun b o e=>kp b o (old b o e) (keep b o e)) q
 ·rw [← hvs] at K
  exact Γb ⟨_,rfl,K _ vs' h' c tk a1 a2 old a3 fun b o e=>a4 b o (old b o e) (keep b o e)⟩
end
theorem obj_there {P:Program} {w:World} {H:Hp} {h:Heap} {a:Addr} {o:HO} (x:ObjOk P w H h a o):∃ u,h.get? a=some u:=by
 cases o with
 | lst xs=>exact let ⟨_,_,_,_,e⟩:=x; ⟨_,e⟩
 | tup xs=>exact let ⟨_,_,_,o,e,_⟩:=x; ⟨o,e⟩
 | dK kvs=>exact let ⟨_,_,_,_,o,_,_,e,_⟩:=x; ⟨o,e⟩
 | dT kvs=>exact let ⟨_,_,_,_,o,_,_,e,_⟩:=x; ⟨o,e⟩
 | set S n=>exact let ⟨o,_,_,_,e,_⟩:=x; ⟨o,e⟩
 | ins C dx fs=>exact let ⟨_,_,_,e,_⟩:=x; ⟨_,e⟩
 | own y=>exact x
 | xd fs=>exact let ⟨_,⟨o,_,_,e,_⟩,_⟩:=x; ⟨o,e⟩
 | rng lo hi=>exact let ⟨_,_,_,e⟩:=x; ⟨_,e⟩
 | frz ob u=>exact ⟨ob,x.1⟩
 | tbl ps=>exact ⟨_,x⟩
 | met f y=>exact ⟨_,x⟩
 | ext φ=>exact x.2.1
theorem c0m {X:Cx} {pins:List (Addr×Obj)} {σ:L2.St} {H:Hp} {s:Shared} {h':Heap} {a:Addr} {o:HO} {t':Nat} (I:Inv X pins σ H s) (k:∀ b u,s.heap.get? b=some u→h'.get? b=some u) (hp:∀ b u,s.heap.get? b=some u→b≠a) (new:ObjOk X.prog X.w (upd H a o) h' a o):Inv X pins σ (upd H a o) { s with heap:=h',toks:=t' }∧H a=none:=by
 have tr:∀ {b u},H b=some u→b≠a:=fun {b u} e=>let ⟨v,hv⟩:=obj_there (I.hok b u e); hp b v hv
 have ow:∀ b u,H b=some u→upd H a o b=some u:=fun b u e=>by rw [a0e (tr e)]; exact e
 refine ⟨I.un (t':=t') ⟨fun b o' e _ _ _=>k b o' e,fun b o' e _ _ _=>⟨o'.slots,k b o' e⟩,fun b o' e n _=>by rw [a0e (hp b o' e)]; exact n,fun b o' e _=>⟨o',k b o' e⟩,fun b xs e=>ow b _ e,fun b o' u e=>ow b _ e,fun b ps e=>⟨#[],by rw [Array.append_empty]; exact ow b _ e⟩⟩ fun b u e=>?_,?_⟩
 ·by_cases z:b=a
  ·subst z; rw [a0f] at e; cases e; exact new
  ·rw [a0e z] at e
   exact (I.hok b u e).stay (fun c v _ q=>k c v q) (fun c e=>ow c _ e) fun c xs e=>ow c _ e
 ·cases q:H a with
  | none=>rfl
  | some u=>exact absurd rfl (tr q)
section
variable {X:Cx}
noncomputable def c7n (X:Cx):List V→Hp→VK→Prop:=fun xs H Q=>∃ (a:Addr) (ks:List (List Int)) (us:List V),xs=[.ref a]∧Rd H a (.dT ((a1a ks).zip us))∧ks.length=us.length∧ks.length≤100000∧(∀ k∈ks,k≠[])∧∀ (p:Addr) (ys:List (List Int)) (zs:List V),H p=none→ys.Perm ks→(ys.Pairwise fun x y=>lexLt y x=false)→Paired (fun (k:List Int) (z:V)=>∃ b:Addr,z=V.ref b∧H b=some (.tup (k.map V.int))) ys zs→Q (.ref p) (upd H p (.lst zs))
theorem a3f {α β:Type} {f:α→β}:∀ {l':List β} {m:List β},l'.Perm m→∀ l:List α,m=l.map f→∃ l2:List α,l2.Perm l∧l'=l2.map f:=by
 intro l' m h
 induction h with
 | nil=>intro l e; exact ⟨[],by cases l with | nil=>exact .refl _ | cons=>simp at e,rfl⟩
 | @cons x l1 l2 p ih =>
  intro l e
  cases l with
  | nil=>simp at e
  | cons a r =>
   simp at e
   obtain ⟨q,h1,h2⟩:=ih r e.2
   exact ⟨a :: q,h1.cons a,by rw [List.map_cons,← e.1,← h2]⟩
 | swap x y t =>
  intro l e
  rcases l with _ | ⟨a,_ | ⟨b,r⟩⟩
  ·simp at e
  ·simp at e
  ·simp at e
   obtain ⟨rfl,rfl,rfl⟩:=e
   exact ⟨b :: a :: r,.swap a b r,rfl⟩
 | trans p q ih1 ih2 =>
  intro l e
  obtain ⟨m2,h1,h2⟩:=ih2 l e
  obtain ⟨m3,h3,h4⟩:=ih1 m2 h2
  exact ⟨m3,h3.trans h1,h4⟩
theorem c6b (hc:X.calm=true):a1k X (.builtin "sorted") (c7n X):=by
 rintro pins s σ H xs us Q I r ⟨a,ks,ws,rfl,hd,hl,hb,hne,k⟩
 obtain ⟨u,rfl,ru⟩:=a3o r
 cases (show u=Value.ref a from ru)
 obtain ⟨o,es,ep,f1,f2,f3,f4,f5,f6⟩:=a9u (hd.ok I.hok)
 have hz:((a1a ks).zip ws).length=ks.length:=by rw [List.length_zip]; simp [a1a]; lia
 have nt:∀ (b:Addr) (ks:List Int),H b=some (.tup (ks.map V.int))→ks≠[]→NumTup s.heap (.ref b) ks:=by
  intro b ks hb hn
  obtain ⟨_,jts,rr,o,e1,e2,n,e3⟩:=(show ObjOk X.prog X.w H s.heap b (.tup (ks.map V.int)) from I.hok b _ hb)
  exact ⟨b,o,jts,n,rfl,e1,e2,e3,rr,hn⟩
 -- the i-th key
 have key:∀ (i:Nat) (hi:i < es.size),∃ b,∃ hk:i < ks.length,es[i].key=.ref b∧H b=some (.tup (ks[i].map V.int)):=by
  intro i hi
  have hk:i < ks.length:=by lia
  have hw:i < ws.length:=by lia
  obtain ⟨b,b1,b2⟩:=f6 i hi (ks[i].map Sum.inl,ws[i]) (by
   rw [List.getElem?_zip_eq_some]
   simp [a1a,hk,hw])
  exact ⟨b,hk,b1,by rw [List.map_map] at b2; exact b2⟩
 refine b0q (I.ok.hd hc) f5 f3 (by lia) (fun e he=>?_) fun D vs' h' c tk p1 po p2 p3 p4=>?_
 ·obtain ⟨i,hi,rfl⟩:=List.mem_iff_getElem.mp he
  obtain ⟨b,hk,b1,b2⟩:=key i (by simpa using hi)
  have:es.toList[i].key=.ref b:=by simpa using b1
  rw [this]
  exact ⟨_,nt b _ b2 (hne _ (List.getElem_mem hk))⟩
 ·have hn:es.size=ks.length:=by lia
  have hch:∀ i,∃ b:Addr,∀ hi:i < es.size,es[i].key=.ref b∧H b=some (.tup ((ks.getD i []).map V.int)):=fun i=>by
   by_cases hi:i < es.size
   ·obtain ⟨b,hk,b1,b2⟩:=key i hi
    exact ⟨b,fun _=>⟨b1,by rw [List.getD,List.getElem?_eq_getElem hk]; exact b2⟩⟩
   ·exact ⟨0,fun h=>absurd h hi⟩
  let bo:=fun i=>Classical.choose (hch i)
  have hbo:∀ i (hi:i < es.size),es[i].key=.ref (bo i)∧H (bo i)=some (.tup ((ks.getD i []).map V.int)):=fun i hi=>Classical.choose_spec (hch i) hi
  have e0:es.toList.map (·.key)=(List.range es.size).map fun i=>Value.ref (bo i):=by
   apply List.ext_getElem
   ·simp
   ·intro i i1 i2
    simp at i1
    simpa using (hbo i i1).1
  obtain ⟨ix,q1,q2⟩:=a3f p1 _ e0
  have mem:∀ i∈ix,i < es.size:=fun i hi=>List.mem_range.mp (q1.mem_iff.mp hi)
  have hnum:∀ i∈ix,a3r s.heap (.ref (bo i))=ks.getD i []:=fun i hi=>by
   have h1:=mem i hi
   refine (nt _ _ (hbo i h1).2 (hne _ ?_)).nums
   rw [List.getD,List.getElem?_eq_getElem (show i < ks.length by lia)]
   exact List.getElem_mem _
  have rel:Vals (ix.map fun i=>V.ref (bo i)) vs':=by
   rw [q2]
   clear q1 q2 mem hnum p1 po p3
   induction ix with
   | nil=>exact .nil
   | cons i r ih=>exact .cons rfl ih
  have hlen:(ix.map fun i=>V.ref (bo i)).length≤sizeLine:=by rw [List.length_map,q1.length_eq,List.length_range,sizeLine_eq]; lia
  obtain ⟨I2,hD⟩:=c0m (a:=D) (o:=.lst (ix.map fun i=>V.ref (bo i))) (t':=tk) I p4 p2 ⟨hlen,vs',c,rel,p3⟩
  refine ⟨.ref D,_,I2,rfl,k D (ix.map fun i=>ks.getD i []) _ hD ?_ ?_ ?_⟩
  ·have h1:=q1.map fun i=>ks.getD i []
   have h2:(List.range es.size).map (fun i=>ks.getD i [])=ks:=by
    apply List.ext_getElem
    ·simp [hn]
    ·intro i i1 i2
     simp [List.getD,i2]
   rwa [h2] at h1
  ·rw [q2] at po
   rw [List.pairwise_map] at po ⊢
   refine List.Pairwise.imp_of_mem (fun {x y} hx hy h=>?_) po
   rw [hnum x hx,hnum y hy] at h
   exact h
  ·have hb:∀ i∈ix,H (bo i)=some (.tup ((ks.getD i []).map V.int)):=fun i hi=>(hbo i (mem i hi)).2
   clear q1 q2 mem hnum p1 po p3 rel hlen I2
   induction ix with
   | nil=>exact .nil
   | cons i r ih=>exact .cons ⟨bo i,rfl,hb i (by simp)⟩ (ih fun j hj=>hb j (by simp [hj]))
end
noncomputable def b7p:FV→Option (List (List Int))
 | .dct ks _=>some ks
 | .dcz _ ks _=>some ks
 | _=>none
noncomputable def b7l (j:Nat):EW:=fun L Q=>wp (lk L j) fun v=>wp (b7p v) fun ks=>ks.length≤big∧(∀ k∈ks,k≠[])∧∀ ys:List (List Int),ys.Perm ks→(ys.Pairwise fun x y=>lexLt y x=false)→Q (.lst (ys.map b8t)) L
@[scoped simp ↓] theorem d0l (j:Nat) (L:a0d) (Q:FV→a0d→Prop):b7l j L Q=(wp (lk L j) fun v=>wp (b7p v) fun ks=>ks.length≤big∧(∀ k∈ks,k≠[])∧∀ ys:List (List Int),ys.Perm ks→(ys.Pairwise fun x y=>lexLt y x=false)→Q (.lst (ys.map b8t)) L):=propext Iff.rfl
@[scoped simp ↓] theorem d7l (ks:List (List Int)) (vs:List FV) (Q:List (List Int)→Prop):wp (b7p (.dct ks vs)) Q=Q ks:=propext Iff.rfl
section
variable {X:Cx} {C:CC} {n:Nat} {sp:Γd→Nat→Sp} {pos p p':Pos} {i:Nat} {nx:Str}
theorem Iv.tups {K:Γd} {c:Cn} {md:Md} {L:a0d} {σ:L2.St} {H:Hp}:∀ {ys:List (List Int)} {zs:List V} {S:Hp},Iv K c md L σ S H→Paired (fun (k:List Int) (z:V)=>∃ b:Addr,z=V.ref b∧H b=some (.tup (k.map V.int))) ys zs→∃ S',Iv K c md L σ S' H∧Same S S'∧RVs K S' (ys.map b8t) zs
 | _,_,S,I,.nil=>⟨S,I,Same.refl S,rfl⟩
 | _,_,S,I,.cons (a:=k) (b:=z) ⟨b,e,hb⟩ t=>by
  subst e
  obtain ⟨S',I',s',r⟩:=Iv.tups I t
  obtain ⟨I2,s2⟩:=I'.tup hb
  exact ⟨_,I2,s'.trans s2,V.ref b,_,rfl,⟨b,_,rfl,a0f,RVs.ns k⟩,r.mono s2⟩
theorem d1y (G:Good X C n sp) (hg:C.gl (Γe "sorted")=true) (h:C.nm i nx=true) (m:a0u C.md i≠.imm):FE X C (.Call (.Name (Γe "sorted") p) [.Name nx p'] [] pos) (b7l i) :=
 PE.imp (a4k (c6b G.calm) (G.gl hg) (G.blt "sorted" (by decide)) (by nofun) (a0p (a1u G h) a1p (a0c rfl)) (by nofun) (by nofun) (a0c rfl) rfl) fun σ H Q ⟨c,L,S,Q0,I,h,k⟩=>by
  obtain ⟨v,e,h⟩:=wpx h
  have e:=(a2y _ _ _).mp e
  obtain ⟨ks,e0,hb,hne,q⟩:=wpx h
  obtain ⟨l,e1,⟨o1,qs,us,e2,o2,o3⟩,_⟩:=I.own i v m e
  have rd:Rd H l (.dT ((a1a ks).zip us))∧ks.length=us.length:=by
   have hlu:=o3.length
   cases v with
   | dct ks' vs =>
    cases e0
    obtain ⟨hl,rfl⟩:=itd e2
    exact ⟨.inl o2,by lia⟩
   | dcz o ks' vs =>
    cases e0
    obtain ⟨hl,rfl⟩:=itd e2
    exact ⟨.inr ⟨o,o2⟩,by lia⟩
   | _=>cases e0
  refine ⟨_,e1,l,ks,us,rfl,rd.1,rd.2,by simp only [big] at hb; lia,hne,fun D ys zs hD p1 p2 p3=>?_⟩
  obtain ⟨S',I',s',r⟩:=Iv.tups I p3
  exact k _ L (q ys p1 p2) _ _ _ ⟨D,zs,rfl,a0f,r.mono (a0m (I'.sn hD))⟩ (I'.new hD _) (s'.trans (a0m (I'.sn hD)))
end
end Kq
end
set_option maxRecDepth 10000
set_option maxHeartbeats 1000000
section
namespace Kq
noncomputable def bd0 (call:CW):SW:=a1n (c5r (eUn (b8u .int) (a0b 0)) (eUn d1k (eUn (b8u .bool) (a0b 0))))
noncomputable def bd1 (call:CW):SW:=a1n (c5r (eUn (b8u .tuple) (a0b 0)) (eOp eqB (eUn a7h (a0b 0)) (a0b 1)))
noncomputable def bd2 (call:CW):SW:=a0x (a1j (eUn a7h (eOp ixF (a0b 0) (eC (.int 0)))) (.nm 2)) (a0x (sIf (b4t (a1o (a1l call 1 (a0a (a0b 1) (a0a (a0b 2) a0i))))) (a1n (eC (.bl false))) a5a) (a0x (a1j (a1l call 4 (a0a (a0b 0) a0i)) (.nm 3)) (a0x (a8u (b7a (a0b 1)) (.tp [4,5]) (sIf (c2o (a1o (eUn a0q (a0b 5))) (b4t (c2o (a1o (a1l call 0 (a0a (a0b 5) a0i))) (a1o (eOp d0a (a3b (a0a (a0b 5) (a0a (a0b 4) a0i))) (a0b 3)))))) (a1n (eC (.bl false))) a5a)) (a1n (eUn c6n (a1t 6 1 (a8r (a0b 2)) (.nm 6) a1s (a1l call 3 (a0a (a0b 1) (a0a (a0b 6) a0i)))))))))
noncomputable def bd3 (call:CW):SW:=a0x (a1j (eOp ixF (a0b 0) (a0b 1)) (.nm 2)) (a0x (a8u (a8r (eUn a7h (a0b 0))) (.nm 3) (a0x (sIf (a1o (eUn a2m (a0b 2))) (a1n (eC (.bl true))) a5a) (a1j (eOp ixF (a0b 0) (a0b 2)) (.nm 2)))) (a1n (eC (.bl false))))
noncomputable def bd4 (call:CW):SW:=a1n (b7n 1 3 (b2v (eOp ixF (a0b 0) (eC (.int 1)))) (.tp [1,2,3]) a1s (a3b (a0a (a0b 1) (a0a (a0b 2) a0i))) (a0b 3))
noncomputable def bd5 (call:CW):SW:=a0x (a1j (a1l call 4 (a0a (a0b 0) a0i)) (.nm 2)) (a1n (a1t 3 2 (b7a (a0b 1)) (.tp [3,4]) a1s (eIf (a1o (eUn a2m (a0b 4))) (eOp ixF (eOp ixF (a0b 0) (eC (.int 0))) (a0b 3)) (eOp b7s (a0b 2) (a3b (a0a (a0b 4) (a0a (a0b 3) a0i)))))))
noncomputable def bd6 (call:CW):SW:=a0x (a1j (a6u (a0a (a0b 1) a0i)) (.nm 2)) (a0x (a1j (eOp ixF (a0b 0) (a0b 1)) (.nm 3)) (a0x (c7g (a1o (eUn a0q (a0b 3))) (a0x (c3j (b7m d1a 2 (a0b 3))) (a1j (eOp ixF (a0b 0) (a0b 3)) (.nm 3)))) (a1n (eUn c3m (a0b 2)))))
noncomputable def bd7 (call:CW):SW:=a0x (a1j (a1l call 5 (a0a (a0b 0) (a0a (a0b 1) a0i))) (.nm 2)) (a1n (eUn a2l (a1t 3 1 (a8r (eUn a7h (a0b 1))) (.nm 3) a1s (eUn c6y (a1t 4 1 (b2v (a1l call 6 (a0a (a0b 1) (a0a (a0b 3) a0i)))) (.nm 4) a1s (eOp ixF (a0b 2) (a0b 4)))))))
noncomputable def bd8 (call:CW):SW:=a0x (a1j (a0b 0) (.tp [3,4])) (a0x (sIf (bOr (b4t (a1o (a1l call 1 (a0a (a0b 1) (a0a (eUn a7h (a0b 3)) a0i))))) (b4t (a1o (eUn c6n (a1t 5 1 (b2v (a0b 1)) (.nm 5) a1s (a1l call 0 (a0a (a0b 5) a0i))))))) (a1n (eC (.bl false))) a5a) (a0x (sIf (a1o (eUn c2p (a1t 5 2 (c6m (a0b 1) (a0b 3)) (.tp [5,6]) a1s (eOp gtB (a0b 5) (a0b 6))))) (a1n (eC (.bl false))) a5a) (a0x (sIf (a1o (eUn c2p (a1t 5 3 (b2v (a0b 4)) (.tp [5,6,7]) a1s (eOp gtB (eOp ixF (a0b 1) (a0b 6)) (eOp a4c (eOp ixF (a0b 1) (a0b 5)) (a0b 7)))))) (a1n (eC (.bl false))) a5a) (a1n (c5r (a1l call 2 (a0a (a0b 0) (a0a (a0b 2) a0i))) (eOp eqB (a1l call 7 (a0a (a0b 0) (a0a (a0b 2) a0i))) (a0b 1)))))))
noncomputable def bd9 (call:CW):SW:=a0x (a1j (a0b 0) (.tp [1,2])) (a0x (a1j (eUn a3g (a0b 1)) (.nm 3)) (a0x (a8u (a8r (eUn a7h (a0b 1))) (.nm 4) (a8u (b2v (a0b 2)) (.tp [5,6,7]) (c1v 3 (a0b 6) (eOp b3v (a6z ixF 3 (a0b 6)) (eOp a4c (a6z ixF 3 (a0b 5)) (a0b 7)))))) (a1n (eUn a2l (a0b 3)))))
noncomputable def d8l (call:CW):SW:=a0x (a1j (a0b 0) (.tp [1,2])) (a0x (a1j (a1l call 9 (a0a (a0b 0) a0i)) (.nm 3)) (a0x (a1j (eOp (a5j b4p) (a6u (a0a (eC .non) a0i)) (eUn a7h (a0b 1))) (.nm 4)) (a0x (a1j (eUn a3g (a0b 1)) (.nm 5)) (a0x (a8u (b2v (a0b 2)) (.tp [6,7,8]) (sIf (c2o (a1o (eOp eqB (eOp a4c (eOp ixF (a0b 3) (a0b 6)) (a0b 8)) (eOp ixF (a0b 3) (a0b 7)))) (a1o (eOp ltB (a0b 8) (a6z ixF 5 (a0b 7))))) (a0x (c1v 4 (a0b 7) (a0b 6)) (c1v 5 (a0b 7) (a0b 8))) a5a)) (a1n (eUn a2l (a0b 4)))))))
noncomputable def d8k (call:CW):SW:=a0x (a1j (eOp c0f (eOp b4p (eOp a4c (eOp a4c (eOp c0f (a0b 0) (eC (.int 2147483629))) (eOp b4p (eOp b4p (a0b 1) (a0b 1)) (eC (.int 7919)))) (eC (.int 11))) (eC (.int 48271))) (eC (.int 2147483647))) (.nm 2)) (a1n (eOp c0f (eOp b4p (a0b 2) (a0b 2)) (eC (.int 1999999973))))
noncomputable def d8j (call:CW):SW:=a0x (a1j (eIf (a1o (eOp ltB (a0b 1) (eUn a7h (a0b 0)))) (eOp ixF (a0b 0) (a0b 1)) (eC (.int 0))) (.nm 2)) (a1n (a6u (a0a (eOp b4p (eUn d1c (a0b 2)) (eUn b1o (eOp geB (eUn d1c (a0b 2)) (eOp c8d (eC (.int 10)) (eC (.int 18)))))) (a0a (eOp a4c (a0b 2) (eOp b4p (eC (.int 1000003)) (a0b 1))) (a0a (eC (.int 0)) a0i)))))
noncomputable def d2n (call:CW):SW:=a0x (c1v 0 (eC (.int 2)) (eOp a4c (a6z ixF 0 (eC (.int 2))) (eC (.int 1)))) (a0x (sIf (a1o (eOp gtB (a6z ixF 0 (eC (.int 0))) (eC (.int 0)))) (a0x (a1j (eOp c0f (a6z ixF 0 (eC (.int 0))) (a0b 1)) (.nm 2)) (a0x (c1v 0 (eC (.int 0)) (eOp b7g (a6z ixF 0 (eC (.int 0))) (a0b 1))) (a1n (a0b 2)))) a5a) (a1n (eOp c0f (eOp b7g (a1l call 11 (a0a (a1l call 11 (a0a (a6z ixF 0 (eC (.int 1))) (a0a (a6z ixF 0 (eC (.int 2))) a0i))) (a0a (eOp a4c (a6z ixF 0 (eC (.int 2))) (eC (.int 64))) a0i))) (eC (.int 64))) (a0b 1))))
noncomputable def d8i (call:CW):SW:=a0x (a1j (a0g call 13 0 (a0a (eC (.int 4)) a0i)) (.nm 2)) (a0x (sIf (c2o (a1o (eOp eqB (a0b 2) (eC (.int 3)))) (a1o (eOp eqB (a0b 1) (eC (.int 0))))) (a1n (eOp a4c (eC (.int 1)) (a0g call 13 0 (a0a (eOp c6k (eOp c8d (eC (.int 10)) (eC (.int 9))) (eC (.int 20))) a0i)))) a5a) (a1n (eOp a4c (eC (.int 1)) (a0g call 13 0 (a0a (eOp ixF (a6u (a0a (eC (.int 9)) (a0a (eC (.int 9)) (a0a (eC (.int 40)) (a0a (eC (.int 3)) a0i))))) (a0b 2)) a0i)))))
noncomputable def d8h (call:CW):SW:=a0x (sIf (a1o (eOp eqB (a0g call 13 0 (a0a (eC (.int 8)) a0i)) (eC (.int 0)))) (a1n (eOp a4c (eC (.int 7)) (a0g call 13 0 (a0a (eOp c6k (a0b 1) (eC (.int 6))) a0i)))) a5a) (a1n (eOp ixF (a6u (a0a (eC (.int 0)) (a0a (eC (.int 1)) (a0a (eC (.int 2)) (a0a (eC (.int 3)) (a0a (eC (.int 4)) (a0a (eC (.int 5)) (a0a (eC (.int 6)) (a0a (eC (.int 4)) (a0a (eC (.int 5)) (a0a (eC (.int 3)) a0i))))))))))) (a0g call 13 0 (a0a (eC (.int 10)) a0i))))
noncomputable def d8g (call:CW):SW:=a0x (a1j (a3b (a0a (a0g call 13 0 (a0a (eC (.int 4)) a0i)) (a0a (eOp a4c (eC (.int 1)) (a0g call 13 0 (a0a (eC (.int 4)) a0i))) a0i))) (.tp [2,3])) (a0x (a1j (eUn a2l (a1t 8 1 (a8r (a0b 1)) (.nm 8) a1s (eOp a4c (a0g call 14 0 (a0a (a0b 2) a0i)) (eOp ixF (a6u (a0a (eC (.int 0)) (a0a (eC (.int 12)) a0i))) (a0g call 13 0 (a0a (eC (.int 2)) a0i)))))) (.nm 4)) (a0x (a1j (a6u a0i) (.nm 5)) (a0x (a8u (a8r (a0b 1)) (.nm 6) (a8u (a8r (a0b 1)) (.nm 7) (sIf (c2o (a1o (eOp neB (a0b 6) (a0b 7))) (a1o (eOp eqB (a0g call 13 0 (a0a (a0b 3) a0i)) (eC (.int 0))))) (c3j (b7m d1a 5 (a3b (a0a (a0b 6) (a0a (a0b 7) (a0a (a0g call 14 0 (a0a (a0b 2) a0i)) a0i)))))) a5a))) (a1n (a3b (a0a (a0b 4) (a0a (eUn a2l (a0b 5)) a0i)))))))
noncomputable def d8f (call:CW):SW:=a0x (a1j (a0g call 16 0 (a0a (a0b 1) a0i)) (.nm 2)) (a0x (a1j (eC (.dct [] [])) (.nm 3)) (a0x (a8u (b2v (eOp ixF (a0b 2) (eC (.int 1)))) (.tp [4,5,6]) (b9k 3 (a3b (a0a (eOp b3v (a0b 4) (a0b 5)) (a0a (eOp b6i (a0b 4) (a0b 5)) a0i))) (a0b 6))) (a0x (a1j (eOp a4c (a1t 8 2 (b2w 3) (.tp [8,9]) a1s (a3b (a0a (a0b 8) (a0a (a0b 9) (a0a (a6z dgF 3 (a3b (a0a (a0b 8) (a0a (a0b 9) a0i)))) a0i))))) (a1t 8 2 (b2w 3) (.tp [8,9]) a1s (a3b (a0a (a0b 9) (a0a (a0b 8) (a0a (a6z dgF 3 (a3b (a0a (a0b 8) (a0a (a0b 9) a0i)))) a0i)))))) (.nm 7)) (a1n (a3b (a0a (eOp ixF (a0b 2) (eC (.int 0))) (a0a (eUn a2l (b7k (a0b 7))) a0i)))))))
noncomputable def d8e (call:CW):SW:=a0x (a1j (a6u a0i) (.nm 2)) (a0x (a8u (a8r (a0b 1)) (.nm 3) (c3j (b3d d1n 2 (a0a (a0g call 13 0 (a0a (eOp a4c (a0b 3) (eC (.int 1))) a0i)) (a0a (a0b 3) a0i))))) (a0x (a1j (a3b (a0a (eOp a4c (eC (.int 1)) (a0g call 13 0 (a0a (eC (.int 3)) a0i))) (a0a (eOp a4c (eC (.int 9)) (a0g call 13 0 (a0a (eC (.int 40)) a0i))) a0i))) (.tp [4,5])) (a0x (a1j (eUn b7r (a1t 11 2 (c5i 2 (d0m 2 (c0c (eC (.int 1))) c0d)) (.tp [11,12]) a1s (a3b (a0a (a3b (a0a (a0b 11) (a0a (a0b 12) a0i))) (a0a (eOp a4c (eC (.int 1)) (a0g call 13 0 (a0a (a0b 4) a0i))) a0i))))) (.nm 6)) (a0x (a8u (a8r (a0g call 13 0 (a0a (eOp a4c (a0b 1) (eC (.int 1))) a0i))) (.nm 7) (a0x (a1j (a3b (a0a (a0g call 13 0 (a0a (a0b 1) a0i)) (a0a (a0g call 13 0 (a0a (a0b 1) a0i)) a0i))) (.tp [8,9])) (sIf (a1o (eOp neB (a0b 8) (a0b 9))) (b9k 6 (a3b (a0a (a0b 8) (a0a (a0b 9) a0i))) (eOp a4c (eC (.int 1)) (a0g call 13 0 (a0a (a0b 5) a0i)))) a5a))) (a0x (a1j (eUn a2l (a1t 11 1 (a8r (a0b 1)) (.nm 11) a1s (eOp a4c (eC (.int 1)) (a0g call 13 0 (a0a (a0b 5) a0i))))) (.nm 10)) (a1n (a3b (a0a (a0b 10) (a0a (eUn a2l (a1t 11 1 (b2v (b7l 6)) (.nm 11) a1s (eOp a4c (a0b 11) (a3b (a0a (a6z dgF 6 (a0b 11)) a0i))))) a0i)))))))))
noncomputable def d8d (call:CW):SW:=a0x (a1j (a0g call 15 0 (a0a (a0b 1) a0i)) (.nm 2)) (a0x (a1j (a0g call 13 0 (a0a (eC (.int 4)) a0i)) (.nm 3)) (a0x (sIf (c2o (a1o (eOp eqB (a0b 3) (eC (.int 0)))) (a1o (eOp gtB (a0b 2) (eC (.int 0))))) (a1n (a0g call 18 0 (a0a (a0b 2) a0i))) a5a) (a1n (eIf (a1o (eOp eqB (a0b 3) (eC (.int 1)))) (a0g call 17 0 (a0a (a0b 2) a0i)) (a0g call 16 0 (a0a (a0b 2) a0i))))))
noncomputable def d2m (call:CW):SW:=a0x (a1j (a6u (a0a (eC .non) (a0a (eC (.bl true)) (a0a (eC (.bl false)) (a0a (eC (.int 0)) (a0a (eC (.int 1)) (a0a (eUn d4s (eC (.int 1))) (a0a (eC (.int 2)) (a0a (eC (.int 7)) (a0a (eC (.str "")) (a0a (eC (.str "keep")) (a0a (eC (.str "put")) (a0a (a3b a0i) (a0a (a6u a0i) (a0a (a3b (a0a (eC (.int 0)) a0i)) (a0a (a6u (a0a (eC (.int 0)) a0i)) (a0a (a3b (a0a (eC (.int 0)) (a0a (eC (.int 1)) a0i))) (a0a (a3b (a0a (eC .non) a0i)) (a0a (a3b (a0a (eC (.str "keep")) (a0a (eC (.int 0)) (a0a (eC (.int 1)) a0i)))) a0i))))))))))))))))))) (.nm 2)) (a0x (sIf (bOr (a1o (eOp eqB (a0b 1) (eC (.int 0)))) (a1o (eOp eqB (a0g call 13 0 (a0a (eC (.int 3)) a0i)) (eC (.int 0))))) (a1n (eOp ixF (a0b 2) (a0g call 13 0 (a0a (eC (.int 18)) a0i)))) a5a) (a0x (a1j (a1t 4 1 (a8r (a0g call 13 0 (a0a (eC (.int 4)) a0i))) (.nm 4) a1s (a0g call 20 0 (a0a (eOp c6k (a0b 1) (eC (.int 1))) a0i))) (.nm 3)) (a1n (eOp ixF (a6u (a0a (a0b 3) (a0a (eUn a2l (a0b 3)) a0i))) (a0g call 13 0 (a0a (eC (.int 2)) a0i))))))
noncomputable def d8c (call:CW):SW:=a0x (a1j (eOp ixF (a6u (a0a (a3b (a0a (eC (.int 0)) (a0a (eC (.int 1)) a0i))) (a0a (eC (.int 0)) (a0a (eC .non) a0i)))) (a0g call 13 0 (a0a (eC (.int 3)) a0i))) (.nm 1)) (a0x (a8u (a8r (a0g call 13 0 (a0a (eC (.int 19)) a0i))) (.nm 2) (a1j (eOp ixF (a6u (a0a (a6u (a0a (a0b 1) a0i)) (a0a (a3b (a0a (a0b 1) a0i)) a0i))) (eOp c0f (a0b 2) (eC (.int 2)))) (.nm 1))) (a1n (a0b 1)))
noncomputable def d2l (call:CW):SW:=a1n (eIf (a1o (eOp eqB (a0g call 13 0 (a0a (eC (.int 4)) a0i)) (eC (.int 0)))) (a0g call 21 0 a0i) (a0g call 20 0 (a0a (eC (.int 3)) a0i)))
noncomputable def d0z (call:CW):SW:=a1n (eUn c6n (a1t 1 1 (b2v (a0b 0)) (.nm 1) a1s (c5r (eUn (b8u .int) (a0b 1)) (eUn d1k (eUn (b8u .bool) (a0b 1))))))
noncomputable def d2k (call:CW):SW:=a1n (eUn b7r (a1t 1 3 (b2v (eOp ixF (a0b 0) (eC (.int 1)))) (.tp [1,2,3]) a1s (a3b (a0a (a3b (a0a (a0b 1) (a0a (a0b 2) a0i))) (a0a (a0b 3) a0i)))))
noncomputable def d8b (call:CW):SW:=a0x (a1j (a6u (a0a (a0b 1) a0i)) (.nm 2)) (a0x (c7g (a1o (eUn a0q (eOp ixF (a0b 0) (a6z ixF 2 (eC (.int 0)))))) (c3j (b3d d1n 2 (a0a (eC (.int 0)) (a0a (eOp ixF (a0b 0) (a6z ixF 2 (eC (.int 0)))) a0i))))) (a1n (a0b 2)))
noncomputable def d8a (call:CW):SW:=a0x (a1j (a1l call 24 (a0a (a0b 0) a0i)) (.nm 2)) (a0x (a1j (a6u a0i) (.nm 3)) (a0x (a8u (a8r (eUn a7h (a0b 1))) (.nm 4) (a0x (a1j (a1l call 25 (a0a (a0b 1) (a0a (a0b 4) a0i))) (.nm 5)) (c3j (b7m d1a 3 (eOp a4c (eOp ixF (eOp ixF (a0b 0) (eC (.int 0))) (eOp ixF (a0b 5) (eC (.int 0)))) (eUn c6y (a1t 6 1 (c6m (a0b 5) (eSl (a0b 5) (c0c (eC (.int 1))) c0d)) (.nm 6) a1s (eOp b7s (a0b 2) (a0b 6))))))))) (a1n (eUn a2l (a0b 3)))))
noncomputable def d7z (call:CW):SW:=a0x (a1j (a1l call 24 (a0a (a0b 0) a0i)) (.nm 2)) (a0x (sIf (a1o (eUn c2p (a1t 6 2 (b7a (a0b 1)) (.tp [6,7]) a1s (c5r (eUn a0q (a0b 7)) (eOp d1l (a3b (a0a (a0b 7) (a0a (a0b 6) a0i))) (a0b 2)))))) (a1n (eC (.bl false))) a5a) (a0x (a8u (a8r (eUn a7h (a0b 1))) (.nm 3) (a0x (a1j (a0b 3) (.nm 4)) (a0x (a8u (a8r (eUn a7h (a0b 1))) (.nm 5) (sIf (a1o (eUn a0q (a0b 4))) (a1j (eOp ixF (a0b 1) (a0b 4)) (.nm 4)) a5a)) (sIf (a1o (eUn a0q (a0b 4))) (a1n (eC (.bl false))) a5a)))) (a1n (eC (.bl true)))))
noncomputable def d2j (call:CW):SW:=a0x (sIf (bOr (b4t (a1o (eUn (b8u .tuple) (a0b 1)))) (a1o (eOp neB (eUn a7h (a0b 1)) (eUn a7h (eOp ixF (a0b 0) (eC (.int 0))))))) (a1n (eC (.bl false))) a5a) (a0x (sIf (b4t (a1o (a1l call 23 (a0a (a1t 2 1 (b2v (a0b 1)) (.nm 2) (a1o (eUn a0q (a0b 2))) (a0b 2)) a0i)))) (a1n (eC (.bl false))) a5a) (a1n (a1l call 27 (a0a (a0b 0) (a0a (a0b 1) a0i)))))
noncomputable def d2i (call:CW):SW:=a0x (sIf (bOr (b4t (a1o (eUn (b8u .tuple) (a0b 1)))) (bOr (a1o (eOp neB (eUn a7h (a0b 1)) (eUn a7h (eOp ixF (a0b 0) (eC (.int 0)))))) (b4t (a1o (a1l call 23 (a0a (a0b 1) a0i)))))) (a1n (eC (.bl false))) a5a) (a0x (sIf (b4t (a1o (a1l call 28 (a0a (a0b 0) (a0a (a0b 2) a0i))))) (a1n (eC (.bl false))) a5a) (a0x (sIf (a1o (eUn c2p (a1t 3 2 (c6m (a0b 1) (eOp ixF (a0b 0) (eC (.int 0)))) (.tp [3,4]) a1s (eOp gtB (a0b 3) (a0b 4))))) (a1n (eC (.bl false))) a5a) (a0x (sIf (a1o (eUn c2p (a1t 3 3 (b2v (eOp ixF (a0b 0) (eC (.int 1)))) (.tp [3,4,5]) a1s (eOp gtB (eOp ixF (a0b 1) (a0b 4)) (eOp a4c (eOp ixF (a0b 1) (a0b 3)) (a0b 5)))))) (a1n (eC (.bl false))) a5a) (a1n (eOp eqB (a1l call 26 (a0a (a0b 0) (a0a (a0b 2) a0i))) (a0b 1))))))
noncomputable def d7y (call:CW):SW:=a0x (a1j (a0g call 13 0 (a0a (eC (.int 4)) a0i)) (.nm 2)) (a0x (sIf (bOr (a1o (eOp eqB (a0b 2) (eC (.int 0)))) (a1o (eOp eqB (a0b 1) (a3b a0i)))) (a1n (a0g call 22 0 a0i)) a5a) (a0x (sIf (a1o (eOp eqB (a0b 2) (eC (.int 1)))) (a1n (eUn a3g (a0b 1))) a5a) (a0x (a1j (eUn a3g (a0b 1)) (.nm 3)) (a0x (a1j (a0g call 13 0 (a0a (eUn a7h (a0b 3)) a0i)) (.nm 4)) (a0x (c1v 3 (a0b 4) (eOp ixF (a6u (a0a (a0g call 22 0 a0i) (a0a (eOp eqB (a6z ixF 3 (a0b 4)) (eC (.int 1))) (a0a (eUn c3e (a6z ixF 3 (a0b 4))) (a0a (a3b (a0a (a6z ixF 3 (a0b 4)) a0i)) a0i))))) (a0g call 13 0 (a0a (eC (.int 4)) a0i)))) (a1n (eUn a2l (a0b 3))))))))
noncomputable def d7x (call:CW):SW:=a0x (a8u (a8r (eOp b6i (eC (.int 4)) (eOp b3v (eUn a7h (a0b 0)) (eC (.int 10))))) (.nm 1) (a0x (a1j (a1l call 12 (a0a (a0b 0) (a0a (a0b 1) a0i))) (.nm 2)) (a0x (a1j (a0g call 19 2 (a0a (eC (.int 12)) a0i)) (.nm 3)) (a0x (a1j (a3b (a0a (a1l call 9 (a0a (a0b 3) a0i)) (a0a (a1l call 10 (a0a (a0b 3) a0i)) a0i))) (.tp [4,5])) (a8u (a8r (eC (.int 6))) (.nm 6) (a0x (a1j (eOp ixF (a6u (a0a (a3b (a0a (a0g call 30 2 (a0a (a0b 4) a0i)) (a0a (a0b 5) a0i))) (a0a (a3b (a0a (a0b 4) (a0a (a0g call 30 2 (a0a (a0b 5) a0i)) a0i))) a0i))) (a0g call 13 2 (a0a (eC (.int 2)) a0i))) (.nm 7)) (a0x (a1j (eUn c3e (a0b 7)) (.nm 8)) (a0x (a1j (a1l call 8 (a0a (a0b 3) (a0a (eOp ixF (a0b 7) (eC (.int 0))) (a0a (eOp ixF (a0b 7) (eC (.int 1))) a0i)))) (.nm 9)) (sIf (bOr (b4t (a1o (eUn (b8u .bool) (a0b 9)))) (bOr (a1o (eOp neB (a0b 9) (a1l call 29 (a0a (a0b 3) (a0a (eOp ixF (a0b 7) (eC (.int 0))) (a0a (eOp ixF (a0b 7) (eC (.int 1))) a0i)))))) (a1o (eOp neB (eUn c3e (a0b 7)) (a0b 8))))) (a1n (eC (.bl false))) a5a))))))))) (a1n (eC (.bl true)))
noncomputable def fd0:FD:=⟨1,1,bd0,false,false⟩
noncomputable def fd1:FD:=⟨2,2,bd1,false,false⟩
noncomputable def fd2:FD:=⟨2,6,bd2,false,false⟩
noncomputable def fd3:FD:=⟨2,4,bd3,false,false⟩
noncomputable def fd4:FD:=⟨1,1,bd4,false,false⟩
noncomputable def fd5:FD:=⟨2,3,bd5,false,false⟩
noncomputable def fd6:FD:=⟨2,4,bd6,false,false⟩
noncomputable def fd7:FD:=⟨2,3,bd7,false,false⟩
noncomputable def fd8:FD:=⟨3,5,bd8,false,false⟩
noncomputable def fd9:FD:=⟨1,8,bd9,false,false⟩
noncomputable def d6z:FD:=⟨1,9,d8l,false,false⟩
noncomputable def d6y:FD:=⟨2,3,d8k,false,false⟩
noncomputable def d6x:FD:=⟨2,3,d8j,false,true⟩
noncomputable def d2e:FD:=⟨2,3,d2n,true,false⟩
noncomputable def d6w:FD:=⟨2,3,d8i,true,false⟩
noncomputable def d6v:FD:=⟨2,2,d8h,true,false⟩
noncomputable def d6u:FD:=⟨2,8,d8g,true,false⟩
noncomputable def d6t:FD:=⟨2,8,d8f,true,false⟩
noncomputable def d6s:FD:=⟨2,11,d8e,true,false⟩
noncomputable def d6r:FD:=⟨2,4,d8d,true,false⟩
noncomputable def d0h:FD:=⟨2,4,d2m,true,false⟩
noncomputable def d6q:FD:=⟨1,3,d8c,true,false⟩
noncomputable def d6p:FD:=⟨1,1,d2l,true,false⟩
noncomputable def d0g:FD:=⟨1,1,d0z,false,false⟩
noncomputable def d6o:FD:=⟨1,1,d2k,false,false⟩
noncomputable def d6n:FD:=⟨2,3,d8b,false,true⟩
noncomputable def d6m:FD:=⟨2,6,d8a,false,false⟩
noncomputable def d6l:FD:=⟨2,6,d7z,false,false⟩
noncomputable def d2d:FD:=⟨2,2,d2j,false,false⟩
noncomputable def d2c:FD:=⟨3,3,d2i,false,false⟩
noncomputable def d6k:FD:=⟨2,5,d7y,true,false⟩
noncomputable def d6j:FD:=⟨1,10,d7x,false,false⟩
noncomputable def tb:List FD:=[fd0,fd1,fd2,fd3,fd4,fd5,fd6,fd7,fd8,fd9,d6z,d6y,d6x,d2e,d6w,d6v,d6u,d6t,d6s,d6r,d0h,d6q,d6p,d0g,d6o,d6n,d6m,d6l,d2d,d2c,d6k,d6j]
noncomputable def mixV (a k:Int):Int:=((a % 2147483629 + k * k * 7919 + 11) * 48271 % 2147483647) * ((a % 2147483629 + k * k * 7919 + 11) * 48271 % 2147483647) % 1999999973
theorem b5i (x:Int):a2c (x % 2147483647)=true:=by
 have:=Int.emod_nonneg x (show (2147483647:Int)≠0 by decide)
 have:=Int.emod_lt_of_pos x (show (0:Int) < 2147483647 by decide)
 simp only [a2c,decide_eq_true_eq]; lia
theorem b1u {i:Int} (h:0≤i) (h':i < 2 ^ 60):a2c i=true:=by
 simp only [a2c,decide_eq_true_eq]; lia
theorem a0l {i:Int} (h:0≤i) (h':i < 2 ^ 60):a1r i=true:=by
 simp only [a1r,decide_eq_true_eq]; lia
theorem c9e (d:Nat) (a k:Int) (hk:a2c k=true) (Q:FV×FV→Prop):callW tb (d + 1) 11 [.int a,.int k] Q↔Q (.int (mixV a k),.non):=by
 have h2:a2c 48271=true:=by decide
 have h3:a2c 7919=true:=by decide
 rw [a8s (fd:=d6y) rfl rfl]
 simp [d6y,d8k,h2,h3,hk,b5i,mixV]
noncomputable def Lf (n:Int) (v:FV):Prop:=∃ a b c,v=.lst [.int a,.int b,.int c]∧0≤c∧c≤n
theorem Lf.mono {n m:Int} {v:FV} (h:Lf n v) (k:n≤m):Lf m v:=by
 obtain ⟨a,b,c,h,h1,h2⟩:=h
 exact ⟨a,b,c,h,h1,by lia⟩
theorem a0h (d:Nat) {many n:Int} {v:FV} {Q:FV×FV→Prop} (hs:Lf n v) (hn:n < 1000000) (h1:0 < many) (h2:many < 1073741824)
  (q:∀ u v',0≤u→u < many→Lf (n + 1) v'→Q (.int u,v')):callW tb (d + 2) 13 [v,.int many] Q:=by
 obtain ⟨a,b,c,rfl,h3,h4⟩:=hs
 refine a0j (fd:=d2e) rfl rfl ?_
 have s1:a2c (c + 1)=true:=b1u (by lia) (by lia)
 have s2:a2c (c + 1 + 64)=true:=b1u (by lia) (by lia)
 by_cases ha:0 < a
 ·simp [d2e,d2n,ixN,ha,h1,h2]
  exact q _ _ (Int.emod_nonneg _ (by lia)) (Int.emod_lt_of_pos _ h1) ⟨_,_,_,rfl,by lia,by lia⟩
 ·simp [d2e,d2n,ixN,ha,h1,h2,c9e,s1,s2]
  exact q _ _ (Int.emod_nonneg _ (by lia)) (Int.emod_lt_of_pos _ h1) ⟨_,_,_,rfl,by lia,by lia⟩
theorem c4z (d:Nat) (ns:List Int) (k:Nat) {Q:FV×FV→Prop} (q:∀ v y,Lf 0 v→Q (v,y)):callW tb (d + 1) 12 [.scr ns,.int k] Q:=by
 refine a0j (fd:=d6x) rfl rfl ?_
 have h1:a2c 1000003=true:=by decide
 have h2:a2c 0=true:=by decide
 have h4:a2c 10=true:=by decide
 have h5:∀ r:Bool,a2c (if r=true then 1 else 0)=true:=by intro r; cases r <;> decide
 simp [d6x,d8j]
 split
 ·rename_i hk
  rw [a4w rfl (show (ns.map FV.int)[k]?=some (.int ns[k]) by simp [hk])]
  simp [h1,h4,h5,big]
  exact ⟨.inr (by by_cases hh:1000000000000000000≤(if ns[k] < 0 then -ns[k] else ns[k]) <;> simp only [hh,if_true,if_false] <;> decide),q _ _ ⟨_,_,_,rfl,by lia,by lia⟩⟩
 ·simp [h1,h2,h4,big]
  exact q _ _ ⟨_,_,_,rfl,by lia,by lia⟩
mutual
noncomputable def dF:D→FV
 | .non=>.non
 | .bl b=>.bl b
 | .int i=>.int i
 | .str x=>.str x
 | .tup xs=>.tup (dFs xs)
 | .lst xs=>.lst (dFs xs)
noncomputable def dFs:List D→List FV
 | []=>[]
 | x :: r=>dF x :: dFs r
end
theorem a2o:∀ xs:List D,dFs xs=xs.map dF
 | []=>rfl
 | x :: r=>by rw [dFs,a2o r]; rfl
mutual
noncomputable def dep:D→Nat
 | .tup xs=>b3f xs + 1
 | .lst xs=>b3f xs + 1
 | .non=>0 | .bl _=>0 | .int _=>0 | .str _=>0
noncomputable def b3f:List D→Nat
 | []=>0
 | x :: r=>max (dep x) (b3f r)
end
mutual
theorem c0w:∀ (x:D) (n:Nat),dep x < n→fD n (dF x)=some x
 | .non,0,h=>by lia
 | .non,n + 1,h=>rfl
 | .bl _,0,h=>by lia
 | .bl _,n + 1,h=>rfl
 | .int _,0,h=>by lia
 | .int _,n + 1,h=>rfl
 | .str _,0,h=>by lia
 | .str _,n + 1,h=>rfl
 | .tup xs,0,h=>by lia
 | .tup xs,n + 1,h=>by simp only [dF,fD]; rw [b7h xs n (by simp only [dep] at h; lia)]; rfl
 | .lst xs,0,h=>by lia
 | .lst xs,n + 1,h=>by simp only [dF,fD]; rw [b7h xs n (by simp only [dep] at h; lia)]; rfl
theorem b7h:∀ (xs:List D) (n:Nat),b3f xs < n→b4q (fD n) (dFs xs)=some xs
 | [],n,h=>rfl
 | x :: r,n,h=>by
  simp only [b3f] at h
  simp only [dFs,b4q,c0w x n (by lia),b7h r n (by lia),Option.bind_some,Option.map_some]
end
noncomputable def Vl (k p:Nat) (x:FV):Prop:=∃ d,x=dF d∧dep d≤p∧d.fit=true∧d.wt≤k
theorem Vl.mono {k k' p p':Nat} {x:FV} (h:Vl k p x) (hk:k≤k') (hp:p≤p'):Vl k' p' x:=by
 obtain ⟨d,e,h1,h2,h3⟩:=h
 exact ⟨d,e,by lia,h2,by lia⟩
theorem Vl.all {k p:Nat}:∀ {xs:List FV},(∀ x∈xs,Vl k p x)→∃ ds:List D,xs=dFs ds∧b3f ds≤p∧D.fits ds=true∧D.wts ds≤ds.length * (k + 1)∧ds.length=xs.length
 | [],_=>⟨[],rfl,Nat.zero_le _,rfl,by simp [D.wts],rfl⟩
 | x :: r,h=>by
  obtain ⟨d,e,h1,h2,h3⟩:=h x (List.mem_cons_self ..)
  obtain ⟨ds,e',h1',h2',h3',h4'⟩:=Vl.all (xs:=r) fun y hy=>h y (List.mem_cons_of_mem _ hy)
  refine ⟨d :: ds,by rw [e,e']; rfl,by simp only [b3f]; lia,by simp only [D.fits,h2,h2',Bool.and_self],?_,by simp [h4']⟩
  simp only [D.wts,List.length_cons,Nat.add_mul,Nat.one_mul]; lia
theorem Vl.tup {k p m:Nat} {xs:List FV} (h:∀ x∈xs,Vl k p x) (hl:xs.length≤m):Vl (m * (k + 1)) (p + 1) (.tup xs):=by
 obtain ⟨ds,e,h1,h2,h3,h4⟩:=Vl.all h
 refine ⟨.tup ds,by rw [e]; rfl,by simp only [dep]; lia,by simp only [D.fit,h2],?_⟩
 simp only [D.wt]
 exact Nat.le_trans h3 (Nat.mul_le_mul_right _ (by lia))
theorem Vl.lst {k p m:Nat} {xs:List FV} (h:∀ x∈xs,Vl k p x) (hl:xs.length≤m):Vl (m * (k + 1)) (p + 1) (.lst xs):=by
 obtain ⟨ds,e,h1,h2,h3,h4⟩:=Vl.all h
 refine ⟨.lst ds,by rw [e]; rfl,by simp only [dep]; lia,by simp only [D.fit,h2],?_⟩
 simp only [D.wt]
 exact Nat.le_trans h3 (Nat.mul_le_mul_right _ (by lia))
theorem Vl.int {i:Int} (h:-(2 ^ 40) < i) (h':i < 2 ^ 40):Vl 41 0 (.int i):=⟨.int i,rfl,Nat.le_refl _,by simp only [D.fit,decide_eq_true_eq]; lia,by simp only [D.wt]; rw [if_pos ⟨h,h'⟩]; exact Nat.le_refl _⟩
theorem Vl.bl {b:Bool}:Vl 0 0 (.bl b):=⟨.bl b,rfl,Nat.le_refl _,rfl,Nat.le_refl _⟩
theorem Vl.non:Vl 0 0 .non:=⟨.non,rfl,Nat.le_refl _,rfl,Nat.le_refl _⟩
theorem Vl.of {k p:Nat} (ds:List D) (h:(ds.all fun d=>decide (dep d≤p∧d.fit=true∧d.wt≤k))=true):∀ x∈ds.map dF,Vl k p x:=by
 intro x hx
 obtain ⟨d,hd,rfl⟩:=List.mem_map.mp hx
 rw [List.all_eq_true] at h
 have:=h d hd
 simp only [decide_eq_true_eq] at this
 exact ⟨d,rfl,this⟩
theorem c7a {k p:Nat} {x:FV} (h:Vl k p x) (hk:k≤big) (hp:p < 40):∃ y,c3e x=some y∧∀ R:Bool→Prop,wp (eqF y y) R=R true:=by
 obtain ⟨d,rfl,h1,h2,h3⟩:=h
 have big':∀ e:D,dep e < 40→e.fit=true→e.wt≤big→(fD a1c (dF e)).bind (fun d=>if d.fit=true∧d.wt≤big then some (FV.shn d) else none)=some (.shn e):=fun e h1 h2 h3=>by
  rw [c0w e a1c h1]
  show (if e.fit=true∧e.wt≤big then some (FV.shn e) else none)=_
  rw [if_pos ⟨h2,h3⟩]
 cases d with
 | non=>exact ⟨_,rfl,fun R=>by simp⟩
 | bl b=>exact ⟨_,rfl,fun R=>by simp⟩
 | str x=>exact ⟨_,rfl,fun R=>by simp⟩
 | int i =>
  simp only [D.fit,decide_eq_true_eq] at h2
  exact ⟨_,(show (if -(2 ^ 150) < i∧i < 2 ^ 150 then some (FV.str (toString i)) else none)=some (.str (toString i)) by rw [if_pos h2]),fun R=>by simp⟩
 | tup xs=>exact ⟨_,big' (.tup xs) (by lia) h2 (by lia),fun R=>by simp⟩
 | lst xs=>exact ⟨_,big' (.lst xs) (by lia) h2 (by lia),fun R=>by simp⟩
theorem d0i {a b:D} (ha:dep a < 40) (hb:dep b < 40):eqF (dF a) (dF b)=some (D.eqv a b):=by
 have go:(fD a1c (dF a)).bind (fun x=>(fD a1c (dF b)).bind fun y=>some (D.eqv x y))=some (D.eqv a b):=by
  rw [c0w a a1c ha,c0w b a1c hb]; rfl
 unfold eqF
 split
 ·rename_i x y e1 e2; cases a <;> cases e1
 ·exact go
theorem b3h {α:Type} (xs:List α) (n:Nat):b4i xs (some (n:Int)) none=xs.drop n:=by
 have h:sIx xs.length 0 (some (n:Int))=min n xs.length:=by simp only [sIx]; rw [if_neg (by lia)]; simp
 unfold b4i
 rw [h]
 show (xs.drop (min n xs.length)).take (xs.length - min n xs.length)=_
 by_cases hn:n≤xs.length
 ·rw [Nat.min_eq_left hn,List.take_of_length_le (by simp)]
 ·rw [Nat.min_eq_right (by lia),List.drop_of_length_le (Nat.le_refl _),List.drop_of_length_le (by lia)]; simp
theorem a2w {α β:Type} (f:α→FV) (g:β→FV):∀ (xs:List α) (ys:List β),a3p (xs.map f) (ys.map g)=(xs.zip ys).map fun p=>.tup [f p.1,g p.2]
 | [],ys=>rfl
 | x :: xs,[]=>rfl
 | x :: xs,y :: ys=>by
  show FV.tup [f x,g y] :: a3p (xs.map f) (ys.map g)=_
  rw [a2w f g xs ys]; rfl
abbrev Chg:=Nat×Nat×Int
noncomputable def a2p (c:Chg):FV:=.tup [.int c.1,.int c.2.1,.int c.2.2]
structure Gst (ws:List Int) (cs:List Chg):Prop where
 w:∀ x∈ws,1≤x
 c:∀ x∈cs,x.1 < ws.length∧x.2.1 < ws.length∧x.1≠x.2.1∧1≤x.2.2
 s:∀ x∈cs.zip (cs.drop 1),lexLt [(x.1.1:Int),x.1.2.1] [(x.2.1:Int),x.2.2.1]=true
noncomputable def a3t (ws:List Int) (cs:List Chg):FV:=.tup [.tup (ws.map .int),.tup (cs.map a2p)]
noncomputable def keyH (c:Chg):List Int:=[c.1,c.2.1]
noncomputable def a2i:Option Nat→FV | none=>.non | some a=>.int a
theorem b2h (d:Nat) {n g:Int} {v:FV} {Q:FV×FV→Prop} (hs:Lf n v) (h0:0≤n) (hn:n < 100000) (q:∀ s v',1≤s→s < 1000000000→Lf (n + 2) v'→Q (.int s,v')):callW tb (d + 3) 14 [v,.int g] Q:=by
 refine a0j (fd:=d6w) rfl rfl ?_
 simp [d6w,d8i,big]
 refine a0h d hs (by lia) (by decide) (by decide) fun u v1 u0 u1 l1=>?_
 simp
 have fin:wp (atF [FV.int 9,FV.int 9,FV.int 40,FV.int 3] u) fun z=>callW tb (d + 2) 13 [v1,z] fun z=>wp (a4c (FV.int 1) z.fst) fun z_1=>Q (z_1,z.snd):=by
  refine a4x u0 u1 ?_
  intro f hf
  obtain ⟨k,rfl,k0,k1⟩:∃ k:Int,f=.int k∧0 < k∧k≤40:=by
   simp at hf
   rcases hf with rfl | rfl | rfl | rfl <;> exact ⟨_,rfl,by decide,by decide⟩
  refine a0h d l1 (by lia) k0 (by lia) fun w v2 w0 w1 l2=>?_
  simp
  exact q _ _ (by lia) (by lia) (l2.mono (by lia))
 refine ite2 (fun h=>?_) (fun h=>fin)
 refine ite2 (fun h=>?_) (fun h=>fin)
 refine ⟨by decide,a0h d l1 (by lia) (by decide) (by decide) fun w v2 w0 w1 l2=>?_⟩
 simp
 exact q _ _ (by lia) (by lia) (l2.mono (by lia))
theorem c0j (d:Nat) {n:Int} {v:FV} {Q:FV×FV→Prop} (hs:Lf n v) (h0:0≤n) (hn:n < 100000) (q:∀ (m:Nat) v',m≤12→Lf (n + 2) v'→Q (.int m,v')):callW tb (d + 3) 15 [v,.int 12] Q:=by
 refine a0j (fd:=d6v) rfl rfl ?_
 simp [d6v,d8h,big]
 refine a0h d hs (by lia) (by decide) (by decide) fun u v1 u0 u1 l1=>?_
 simp
 refine ite2 (fun h=>?_) (fun h=>?_)
 ·refine a0h d l1 (by lia) (by decide) (by decide) fun w v2 w0 w1 l2=>?_
  simp
  have:=q (7 + w).toNat v2 (by lia) (l2.mono (by lia))
  rwa [Int.toNat_of_nonneg (by lia)] at this
 ·refine a0h d l1 (by lia) (by decide) (by decide) fun w v2 w0 w1 l2=>?_
  simp
  refine a4x w0 w1 ?_
  intro f hf
  obtain ⟨k,rfl,hk⟩:∃ k:Nat,f=.int k∧k≤6:=by
   simp at hf
   rcases hf with rfl | rfl | rfl | rfl | rfl | rfl | rfl | rfl | rfl | rfl
   ·exact ⟨0,rfl,by decide⟩
   ·exact ⟨1,rfl,by decide⟩
   ·exact ⟨2,rfl,by decide⟩
   ·exact ⟨3,rfl,by decide⟩
   ·exact ⟨4,rfl,by decide⟩
   ·exact ⟨5,rfl,by decide⟩
   ·exact ⟨6,rfl,by decide⟩
   ·exact ⟨4,rfl,by decide⟩
   ·exact ⟨5,rfl,by decide⟩
   ·exact ⟨3,rfl,by decide⟩
  exact q k v2 (by lia) (l2.mono (by lia))
structure GsB (B:Int) (ws:List Int) (cs:List Chg):Prop where
 n:ws.length≤12
 w:∀ x∈ws,1≤x∧x < B
 c:∀ x∈cs,x.1 < ws.length∧x.2.1 < ws.length∧x.1≠x.2.1∧1≤x.2.2∧x.2.2 < B
 l:cs.length≤144
 d:(cs.map fun c=>(c.1,c.2.1)).Nodup
abbrev Gs:=GsB 2000000000
theorem GsB.mono {B C:Int} {ws:List Int} {cs:List Chg} (h:GsB B ws cs) (hb:B≤C):GsB C ws cs :=
 ⟨h.n,fun x hx=>⟨(h.w x hx).1,by have:=(h.w x hx).2; lia⟩,fun x hx=>let ⟨a,b,c,d,e⟩:=h.c x hx; ⟨a,b,c,d,by lia⟩,h.l,h.d⟩
noncomputable def prs (n:Nat):Nat→List (Nat×Nat)
 | 0=>[]
 | a + 1=>prs n a++(List.range n).map fun b=>(a,b)
theorem b5v {n:Nat}:∀ {a:Nat} {p:Nat×Nat},p∈prs n a→p.1 < a
 | 0,p,h=>by simp [prs] at h
 | a + 1,p,h=>by
  rcases List.mem_append.mp h with h | h
  ·have:=b5v h; lia
  ·obtain ⟨b,hb,rfl⟩:=List.mem_map.mp h; exact Nat.lt_succ_self _
theorem b0v (n:Nat):∀ a:Nat,(prs n a).length=a * n
 | 0=>by simp [prs]
 | a + 1=>by simp [prs,b0v n a,Nat.add_mul]
theorem a9f (n:Nat):∀ a:Nat,(prs n a).Nodup
 | 0=>by simp [prs]
 | a + 1=>by
  rw [prs,List.nodup_append]
  refine ⟨a9f n a,?_,?_⟩
  ·rw [List.nodup_iff_pairwise_ne,List.pairwise_map]
   exact List.nodup_range.imp fun h z=>h (by simpa using z)
  ·intro p hp q hq e
   obtain ⟨b,hb,rfl⟩:=List.mem_map.mp hq
   have:=b5v hp
   rw [e] at this
   exact Nat.lt_irrefl _ this
noncomputable def Ris (cs:List Chg):Prop:=cs.Pairwise fun x y=>x.1 < y.1 ∨ x.1=y.1∧x.2.1 < y.2.1
theorem c1y (n:Nat):∀ a:Nat,(prs n a).Pairwise fun x y=>x.1 < y.1 ∨ x.1=y.1∧x.2 < y.2
 | 0=>.nil
 | a + 1=>by
  rw [prs,List.pairwise_append]
  refine ⟨c1y n a,?_,?_⟩
  ·rw [List.pairwise_map]
   exact List.pairwise_lt_range.imp fun h=>.inr ⟨rfl,h⟩
  ·intro p hp q hq
   obtain ⟨b,hb,rfl⟩:=List.mem_map.mp hq
   exact .inl (b5v hp)
theorem c4a {n a:Nat} {cs:List Chg} (h:(cs.map fun c=>(c.1,c.2.1)).Sublist (prs n a)):Ris cs:=by
 have:=(c1y n a).sublist h
 rwa [List.pairwise_map] at this
theorem a9l (d:Nat) {n:Int} {v:FV} {m:Nat} {Q:FV×FV→Prop} (hs:Lf n v) (h0:0≤n) (hn:n < 10000) (hm:m≤12) (q:∀ (ws:List Int) (cs:List Chg) v',GsB 1000000100 ws cs→Ris cs→ws.length=m→Lf (n + 700) v'→Q (a3t ws cs,v')):callW tb (d + 4) 16 [v,.int m] Q:=by
 refine a0j (fd:=d6u) rfl rfl ?_
 simp [d6u,d8g,big]
 refine a0h (d + 1) hs (by lia) (by decide) (by decide) fun g v1 g0 g1 l1=>?_
 simp
 refine a0h (d + 1) l1 (by lia) (by decide) (by decide) fun o v2 o0 o1 l2=>?_
 simp
 refine ⟨a0l (by lia) (by lia),?_⟩
 rw [a2j]
 refine ⟨by simp; lia,?_⟩
 refine a3j (f:=fun i:Nat=>FV.int i) (I:=fun ds acc L=>∃ v',∃ xs:List Int,L=[some v',some (.int m),some (.int g),some (.int (1 + o)),none,none,none,none]∧acc=xs.map .int∧xs.length=ds.length∧(∀ x∈xs,1≤x∧x < 1000000100)∧Lf (n + 2 + 3 * ds.length) v') (List.range m) (List.range m) [] [] _ rfl ⟨v2,[],rfl,rfl,rfl,by simp,l2.mono (by simp; lia)⟩ ?_ ?_
 ·rintro ds x r acc L K e ⟨v',xs,rfl,rfl,hl,hx,lf⟩ k
  have hd:ds.length < 12:=by have:=congrArg List.length e; simp at this; lia
  simp
  refine b2h d lf (by lia) (by lia) fun s v4 s0 s1 l4=>?_
  simp [big]
  refine a0h (d + 1) l4 (by lia) (by decide) (by decide) fun b v5 b0 b1 l5=>?_
  simp
  refine a4x b0 b1 ?_
  intro f hf
  obtain ⟨k',rfl,k0,k1⟩:∃ k:Int,f=.int k∧0≤k∧k≤12:=by
   simp at hf
   rcases hf with rfl | rfl <;> exact ⟨_,rfl,by decide,by decide⟩
  simp
  refine k _ _ ⟨v5,xs++[s + k'],rfl,by simp,by simp [hl],?_,l5.mono (by simp; lia)⟩
  intro y hy
  rcases List.mem_append.mp hy with hy | hy
  ·exact hx y hy
  ·simp at hy; subst hy; lia
 ·rintro ys L ⟨v',ws,rfl,rfl,hl,hx,lf⟩
  simp only [List.length_range] at hl lf
  simp
  refine ⟨a0l (by lia) (by lia),?_⟩
  refine a1e (I:=fun a L=>∃ v' x y,∃ cs:List Chg,L=[some v',some (.int m),some (.int g),some (.int (1 + o)),some (.tup (ws.map .int)),some (.lst (cs.map a2p)),x,y]∧(∀ c∈cs,c.1 < m∧c.2.1 < m∧c.1≠c.2.1∧1≤c.2.2∧c.2.2 < 1000000100)∧(cs.map fun c=>(c.1,c.2.1)).Sublist (prs m a)∧Lf (n + 38 + 40 * a) v') m 0 _ ⟨v',_,_,[],rfl,by simp,by simp [prs],lf.mono (by lia)⟩ ?_ ?_
  ·rintro a L K - ha ⟨v',x,y,cs,rfl,hc,hsb,lf⟩ k
   simp
   refine ⟨a0l (by lia) (by lia),?_⟩
   refine a1e (I:=fun b L=>∃ v' y,∃ cs:List Chg,L=[some v',some (.int m),some (.int g),some (.int (1 + o)),some (.tup (ws.map .int)),some (.lst (cs.map a2p)),some (.int a),y]∧(∀ c∈cs,c.1 < m∧c.2.1 < m∧c.1≠c.2.1∧1≤c.2.2∧c.2.2 < 1000000100)∧(cs.map fun c=>(c.1,c.2.1)).Sublist (prs m a++(List.range b).map fun b=>(a,b))∧Lf (n + 38 + 40 * a + 3 * b) v') m 0 _ ⟨v',_,cs,rfl,hc,by simpa using hsb,lf.mono (by lia)⟩ ?_ ?_
   ·rintro b L K2 - hb ⟨v',y,cs,rfl,hc,hsb,lf⟩ k2
    have hcl:cs.length≤1000:=by
     have:=hsb.length_le
     simp [b0v] at this
     have:a * m≤12 * 12:=Nat.mul_le_mul (by lia) hm
     lia
    have hsb':(cs.map fun c=>(c.1,c.2.1)).Sublist (prs m a++(List.range (b + 1)).map fun b=>(a,b)):=by
     rw [List.range_succ,List.map_append,← List.append_assoc]
     exact hsb.trans (List.sublist_append_left _ _)
    have no:∀ v',Lf (n + 38 + 40 * a + 3 * b + 3) v'→K2 [some v',some (.int m),some (.int g),some (.int (1 + o)),some (.tup (ws.map .int)),some (.lst (cs.map a2p)),some (.int a),some (.int b)]:=fun v' l=>k2 _ ⟨v',_,cs,rfl,hc,hsb',l.mono (by lia)⟩
    simp
    refine ite2 (fun h=>?_) (fun h=>?_)
    ·exact no v' (lf.mono (by lia))
    ·refine a0h (d + 1) lf (by lia) (by lia) (by lia) fun u v4 u0 u1 l4=>?_
     simp
     refine ite2 (fun h2=>?_) (fun h2=>no v4 (l4.mono (by lia)))
     refine b2h d l4 (by lia) (by lia) fun s v5 s0 s1 l5=>?_
     simp [big]
     refine ⟨by lia,k2 _ ⟨v5,some (.int b),cs++[(a,b,s)],by simp [a2p],?_,?_,l5.mono (by lia)⟩⟩
     ·intro c hc'
      rcases List.mem_append.mp hc' with hc' | hc'
      ·exact hc c hc'
      ·simp at hc'; subst hc'
       exact ⟨by show a < m; lia,by show b < m; lia,by show a≠b; lia,s0,by show s < _; lia⟩
     ·rw [List.range_succ,List.map_append,List.map_append,← List.append_assoc]
      exact hsb.append (List.Sublist.refl _)
   ·rintro L ⟨v',y,cs,rfl,hc,hsb,lf⟩
    rw [Nat.zero_add] at hsb lf
    exact k _ ⟨v',_,_,cs,rfl,hc,hsb,lf.mono (by lia)⟩
  ·rintro L ⟨v',x,y,cs,rfl,hc,hsb,lf⟩
   rw [Nat.zero_add] at hsb lf
   have hcl:=hsb.length_le
   simp [b0v] at hcl
   have:m * m≤12 * 12:=Nat.mul_le_mul hm hm
   have:=q ws cs v' ⟨by lia,hx,by rw [hl]; exact hc,by lia,(a9f m m).sublist hsb⟩ (c4a hsb) hl (lf.mono (by lia))
   simpa [a3t] using this
theorem b2a:∀ (n:Nat) (l:List Nat),l.Nodup→(∀ i∈l,i < n)→l.length≤n
 | 0,l,_,h=>by
  cases l with
  | nil=>simp
  | cons a r=>have:=h a (by simp); lia
 | n + 1,l,hn,h=>by
  have h1:=b2a n (l.erase n) (hn.erase n) (fun i hi=>by
   have h2:=(List.Nodup.mem_erase_iff hn).mp hi
   have:=h i h2.2
   lia)
  by_cases hm:n∈l
  ·rw [List.length_erase_of_mem hm] at h1; lia
  ·rw [List.erase_of_not_mem hm] at h1; lia
noncomputable def kvK (ps:List Chg):List (List Int):=ps.map keyH
noncomputable def kvV (ps:List Chg):List FV:=ps.map fun c=>.int c.2.2
theorem a8n {c d:Chg} (h:keyH c=keyH d):c.1=d.1∧c.2.1=d.2.1:=by
 simp [keyH] at h; lia
theorem c1g {α β γ δ:Type} (f:β→γ→δ) (g:α→β) (h:α→γ):∀ l:List α,List.zipWith f (l.map g) (l.map h)=l.map fun x=>f (g x) (h x)
 | []=>rfl
 | x :: r=>by simp [c1g f g h r]
noncomputable def b9q (ps:List Chg) (a b:Nat) (s:Int):List Chg:=if [(a:Int),(b:Int)]∈kvK ps then ps.map fun c=>if keyH c=[(a:Int),(b:Int)] then (c.1,c.2.1,s) else c else ps++[(a,b,s)]
theorem c7x (ps:List Chg) (a b:Nat) (s:Int):a2h (kvK ps) (kvV ps) [(a:Int),(b:Int)] (.int s)=(kvK (b9q ps a b s),kvV (b9q ps a b s)):=by
 unfold a2h b9q
 by_cases h:[(a:Int),(b:Int)]∈kvK ps
 ·rw [if_pos h,if_pos h]
  refine Prod.ext ?_ ?_
  ·show kvK ps=kvK _
   unfold kvK
   rw [List.map_map]
   apply List.map_congr_left
   intro c _
   simp only [Function.comp]
   split <;> rfl
  ·show List.zipWith _ (kvK ps) (kvV ps)=kvV _
   unfold kvK kvV
   rw [c1g,List.map_map]
   apply List.map_congr_left
   intro c _
   simp only [Function.comp]
   split <;> rfl
 ·rw [if_neg h,if_neg h]
  simp [kvK,kvV,keyH]
theorem b1x {ps:List Chg} {a b:Nat} {s:Int} {c:Chg} (h:c∈b9q ps a b s):c=(a,b,s) ∨ c∈ps:=by
 unfold b9q at h
 split at h
 ·obtain ⟨x,hx,e⟩:=List.mem_map.mp h
  split at e
  ·rename_i hk
   have:=a8n (c:=x) (d:=(a,b,s)) hk
   refine .inl ?_
   rw [← e,this.1,this.2]
  ·subst e; exact .inr hx
 ·rcases List.mem_append.mp h with h | h
  ·exact .inr h
  ·exact .inl (by simpa using h)
theorem a7e {ps:List Chg} (a b:Nat) (s:Int) (h:(kvK ps).Nodup):(kvK (b9q ps a b s)).Nodup:=by
 unfold b9q
 split
 ·have:kvK (ps.map fun c=>if keyH c=[(a:Int),(b:Int)] then (c.1,c.2.1,s) else c)=kvK ps:=by
   unfold kvK
   rw [List.map_map]
   apply List.map_congr_left
   intro c _
   simp only [Function.comp]
   split <;> rfl
  rw [this]; exact h
 ·rename_i hn
  unfold kvK at *
  rw [List.map_append,List.nodup_append]
  refine ⟨h,by simp,?_⟩
  intro x hx y hy e
  simp [keyH] at hy
  subst hy; subst e
  exact hn hx
theorem c5j {ps:List Chg} (h:(kvK ps).Nodup) {c:Chg} (hc:c∈ps):a2t (kvK ps) (kvV ps) (keyH c)=some (.int c.2.2):=by
 induction ps with
 | nil=>simp at hc
 | cons x r ih =>
  simp only [kvK,kvV,List.map_cons,List.nodup_cons] at h ⊢
  rw [a2t]
  by_cases e:keyH x=keyH c
  ·rw [if_pos e]
   rcases List.mem_cons.mp hc with rfl | hc
   ·rfl
   ·exact absurd (by rw [e]; exact List.mem_map_of_mem hc) h.1
  ·rw [if_neg e]
   rcases List.mem_cons.mp hc with rfl | hc
   ·exact absurd rfl e
   ·exact ih h.2 hc
theorem a4l {ps:List Chg} (h:(kvK ps).Nodup) (hb:∀ c∈ps,c.1 < 12∧c.2.1 < 12):ps.length≤144:=by
 have h1:(ps.map fun c=>c.1 * 12 + c.2.1).Nodup:=by
  unfold kvK at h
  rw [List.nodup_iff_pairwise_ne,List.pairwise_map] at h ⊢
  refine List.Pairwise.imp_of_mem (fun {x y} hx hy hxy e=>hxy ?_) h
  have:=hb x hx
  have:=hb y hy
  have:x.1=y.1∧x.2.1=y.2.1:=by lia
  simp [keyH,this.1,this.2]
 have:=b2a 144 _ h1 (fun i hi=>by
  obtain ⟨c,hc,rfl⟩:=List.mem_map.mp hi
  have:=hb c hc
  lia)
 simpa using this
noncomputable def Evn (cs:List Chg):Prop:=∀ c∈cs,((c.2.1,c.1,c.2.2):Chg)∈cs
theorem c1m:∀ cs:List Chg,a2k (cs.map a2p)=true
 | []=>rfl
 | c :: r=>by
  rw [List.map_cons]
  show ((match a0r [FV.int c.1,FV.int c.2.1,FV.int c.2.2] with | some (_ :: _)=>true | _=>false) && a2k (r.map a2p))=true
  rw [c1m r]; rfl
theorem b2o {cs:List Chg} (h:(kvK cs).Nodup):(cs.map fun c=>(c.1,c.2.1)).Nodup:=by
 unfold kvK at h
 rw [List.nodup_iff_pairwise_ne,List.pairwise_map] at h ⊢
 refine h.imp fun {x y} hxy e=>hxy ?_
 simp at e
 simp [keyH,e.1,e.2]
theorem c7k {cs:List Chg} (hn:(kvK cs).Nodup) (h:cs.Pairwise fun x y=>lexLt [(y.1:Int),(y.2.1:Int),y.2.2] [(x.1:Int),(x.2.1:Int),x.2.2]=false):Ris cs:=by
 unfold kvK at hn
 rw [List.nodup_iff_pairwise_ne,List.pairwise_map] at hn
 refine (hn.and h).imp fun {x y} hh=>?_
 obtain ⟨h1,h2⟩:=hh
 have ne:¬ (x.1=y.1∧x.2.1=y.2.1):=fun z=>h1 (by simp [keyH,z.1,z.2])
 simp only [lexLt] at h2
 by_cases e1:(y.1:Int)=x.1
 ·rw [if_pos e1] at h2
  by_cases e2:(y.2.1:Int)=x.2.1
  ·lia
  ·rw [if_neg e2] at h2
   simp only [decide_eq_false_iff_not] at h2
   lia
 ·rw [if_neg e1] at h2
  simp only [decide_eq_false_iff_not] at h2
  lia
noncomputable def evL (ps:List Chg):List Chg:=ps++ps.map fun c=>(c.2.1,c.1,c.2.2)
theorem b7i {ps:List Chg} (h:(kvK ps).Nodup) (hp:∀ c∈ps,c.1 < c.2.1):(kvK (evL ps)).Nodup:=by
 unfold kvK evL at *
 rw [List.map_append,List.nodup_append]
 refine ⟨h,?_,?_⟩
 ·rw [List.map_map]
  rw [List.nodup_iff_pairwise_ne,List.pairwise_map] at h ⊢
  refine h.imp fun {x y} hxy e=>hxy ?_
  simp [keyH] at e
  simp [keyH,e.1,e.2]
 ·intro x hx y hy e
  obtain ⟨a,ha,rfl⟩:=List.mem_map.mp hx
  obtain ⟨b,hb,rfl⟩:=List.mem_map.mp hy
  obtain ⟨c,hc,rfl⟩:=List.mem_map.mp hb
  have:=a8n e
  have:=hp a ha
  have:=hp c hc
  dsimp only at *
  lia
theorem c5q (d:Nat) {n:Int} {v:FV} {m:Nat} {Q:FV×FV→Prop} (hs:Lf n v) (h0:0≤n) (hn:n < 10000) (hm:m≤12) (q:∀ (ws:List Int) (cs:List Chg) v',GsB 1000000100 ws cs→Ris cs→Evn cs→ws.length=m→Lf (n + 700) v'→Q (a3t ws cs,v')):callW tb (d + 5) 17 [v,.int m] Q:=by
 refine a0j (fd:=d6t) rfl rfl ?_
 simp [d6t,d8f,big]
 refine a9l d hs h0 hn hm fun ws cs v1 hG _ hl l1=>?_
 simp [a3t]
 have P0:∀ c∈cs,c.1 < m∧c.2.1 < m∧c.1≠c.2.1∧1≤c.2.2∧c.2.2 < 1000000100:=by rw [← hl]; exact hG.c
 refine a4s (f:=a2p) (I:=fun ds L=>∃ y1 y2 y3,∃ ps:List Chg,L=[some v1,some (.int m),some (.tup [.tup (ws.map .int),.tup (cs.map a2p)]),some (.dct (kvK ps) (kvV ps)),y1,y2,y3,none]∧(kvK ps).Nodup∧∀ c∈ps,c.1 < c.2.1∧c.2.1 < m∧1≤c.2.2∧c.2.2 < 1000000100) cs cs [] _ rfl ⟨_,_,_,[],rfl,by simp [kvK],by simp⟩ ?_ ?_
 ·rintro ds c r L K e ⟨y1,y2,y3,ps,rfl,hd,hp⟩ kk
  have hc:=P0 c (by rw [e]; simp)
  have hpl:=a4l hd fun c hc=>by have:=hp c hc; lia
  obtain ⟨a,b,sz⟩:=c
  dsimp only at hc
  simp [a2p,big]
  refine ⟨by simp [kvK]; lia,?_⟩
  have e1:(if b < a then (b:Int) else a)=((min a b:Nat):Int):=by split <;> lia
  have e2:(if a < b then (b:Int) else a)=((max a b:Nat):Int):=by split <;> lia
  rw [e1,e2,c7x]
  refine kk _ ⟨_,_,_,b9q ps (min a b) (max a b) sz,rfl,a7e _ _ _ hd,fun c hc'=>?_⟩
  rcases b1x hc' with rfl | hc'
  ·dsimp only; lia
  ·exact hp c hc'
 ·rintro L ⟨y1,y2,y3,ps,rfl,hd,hp⟩
  have hpl:=a4l hd fun c hc=>by have:=hp c hc; lia
  have hkl:(kvK ps).length=ps.length:=by simp [kvK]
  have km:List.map b8t (kvK ps)=ps.map fun c=>FV.tup [.int c.1,.int c.2.1]:=by rw [kvK,List.map_map]; rfl
  simp
  intro o
  refine ⟨by lia,?_⟩
  rw [km]
  refine a0t (f:=fun c:Chg=>FV.tup [.int c.1,.int c.2.1]) (g:=a2p) ps [] (fun c hc K k=>?_) ?_
  ·have:=hp c hc
   simp [a2p,big]
   have g:=c5j hd hc
   simp only [keyH] at g
   rw [g]
   simpa [a2p,big] using k
  rw [List.nil_append]
  simp
  refine ⟨by lia,?_⟩
  rw [km]
  refine a0t (f:=fun c:Chg=>FV.tup [.int c.1,.int c.2.1]) (g:=fun c=>a2p (c.2.1,c.1,c.2.2)) ps [] (fun c hc K k=>?_) ?_
  ·have:=hp c hc
   simp [a2p,big]
   have g:=c5j hd hc
   simp only [keyH] at g
   rw [g]
   simpa [a2p,big] using k
  rw [List.nil_append]
  simp
  have em:List.map a2p ps++List.map (fun c:Chg=>a2p (c.2.1,c.1,c.2.2)) ps=(evL ps).map a2p:=by simp [evL,List.map_map,Function.comp_def]
  rw [em]
  refine ⟨by lia,c1m _,by lia,fun ys hy ho=>?_⟩
  obtain ⟨cs2,h2,rfl⟩:=a3f hy _ rfl
  rw [List.pairwise_map] at ho
  have hm:∀ c,c∈cs2↔c∈evL ps:=fun c=>h2.mem_iff
  have hk:(kvK cs2).Nodup:=(h2.map keyH).nodup_iff.mpr (b7i hd fun c hc=>(hp c hc).1)
  have hb:∀ c∈cs2,c.1 < m∧c.2.1 < m∧c.1≠c.2.1∧1≤c.2.2∧c.2.2 < 1000000100:=fun c hc=>by
   rcases List.mem_append.mp ((hm c).mp hc) with hc | hc
   ·have:=hp c hc; lia
   ·obtain ⟨x,hx,rfl⟩:=List.mem_map.mp hc
    have:=hp x hx
    dsimp only; lia
  refine q ws cs2 v1 ⟨hG.n,hG.w,by rw [hl]; exact hb,a4l hk fun c hc=>by have:=hb c hc; lia,b2o hk⟩ (c7k hk ho) ?_ hl l1
  intro c hc
  rw [hm] at hc ⊢
  rcases List.mem_append.mp hc with hc | hc
  ·exact List.mem_append_right _ (List.mem_map.mpr ⟨c,hc,rfl⟩)
  ·obtain ⟨x,hx,rfl⟩:=List.mem_map.mp hc
   exact List.mem_append_left _ hx
noncomputable def okc (cs:List Chg) (m:Nat):FV→Bool
 | .non=>true
 | .int i=>decide ([i,(m:Int)]∈cs.map keyH)
 | _=>false
noncomputable def stp (ls:List (Option Nat)):Option Nat→Option Nat
 | none=>none
 | some a=>ls.getD a none
noncomputable def itr (ls:List (Option Nat)) (o:Option Nat):Nat→Option Nat
 | 0=>o
 | k + 1=>stp ls (itr ls o k)
theorem b2q {ls : List (Option Nat)} {o : Option Nat} {k : Nat} (h : itr ls o k = none) : ∀ j, k ≤ j → itr ls o j = none
  | 0, hj => by have : k = 0 := by lia
                subst this; exact h
  | j + 1, hj => by
    by_cases e : k = j + 1
    · subst e; exact h
    · rw [itr, b2q h j (by lia)]; rfl
noncomputable def b4r (ls:List (Option Nat)):Bool:=(List.range ls.length).all fun m=>(itr ls (some m) ls.length).isNone
noncomputable def toO:FV→Option Nat
 | .int i=>some i.toNat
 | _=>none
noncomputable def a6h (cs:List Chg) (xs:List FV):Bool:=((List.range xs.length).zip xs).all fun p=>okc cs p.1 p.2
noncomputable def a8v (n:Nat) (cs:List Chg):FV→Bool
 | .tup xs=>decide (xs.length=n) && (a6h cs xs && b4r (xs.map toO))
 | _=>false
noncomputable def Rst (cs:List Chg) (ls:List (Option Nat)):Prop:=∀ m a:Nat,ls[m]?=some (some a)→[(a:Int),(m:Int)]∈cs.map keyH
theorem b6d {cs:List Chg} {m:Nat} {x:FV} (h:okc cs m x=true):x=a2i (toO x)∧∀ a,toO x=some a→[(a:Int),(m:Int)]∈cs.map keyH:=by
 cases x with
 | non=>exact ⟨rfl,fun a e=>nomatch e⟩
 | int i =>
  have h:[i,(m:Int)]∈cs.map keyH:=of_decide_eq_true h
  obtain ⟨c,hc,e⟩:=List.mem_map.mp h
  have e1:(c.1:Int)=i:=by simpa [keyH] using congrArg (fun l=>l.head?) e
  have e2:((i.toNat:Nat):Int)=i:=by lia
  refine ⟨by show FV.int i=.int ((i.toNat:Nat):Int); rw [e2],fun a ea=>?_⟩
  cases ea
  rw [e2]; exact h
 | _=>cases h
theorem a8h {cs:List Chg} {xs:List FV} (h:a6h cs xs=true) {m:Nat} (hm:m < xs.length):okc cs m xs[m]=true:=by
 have:=List.all_eq_true.mp h (m,xs[m]) (by
  rw [List.mem_iff_getElem?]
  exact ⟨m,by simp [List.getElem?_zip_eq_some,hm]⟩)
 exact this
theorem a8g {cs:List Chg} {xs:List FV} (h:a6h cs xs=true):xs=(xs.map toO).map a2i∧Rst cs (xs.map toO):=by
 refine ⟨?_,fun m a e=>?_⟩
 ·apply List.ext_getElem
  ·simp
  ·intro i h1 h2
   simp only [List.getElem_map]
   exact (b6d (a8h h h1)).1
 ·rw [List.getElem?_map] at e
  obtain ⟨x,e1,e2⟩:=Option.map_eq_some_iff.mp e
  obtain ⟨hm,rfl⟩:=List.getElem?_eq_some_iff.mp e1
  exact (b6d (a8h h hm)).2 a e2
theorem Gs.keys {ws:List Int} {cs:List Chg} (h:Gs ws cs):(cs.map keyH).Nodup:=by
 have:cs.map keyH=(cs.map fun c=>(c.1,c.2.1)).map fun p:Nat×Nat=>[(p.1:Int),(p.2:Int)]:=by
  rw [List.map_map]; rfl
 rw [this,List.nodup_iff_pairwise_ne,List.pairwise_map]
 exact h.d.imp fun hh z=>hh (by
  simp only [List.cons.injEq] at z
  exact Prod.ext (by lia) (by lia))
theorem Gs.rst {ws:List Int} {cs:List Chg} (h:Gs ws cs) {ls:List (Option Nat)} (hr:Rst cs ls) {m a:Nat} (e:ls[m]?=some (some a)):a < ws.length:=by
 obtain ⟨c,hc,e⟩:=List.mem_map.mp (hr m a e)
 have:=(h.c c hc).1
 simp [keyH] at e
 lia
theorem a9b (d:Nat) {ws:List Int} {cs:List Chg} (h:Gs ws cs) {Q:FV×FV→Prop} (q:Q (.dct (cs.map keyH) (cs.map fun c=>.int c.2.2),.non)):callW tb (d + 1) 4 [a3t ws cs] Q:=by
 have hc:=h.l
 refine a0j (fd:=fd4) rfl rfl ?_
 simp [fd4,bd4,a3t,big]
 refine ⟨by lia,?_⟩
 refine a9x (f:=a2p) (g:=keyH) (h:=fun c=>.int c.2.2) cs [] [] (by simp) (by simpa using h.keys) (fun x hx K k=>?_) (by simpa using q)
 simp [a2p,big]
 exact k
theorem a1z (ws:List Int) (cs:List Chg) (Q:List FV→Prop):wp (a4z (a3t ws cs)) Q↔Q [.tup (ws.map .int),.tup (cs.map a2p)]:=Iff.rfl
theorem a6s {ls:List (Option Nat)} {i:Nat} (hi:i < ls.length) (Q:FV→Prop):wp (atF (ls.map a2i) (i:Int)) Q↔Q (a2i (ls.getD i none)) :=
 a4w rfl (by rw [List.getElem?_map,List.getElem?_eq_getElem hi]; simp [List.getD,hi])
theorem b6s {ws:List Int} {cs:List Chg} (h:Gs ws cs) {ls:List (Option Nat)} (hr:Rst cs ls) (hl:ls.length=ws.length) {m:Nat} (hm:m < ls.length):∀ k a,itr ls (some m) k=some a→a < ls.length
 | 0,a,e=>by cases e; exact hm
 | k + 1,a,e=>by
  rw [itr] at e
  cases e1:itr ls (some m) k with
  | none=>rw [e1] at e; cases e
  | some b =>
   rw [e1] at e
   have hb:=b6s h hr hl hm k b e1
   have e:ls.getD b none=some a:=e
   rw [List.getD,List.getElem?_eq_getElem hb] at e
   have:=h.rst hr (m:=b) (a:=a) (by rw [List.getElem?_eq_getElem hb]; exact congrArg some e)
   lia
theorem c1c (d:Nat) {ws:List Int} {cs:List Chg} (h:Gs ws cs) {ls:List (Option Nat)} (hr:Rst cs ls) (hl:ls.length=ws.length) {m:Nat} (hm:m < ls.length) {Q:FV×FV→Prop} (q:Q (.bl (itr ls (some m) ls.length).isNone,.non)):callW tb (d + 1) 3 [.tup (ls.map a2i),.int m] Q:=by
 have hn:=h.n
 refine a0j (fd:=fd3) rfl rfl ?_
 simp [fd3,bd3]
 rw [a6s hm]
 refine ⟨a0l (by lia) (by lia),?_⟩
 refine a1e (I:=fun j L=>∃ a,L=[some (.tup (ls.map a2i)),some (.int m),some (a2i (itr ls (some m) (j + 1))),a]∧(itr ls (some m) j).isSome=true) ls.length 0 _ ⟨_,rfl,rfl⟩ ?_ ?_
 ·rintro j L K - hj ⟨a,rfl,hs⟩ k
  cases e:itr ls (some m) (j + 1) with
  | none =>
   have:=b2q e ls.length (by lia)
   rw [this] at q
   simpa [a2i] using q
  | some p =>
   have hp:=b6s h hr hl hm _ p e
   simp [a2i]
   rw [a6s hp]
   refine k _ ⟨some (.int j),?_,by rw [e]; rfl⟩
   rw [itr,e]; rfl
 ·rintro L ⟨a,rfl,hs⟩
  rw [Nat.zero_add] at hs
  rw [Option.isNone_eq_false_iff.mpr hs] at q
  simpa using q
theorem a3v (d:Nat) (x:D) (Q:FV×FV→Prop):callW tb (d + 1) 0 [dF x] Q↔Q (.bl (match x with | .int _=>true | _=>false),.non):=by
 rw [a8s (fd:=fd0) rfl rfl]
 cases x <;> simp [fd0,bd0,dF]
theorem b0l (d:Nat) (x:D) (n:Nat) (Q:FV×FV→Prop):callW tb (d + 1) 1 [dF x,.int n] Q↔Q (.bl (match x with | .tup xs=>decide (xs.length=n) | _=>false),.non):=by
 rw [a8s (fd:=fd1) rfl rfl]
 have e:∀ a b:Nat,((a:Int) == (b:Int))=decide (a=b):=fun a b=>by
  rw [Bool.eq_iff_iff,beq_iff_eq,decide_eq_true_eq]; lia
 cases x <;> simp [fd1,bd1,dF,a2o,e]
theorem c9b {cs:List Chg} {xs:List FV} {ds r:List (Nat×FV)} {p:Nat×FV} (e:(List.range xs.length).zip xs=ds++p :: r) (h:okc cs p.1 p.2=false):a6h cs xs=false:=by
 rw [a6h,e,List.all_eq_false]
 exact ⟨p,by simp,by rw [h]; exact Bool.false_ne_true⟩
theorem c1h (ds:List D):a3p (upF 0 (ds.map dF).length) (ds.map dF)=((List.range ds.length).zip ds).map fun p:Nat×D=>FV.tup [.int p.1,dF p.2]:=by
 rw [a2j,a2w,List.length_map]
theorem a7r (ds:List D):(List.range (ds.map dF).length).zip (ds.map dF)=((List.range ds.length).zip ds).map fun p=>(p.1,dF p.2):=by
 rw [List.length_map]
 apply List.ext_getElem
 ·simp
 ·intro i h1 h2; simp
theorem c4p {cs:List Chg} {m:Nat} {x:D} (h:∀ i,x≠.int i) (h0:x≠.non):okc cs m (dF x)=false:=by
 cases x with
 | int i=>exact absurd rfl (h i)
 | non=>exact absurd rfl h0
 | _=>rfl
theorem c9y (d:Nat) {ws:List Int} {cs:List Chg} (h:Gs ws cs) (x:D) {Q:FV×FV→Prop} (q:Q (.bl (a8v ws.length cs (dF x)),.non)):callW tb (d + 2) 2 [a3t ws cs,dF x] Q:=by
 have hn:=h.n
 refine a0j (fd:=fd2) rfl rfl ?_
 simp [fd2,bd2,a1z]
 rw [b0l]
 cases x with
 | tup ds =>
  simp
  by_cases hl:ds.length=ws.length
  ·simp [hl]
   refine a9b d h ?_
   simp [dF,a2o]
   rw [← List.length_map (f:=dF),c1h]
   have qq:∀ b,b=a8v ws.length cs (dF (.tup ds))→Q (.bl b,.non):=fun b e=>by rw [e]; exact q
   simp only [dF,a2o,a8v,List.length_map,hl,decide_true,Bool.true_and] at qq
   refine a4s (f:=fun p:Nat×D=>FV.tup [.int p.1,dF p.2]) (I:=fun e L=>(∀ p∈e,okc cs p.1 (dF p.2)=true)∧∃ a b,L=[some (a3t ws cs),some (.tup (ds.map dF)),some (.int ws.length),some (.dct (cs.map keyH) (cs.map fun c=>.int c.2.2)),a,b]) ((List.range ds.length).zip ds) ((List.range ds.length).zip ds) [] _ rfl ⟨by simp,_,_,rfl⟩ ?_ ?_
   ·rintro e ⟨m,x⟩ r L K ez ⟨he,a,b,rfl⟩ k
    have no:okc cs m (dF x)=false→Q (.bl false,.non):=fun hf=>by
     refine qq _ ?_
     rw [c9b (cs:=cs) (xs:=ds.map dF) (ds:=e.map fun p=>(p.1,dF p.2)) (r:=r.map fun p=>(p.1,dF p.2)) (p:=(m,dF x)) (by rw [a7r,ez]; simp) hf]; rfl
    have yes:okc cs m (dF x)=true→K [some (a3t ws cs),some (.tup (ds.map dF)),some (.int ws.length),some (.dct (cs.map keyH) (cs.map fun c=>.int c.2.2)),some (.int m),some (dF x)]:=fun ht=>k _ ⟨fun p hp=>by
     rcases List.mem_append.mp hp with hp | hp
     ·exact he p hp
     ·simp at hp; rw [hp]; exact ht,_,_,rfl⟩
    cases x with
    | non=>simp [dF] at yes ⊢; exact yes rfl
    | int i =>
     by_cases hk:[i,(m:Int)]∈cs.map keyH
     ·have y:=yes (decide_eq_true hk)
      have nb:=a3v d (.int i)
      simp only [dF] at y nb ⊢
      simp [nb,big,hk]
      exact y
     ·have y:=no (decide_eq_false hk)
      have nb:=a3v d (.int i)
      simp only [dF] at nb ⊢
      simp [nb,big,hk]
      exact y
    | bl b =>
     have y:=no rfl
     have nb:=a3v d (.bl b)
     simp only [dF] at nb ⊢
     simp [nb]
     exact y
    | str b =>
     have y:=no rfl
     have nb:=a3v d (.str b)
     simp only [dF] at nb ⊢
     simp [nb]
     exact y
    | tup b =>
     have y:=no rfl
     have nb:=a3v d (.tup b)
     simp only [dF] at nb ⊢
     simp [nb]
     exact y
    | lst b =>
     have y:=no rfl
     have nb:=a3v d (.lst b)
     simp only [dF] at nb ⊢
     simp [nb]
     exact y
   ·rintro L ⟨he,a,b,rfl⟩
    have ok:a6h cs (ds.map dF)=true:=by
     rw [a6h,a7r,List.all_eq_true]
     intro p hp
     obtain ⟨q,hq,rfl⟩:=List.mem_map.mp hp
     exact he q hq
    obtain ⟨e1,hr⟩:=a8g ok
    rw [ok,Bool.true_and] at qq
    generalize (ds.map dF).map toO=ls at e1 hr qq
    have hll:ls.length=ws.length:=by rw [← hl,← List.length_map (f:=dF) (as:=ds),e1,List.length_map]
    rw [e1]
    simp
    refine ⟨a0l (by lia) (by lia),?_⟩
    rw [a2j]
    refine ⟨by simp [big]; lia,?_⟩
    refine a0t (f:=fun i:Nat=>FV.int i) (g:=fun m=>.bl (itr ls (some m) ls.length).isNone) (List.range ws.length) [] (fun i hi K k=>?_) ?_
    ·have hi:=List.mem_range.mp hi
     simp
     exact c1c d h hr hll (by lia) k
    rw [List.nil_append]
    simp [a1g]
    exact qq _ (by rw [b4r,hll])
  ·simp [hl]
   have:a8v ws.length cs (dF (.tup ds))=false:=by simp [dF,a2o,a8v,hl]
   rw [this] at q; exact q
 | _=>simp; exact q
theorem a5h {α:Type}:∀ (ps:List (List Int×α)) (ks:List (List Int)) (vs:List α),(ks++ps.map (·.1)).Nodup→a1f ps ks vs=(ks++ps.map (·.1),vs++ps.map (·.2))
 | [],ks,vs,_=>by simp [a1f]
 | p :: r,ks,vs,h=>by
  have hp:p.1 ∉ ks:=fun z=>by
   rw [List.nodup_append] at h
   exact h.2.2 p.1 z p.1 (by simp) rfl
  have e:a2h ks vs p.1 p.2=(ks++[p.1],vs++[p.2]):=by rw [a2h,if_neg hp]
  rw [a1f,e,a5h r _ _ (by simpa using h)]
  simp
theorem a6f:∀ cs:List Chg,a7f (cs.map fun c=>FV.tup [.tup [.int c.1,.int c.2.1],.int c.2.2])=some (cs.map fun c=>(keyH c,FV.int c.2.2))
 | []=>rfl
 | c :: r=>by
  rw [List.map_cons,a7f,a6f r]; rfl
theorem a9m (d:Nat) {ws:List Int} {cs:List Chg} (h:Gs ws cs) {Q:FV×FV→Prop} (q:Q (.dct (cs.map keyH) (cs.map fun c=>.int c.2.2),.non)):callW tb (d + 1) 24 [a3t ws cs] Q:=by
 have hc:=h.l
 refine a0j (fd:=d6o) rfl rfl ?_
 simp [d6o,d2k,a1z]
 refine ⟨by simp [big]; lia,?_⟩
 refine a0t (f:=a2p) (g:=fun c=>FV.tup [.tup [.int c.1,.int c.2.1],.int c.2.2]) cs [] (fun x hx K k=>?_) ?_
 ·simp [a2p,big]
  exact k
 ·rw [List.nil_append,a6f,a2v,a5h _ [] [] (by simpa [List.map_map,Function.comp_def] using h.keys)]
  simpa [List.map_map,Function.comp_def] using q
theorem c4w (d:Nat) {ws:List Int} {cs:List Chg} (h:Gs ws cs) (ds:List D) (hl:ds.length=ws.length) (hk:∀ x∈ds,x=.non ∨ ∃ i,x=.int i) {Q:FV×FV→Prop} (q:Q (.bl (a6h cs (ds.map dF) && b4r ((ds.map dF).map toO)),.non)):callW tb (d + 2) 27 [a3t ws cs,.tup (ds.map dF)] Q:=by
 have hn:=h.n
 refine a0j (fd:=d6l) rfl rfl ?_
 simp [d6l,d7z]
 refine a9m d h ?_
 simp
 rw [← List.length_map (f:=dF),c1h]
 refine ⟨by simp [big]; lia,?_⟩
 refine a0t (f:=fun p:Nat×D=>FV.tup [.int p.1,dF p.2]) (g:=fun p=>.bl (!okc cs p.1 (dF p.2))) ((List.range ds.length).zip ds) [] (fun p hp K k=>?_) ?_
 ·obtain ⟨m,x⟩:=p
  rcases hk x (List.of_mem_zip hp).2 with rfl | ⟨i,rfl⟩
  ·simpa [dF,okc] using k
  ·simpa [dF,okc,big] using k
 rw [List.nil_append]
 simp [a1g]
 have e0:a6h cs (ds.map dF)=((List.range ds.length).zip ds).all fun p=>okc cs p.1 (dF p.2):=by
  rw [a6h,a7r,List.all_map]; rfl
 by_cases ok:a6h cs (ds.map dF)=true
 ·rw [if_neg (by
   intro hm
   obtain ⟨p,hp,hf⟩:=List.mem_map.mp hm
   rw [e0,List.all_eq_true] at ok
   have:=ok p hp
   rw [this] at hf; cases hf)]
  obtain ⟨e1,hr⟩:=a8g ok
  rw [ok,Bool.true_and] at q
  generalize (ds.map dF).map toO=ls at e1 hr q
  have hll:ls.length=ws.length:=by rw [← hl,← List.length_map (f:=dF) (as:=ds),e1,List.length_map]
  have hdl:ds.length=ls.length:=by lia
  rw [e1,hdl]
  refine ⟨a0l (by lia) (by lia),?_⟩
  refine a1e (I:=fun j L=>(∀ m,m < j→(itr ls (some m) ls.length).isNone=true)∧∃ a b c,L=[some (a3t ws cs),some (.tup (ls.map a2i)),some (.dct (cs.map keyH) (cs.map fun c=>.int c.2.2)),a,b,c]) ls.length 0 _ ⟨by lia,_,_,_,rfl⟩ ?_ ?_
  ·rintro m L K - hm ⟨hd,a,b,c,rfl⟩ k
   simp
   refine ⟨a0l (by lia) (by lia),?_⟩
   refine a1e (I:=fun j L=>∃ c,L=[some (a3t ws cs),some (.tup (ls.map a2i)),some (.dct (cs.map keyH) (cs.map fun c=>.int c.2.2)),some (.int m),some (a2i (itr ls (some m) j)),c]) ls.length 0 _ ⟨_,rfl⟩ ?_ ?_
   ·rintro j L K2 - hj ⟨c,rfl⟩ k2
    cases e:itr ls (some m) j with
    | none =>
     simp [a2i]
     exact k2 _ ⟨_,by rw [itr,e]; rfl⟩
    | some p =>
     have hp:=b6s h hr hll (by lia) _ p e
     simp [a2i]
     rw [a6s hp]
     exact k2 _ ⟨_,by rw [itr,e]; rfl⟩
   ·rintro L ⟨c,rfl⟩
    rw [Nat.zero_add]
    cases e:itr ls (some m) ls.length with
    | none =>
     simp [a2i]
     refine k _ ⟨fun m' hm'=>?_,_,_,_,rfl⟩
     by_cases z:m'=m
     ·subst z; rw [e]; rfl
     ·exact hd m' (by lia)
    | some p =>
     have:b4r ls=false:=by
      rw [b4r,List.all_eq_false]
      exact ⟨m,List.mem_range.mpr (by lia),by rw [e]; exact Bool.false_ne_true⟩
     rw [this] at q
     simp [a2i]
     exact q
  ·rintro L ⟨hd,a,b,c,rfl⟩
   have:b4r ls=true:=by
    rw [b4r,List.all_eq_true]
    intro m hm
    exact hd m (by have:=List.mem_range.mp hm; lia)
   rw [this] at q
   simpa using q
 ·rw [if_pos (by
   rw [e0,← Bool.not_eq_false,Classical.not_not] at ok
   obtain ⟨p,hp,hf⟩:=List.all_eq_false.mp ok
   exact List.mem_map.mpr ⟨p,hp,by simpa using hf⟩)]
  rw [Bool.eq_false_iff.mpr ok,Bool.false_and] at q
  exact q
theorem b2r (ls:List (Option Nat)) (o:Option Nat):∀ k,itr ls o (k + 1)=itr ls (stp ls o) k
 | 0=>rfl
 | k + 1=>by rw [itr,b2r ls o k]; rfl
theorem c5g {α β:Type} (f:α→β) (xs:List α) (k:Nat) (y:α):b4d (xs.map f) k (f y)=(b4d xs k y).map f:=by simp [b4d,List.map_take,List.map_drop]
theorem c0o {α:Type} (xs:List α) (k:Nat) (y:α):(b4d xs k y).Perm (y :: xs):=by
 have:=List.perm_middle (a:=y) (l₁:=xs.take k) (l₂:=xs.drop k)
 rwa [List.take_append_drop] at this
inductive Way (ls:List (Option Nat)):Nat→List Nat→Prop
 | root {m:Nat}:ls.getD m none=none→Way ls m [m]
 | step {m a:Nat} {l:List Nat}:ls.getD m none=some a→Way ls a l→Way ls m (l++[m])
theorem Way.uniq {ls:List (Option Nat)} {m:Nat} {l l':List Nat} (h:Way ls m l) (h':Way ls m l'):l=l':=by
 induction h generalizing l' with
 | root e=>cases h' with
  | root _=>rfl
  | step e' _=>rw [e] at e'; cases e'
 | step e _ ih=>cases h' with
  | root e'=>rw [e] at e'; cases e'
  | step e' t=>rw [e] at e'; cases e'; rw [ih t]
theorem Way.ne {ls:List (Option Nat)} {m:Nat} {l:List Nat} (h:Way ls m l):l≠[]:=by
 cases h with
 | root _=>simp
 | step _ _=>simp
theorem Way.pos {ls:List (Option Nat)} {m:Nat} {l:List Nat} (h:Way ls m l):1≤l.length:=by
 have:=h.ne
 cases l with
 | nil=>exact absurd rfl this
 | cons x r=>simp
theorem c1i {ls:List (Option Nat)}:∀ (k m:Nat),itr ls (some m) k=none→∃ l,Way ls m l∧l.length≤k
 | 0,m,h=>by cases h
 | k + 1,m,h=>by
  rw [b2r] at h
  cases e:ls.getD m none with
  | none=>exact ⟨[m],.root e,by simp⟩
  | some a =>
   have h:itr ls (ls.getD m none) k=none:=h
   rw [e] at h
   obtain ⟨l,w,hl⟩:=c1i k a h
   exact ⟨l++[m],.step e w,by simp; lia⟩
theorem c0r {ls:List (Option Nat)} (h:b4r ls=true) {m:Nat} (hm:m < ls.length):∃ l,Way ls m l∧l.length≤ls.length:=by
 have:=List.all_eq_true.mp h m (List.mem_range.mpr hm)
 exact c1i _ m (Option.isNone_iff_eq_none.mp this)
theorem Way.lt {ws:List Int} {cs:List Chg} (h:Gs ws cs) {ls:List (Option Nat)} (hr:Rst cs ls) (hl:ls.length=ws.length) {m:Nat} {l:List Nat} (w:Way ls m l) (hm:m < ls.length):∀ i∈l,i < ls.length:=by
 induction w with
 | root _=>intro i hi; simp at hi; lia
 | @step m a l e _ ih =>
  have ha:a < ls.length:=by
   rw [List.getD,List.getElem?_eq_getElem hm] at e
   have:=h.rst hr (m:=m) (a:=a) (by rw [List.getElem?_eq_getElem hm]; exact congrArg some e)
   lia
  intro i hi
  rcases List.mem_append.mp hi with hi | hi
  ·exact ih ha i hi
  ·simp at hi; lia
theorem Way.head {ls:List (Option Nat)} {m:Nat} {l:List Nat} (w:Way ls m l):∃ r t,l=r :: t∧ls.getD r none=none∧(r=m→t=[]):=by
 induction w with
 | root e=>exact ⟨_,[],rfl,e,fun _=>rfl⟩
 | @step m a l e _ ih =>
  obtain ⟨r,t,rfl,h1,h2⟩:=ih
  exact ⟨r,t++[m],rfl,h1,fun z=>by rw [z,e] at h1; cases h1⟩
noncomputable def b4s (l:List Nat):List FV:=l.map fun i:Nat=>FV.int i
theorem c2t (d:Nat) {ws:List Int} {cs:List Chg} (h:Gs ws cs) {ls:List (Option Nat)} (hr:Rst cs ls) (hl:ls.length=ws.length) {m:Nat} {l:List Nat} (w:Way ls m l) (hm:m < ls.length) (hb:l.length≤12) {Q:FV×FV→Prop} (q:Q (.tup (b4s l),.non)):callW tb (d + 1) 6 [.tup (ls.map a2i),.int m] Q:=by
 refine a0j (fd:=fd6) rfl rfl ?_
 simp [fd6,bd6,big]
 rw [a6s hm]
 refine while_by (I:=fun t L=>∃ (o:Option Nat) (out:List Nat),L=[some (.tup (ls.map a2i)),some (.int m),some (.lst (out.map fun i:Nat=>.int i)),some (a2i o)]∧out.length + t≤12∧(match o with | none=>l=out.reverse | some p=>p < ls.length∧∃ l',Way ls p l'∧t=l'.length∧l=l'++out.reverse)) ?_ (m:=l.length - 1) ⟨ls.getD m none,[m],rfl,by have:=w.pos; simp; lia,?_⟩
 ·rintro t L K ⟨o,out,eL,hol,ho⟩ k
  subst eL
  cases o with
  | none =>
   dsimp only at ho
   simp [a2i]
   simpa [b4s,ho] using q
  | some p =>
   obtain ⟨hp,l',w',ht,hw⟩:=ho
   have hpos:=w'.pos
   simp [a2i,big]
   refine ⟨by lia,?_⟩
   rw [a6s hp]
   refine k (t - 1) _ (by lia) ⟨ls.getD p none,out++[p],by simp,by simp; lia,?_⟩
   cases w' with
   | root e =>
    rw [e]
    show l=_
    rw [hw]; simp
   | @step _ a l2 e w2 =>
    rw [e]
    refine ⟨?_,l2,w2,by simp at ht; lia,by rw [hw]; simp⟩
    rw [List.getD,List.getElem?_eq_getElem hp] at e
    have:=h.rst hr (m:=p) (a:=a) (by rw [List.getElem?_eq_getElem hp]; exact congrArg some e)
    lia
 ·cases w with
  | root e=>rw [e]; rfl
  | @step _ a l2 e w2 =>
   rw [e]
   refine ⟨?_,l2,w2,by simp,by simp⟩
   rw [List.getD,List.getElem?_eq_getElem hm] at e
   have:=h.rst hr (m:=m) (a:=a) (by rw [List.getElem?_eq_getElem hm]; exact congrArg some e)
   lia
theorem c4v (d:Nat) {ws:List Int} {cs:List Chg} (h:Gs ws cs) {ls:List (Option Nat)} (hr:Rst cs ls) (hl:ls.length=ws.length) {m:Nat} {l:List Nat} (w:Way ls m l) (hm:m < ls.length) (hb:l.length≤12) {Q:FV×FV→Prop} (q:Q (.lst (b4s l),.non)):callW tb (d + 1) 25 [.tup (ls.map a2i),.int m] Q:=by
 refine a0j (fd:=d6n) rfl rfl ?_
 simp [d6n,d8b,big]
 refine while_by (I:=fun t L=>∃ (p:Nat) (r l':List Nat),L=[some (.tup (ls.map a2i)),some (.int m),some (.lst ((p :: r).map fun i:Nat=>.int i))]∧p < ls.length∧Way ls p l'∧t=l'.length∧l=l'++r) ?_ (m:=l.length) ⟨m,[],l,rfl,hm,w,rfl,by simp⟩
 rintro t L K ⟨p,r,l',eL,hp,w',ht,hw⟩ k
 subst eL
 simp
 rw [a6s hp]
 cases w' with
 | root e =>
  rw [e]
  simp [a2i]
  simpa [b4s,hw] using q
 | @step _ a l2 e w2 =>
  rw [e]
  have hle:r.length≤12:=by rw [hw] at hb; simp at hb; lia
  simp [a2i]
  rw [a6s hp,e]
  simp [a2i,big]
  refine And.intro (by lia) ?_
  refine k l2.length _ (by rw [ht]; simp) ⟨a,p :: r,l2,by simp [b4d],?_,w2,rfl,by rw [hw]; simp⟩
  rw [List.getD,List.getElem?_eq_getElem hp] at e
  have:=h.rst hr (m:=p) (a:=a) (by rw [List.getElem?_eq_getElem hp]; exact congrArg some e)
  lia
noncomputable def szc (cs:List Chg) (a m:Nat):Int:=((cs.find? fun c=>decide (c.1=a∧c.2.1=m)).map fun c=>c.2.2).getD 0
theorem a9q (a m:Nat):∀ cs:List Chg,a2t (cs.map keyH) (cs.map fun c=>FV.int c.2.2) [(a:Int),(m:Int)]=(cs.find? fun c=>decide (c.1=a∧c.2.1=m)).map fun c=>FV.int c.2.2
 | []=>rfl
 | c :: r=>by
  show (if keyH c=[(a:Int),(m:Int)] then some (FV.int c.2.2) else a2t (r.map keyH) (r.map fun c=>FV.int c.2.2) [(a:Int),(m:Int)])=_
  by_cases e:c.1=a∧c.2.1=m
  ·rw [if_pos (by simp [keyH,e.1,e.2]),List.find?_cons_of_pos (by simpa using e)]; rfl
  ·rw [if_neg (by simp only [keyH,List.cons.injEq]; intro z; exact e ⟨by lia,by lia⟩),List.find?_cons_of_neg (by simpa using e)]
   exact a9q a m r
theorem b2x {cs:List Chg} {a m:Nat} (h:[(a:Int),(m:Int)]∈cs.map keyH):a2t (cs.map keyH) (cs.map fun c=>FV.int c.2.2) [(a:Int),(m:Int)]=some (.int (szc cs a m)):=by
 rw [a9q]
 cases e:cs.find? fun c=>decide (c.1=a∧c.2.1=m) with
 | none =>
  obtain ⟨c,hc,e2⟩:=List.mem_map.mp h
  have:=List.find?_eq_none.mp e c hc
  simp only [keyH,List.cons.injEq] at e2
  exact absurd (decide_eq_true (show c.1=a∧c.2.1=m from ⟨by lia,by lia⟩)) this
 | some c=>rw [szc,e]; rfl
theorem c1s {ws:List Int} {cs:List Chg} (h:Gs ws cs) (a m:Nat):0≤szc cs a m∧szc cs a m < 2000000000:=by
 unfold szc
 cases e:cs.find? fun c=>decide (c.1=a∧c.2.1=m) with
 | none=>simp
 | some c =>
  have:=h.c c (List.mem_of_find?_eq_some e)
  show 0≤c.2.2∧c.2.2 < _
  lia
noncomputable def kpL (ws:List Int) (cs:List Chg) (ls:List (Option Nat)) (m:Nat):Int:=match ls.getD m none with
 | none=>ws.getD m 0
 | some a=>szc cs a m
theorem c9q {ws:List Int} {cs:List Chg} (h:Gs ws cs) (ls:List (Option Nat)) (m:Nat):0≤kpL ws cs ls m∧kpL ws cs ls m < 2000000000:=by
 unfold kpL
 cases ls.getD m none with
 | none =>
  show 0≤ws.getD m 0∧_
  rw [List.getD]
  cases e:ws[m]? with
  | none=>simp
  | some x =>
   have:=h.w x (List.mem_of_getElem? e)
   show 0≤x∧x < _
   lia
 | some a=>exact c1s h a m
theorem c1t {xs:List Int} (hl:xs.length≤1000) (h:∀ x∈xs,0≤x∧x < 2000000000) {Q:Int→Prop} (q:Q xs.sum):wp (d1e (xs.map .int)) Q:=by
 simp only [d1e,a1i,b2u,a2v]
 rw [a3c]
 refine ⟨⟨by simp only [big]; lia,?_⟩,q⟩
 rw [List.all_eq_true]
 intro x hx
 have:=h x hx
 simp only [b0r,decide_eq_true_eq]; lia
theorem a2g {xs:List Int} {i:Nat} (h:i < xs.length) (Q:FV→Prop):wp (atF (xs.map .int) (i:Int)) Q↔Q (.int (xs.getD i 0)) :=
 a4w rfl (by rw [List.getElem?_map,List.getElem?_eq_getElem h]; simp [List.getD,h])
theorem c6o (ls:List (Option Nat)):a3p (upF 0 (ls.map a2i).length) (ls.map a2i)=(List.range ls.length).map fun m:Nat=>FV.tup [.int (m:Int),a2i (ls.getD m none)]:=by
 rw [a2j,a2w,List.length_map]
 apply List.ext_getElem
 ·simp
 ·intro i h1 h2
  have:i < ls.length:=by simpa using h2
  simp [List.getD,this]
theorem c1w {cs:List Chg} {ls:List (Option Nat)} (hr:Rst cs ls) {m a:Nat} (hm:m < ls.length) (e:ls.getD m none=some a):[(a:Int),(m:Int)]∈cs.map keyH:=by
 rw [List.getD,List.getElem?_eq_getElem hm] at e
 exact hr m a (by rw [List.getElem?_eq_getElem hm]; exact congrArg some e)
theorem c5d (d:Nat) {ws:List Int} {cs:List Chg} (h:Gs ws cs) {ls:List (Option Nat)} (hr:Rst cs ls) (hl:ls.length=ws.length) {Q:FV×FV→Prop} (q:Q (.lst (((List.range ls.length).map (kpL ws cs ls)).map .int),.non)):callW tb (d + 2) 5 [a3t ws cs,.tup (ls.map a2i)] Q:=by
 have hn:=h.n
 refine a0j (fd:=fd5) rfl rfl ?_
 simp [fd5,bd5]
 refine a9b d h ?_
 simp [a1z]
 rw [← List.length_map (f:=a2i),c6o]
 refine ⟨by simp [big]; lia,?_⟩
 refine a0t (f:=fun m:Nat=>FV.tup [.int (m:Int),a2i (ls.getD m none)]) (g:=fun m=>.int (kpL ws cs ls m)) (List.range ls.length) [] (fun m hm K k=>?_) ?_
 ·have hm:=List.mem_range.mp hm
  unfold kpL at k
  cases e:ls.getD m none with
  | none =>
   rw [e] at k
   simp [a2i,a1z]
   rw [a2g (by lia)]
   exact k
  | some a =>
   rw [e] at k
   simp [a2i,big]
   rw [b2x (c1w hr hm e)]
   exact k
 ·simpa [List.map_map,Function.comp_def] using q
noncomputable def a5p (ls:List (Option Nat)) (m:Nat):List Nat:=open Classical in if h:∃ l,Way ls m l then Classical.choose h else []
theorem b5b {ls:List (Option Nat)} (hg:b4r ls=true) {m:Nat} (hm:m < ls.length):Way ls m (a5p ls m)∧(a5p ls m).length≤ls.length:=by
 obtain ⟨l,w,hl⟩:=c0r hg hm
 have hx:∃ l,Way ls m l:=⟨l,w⟩
 have e:a5p ls m=Classical.choose hx:=by unfold a5p; rw [dif_pos hx]
 have w2:Way ls m (a5p ls m):=by rw [e]; exact Classical.choose_spec hx
 exact ⟨w2,by rw [w2.uniq w]; exact hl⟩
noncomputable def rdL (ws:List Int) (cs:List Chg) (ls:List (Option Nat)) (m:Nat):Int:=((a5p ls m).map (kpL ws cs ls)).sum
theorem b5o (d:Nat) {ws:List Int} {cs:List Chg} (h:Gs ws cs) {ls:List (Option Nat)} (hr:Rst cs ls) (hg:b4r ls=true) (hl:ls.length=ws.length) {Q:FV×FV→Prop} (q:Q (.tup (((List.range ls.length).map (rdL ws cs ls)).map .int),.non)):callW tb (d + 3) 7 [a3t ws cs,.tup (ls.map a2i)] Q:=by
 have hn:=h.n
 refine a0j (fd:=fd7) rfl rfl ?_
 simp [fd7,bd7]
 refine c5d d h hr hl ?_
 simp
 refine ⟨a0l (by lia) (by lia),?_⟩
 rw [a2j]
 refine ⟨by simp [big]; lia,?_⟩
 refine a0t (f:=fun i:Nat=>FV.int i) (g:=fun m=>.int (rdL ws cs ls m)) (List.range ls.length) [] (fun m hm K k=>?_) ?_
 ·have hm:=List.mem_range.mp hm
  obtain ⟨w,hwl⟩:=b5b hg hm
  simp
  refine c2t (d + 1) h hr hl w hm (by lia) ?_
  simp [b4s]
  refine ⟨by simp [big]; lia,?_⟩
  refine a0t (f:=fun i:Nat=>FV.int i) (g:=fun i=>.int (kpL ws cs ls i)) (a5p ls m) [] (fun i hi K k=>?_) ?_
  ·have hi:=w.lt h hr hl hm i hi
   simp
   rw [a4w rfl (show ((List.range ls.length).map (FV.int ∘ kpL ws cs ls))[i]?=some (.int (kpL ws cs ls i)) by simp [hi])]
   exact k
  ·have e:((a5p ls m).map fun i=>FV.int (kpL ws cs ls i))=((a5p ls m).map (kpL ws cs ls)).map .int:=by simp
   rw [List.nil_append,e]
   refine c1t (by simp; lia) ?_ k
   intro x hx
   obtain ⟨i,hi,rfl⟩:=List.mem_map.mp hx
   exact c9q h ls i
 ·simpa [List.map_map,Function.comp_def] using q
theorem a7q {α:Type} (a m:α):∀ (l:List α),(l++[a]++[m]).zip ((l++[a]++[m]).drop 1)=(l++[a]).zip ((l++[a]).drop 1)++[(a,m)]
 | []=>rfl
 | [x]=>rfl
 | x :: y :: r=>by
  have:=a7q a m (y :: r)
  simp only [List.cons_append,List.drop_succ_cons,List.drop_zero,List.zip_cons_cons] at this ⊢
  rw [this]
theorem Way.last {ls:List (Option Nat)} {m:Nat} {l:List Nat} (w:Way ls m l):∃ r,l=r++[m]:=by
 cases w with
 | root _=>exact ⟨[],rfl⟩
 | step _ _=>exact ⟨_,rfl⟩
theorem c2u (ws:List Int) (cs:List Chg) {ls:List (Option Nat)} {m:Nat} {l:List Nat} (w:Way ls m l):(l.map (kpL ws cs ls)).sum=ws.getD (l.headD 0) 0 + ((l.zip (l.drop 1)).map fun p=>szc cs p.1 p.2).sum:=by
 induction w with
 | @root m e =>
  have e2:kpL ws cs ls m=ws.getD m 0:=by rw [kpL,e]
  simp [e2]
 | @step m a l e w ih =>
  obtain ⟨r,rfl⟩:=w.last
  rw [a7q,List.map_append (l₁:=r++[a]),List.map_append (l₁:=(r++[a]).zip _),List.sum_append,List.sum_append,ih]
  have:(r++[a]++[m]).headD 0=(r++[a]).headD 0:=by cases r <;> rfl
  rw [this]
  have e2:kpL ws cs ls m=szc cs a m:=by rw [kpL,e]
  simp only [List.map_cons,List.map_nil,List.sum_cons,List.sum_nil,e2]
  lia
theorem b5a {ls:List (Option Nat)} {m:Nat} {l:List Nat} (w:Way ls m l):∀ p∈l.zip (l.drop 1),ls.getD p.2 none=some p.1:=by
 induction w with
 | root e=>intro p hp; simp at hp
 | @step m a l e w ih =>
  obtain ⟨r,rfl⟩:=w.last
  rw [a7q]
  intro p hp
  rcases List.mem_append.mp hp with hp | hp
  ·exact ih p hp
  ·simp at hp; subst hp; exact e
theorem b3z (d:Nat) {ws:List Int} {cs:List Chg} (h:Gs ws cs) {ls:List (Option Nat)} (hr:Rst cs ls) (hg:b4r ls=true) (hl:ls.length=ws.length) {Q:FV×FV→Prop} (q:Q (.tup (((List.range ls.length).map (rdL ws cs ls)).map .int),.non)):callW tb (d + 2) 26 [a3t ws cs,.tup (ls.map a2i)] Q:=by
 have hn:=h.n
 refine a0j (fd:=d6m) rfl rfl ?_
 simp [d6m,d8a]
 refine a9m d h ?_
 simp
 refine ⟨a0l (by lia) (by lia),?_⟩
 refine a1e (I:=fun j L=>∃ a b,L=[some (a3t ws cs),some (.tup (ls.map a2i)),some (.dct (cs.map keyH) (cs.map fun c=>.int c.2.2)),some (.lst (((List.range j).map (rdL ws cs ls)).map .int)),a,b]) ls.length 0 _ ⟨_,_,rfl⟩ ?_ ?_
 ·rintro m L K - hm ⟨a,b,eL⟩ k
  subst eL
  have hm:m < ls.length:=by lia
  obtain ⟨w,hwl⟩:=b5b hg hm
  obtain ⟨r,t,ht,h0,-⟩:=w.head
  have hrl:r < ls.length:=w.lt h hr hl hm r (by rw [ht]; simp)
  simp
  refine c4v (d + 0) h hr hl w hm (by lia) ?_
  have kk:∀ v,v=rdL ws cs ls m→K [some (a3t ws cs),some (.tup (ls.map a2i)),some (.dct (cs.map keyH) (cs.map fun c=>.int c.2.2)),some (.lst (((List.range m).map (rdL ws cs ls)).map .int++[.int v])),some (.int m),some (.lst (b4s (a5p ls m)))]:=fun v ev=>by
   subst ev
   exact k _ ⟨_,_,by simp [List.range_succ]; exact ⟨rfl,rfl⟩⟩
  have e0:b4s (a5p ls m)=FV.int r :: b4s t:=by rw [ht]; rfl
  have c1:∀ xs:List FV,b4i xs (some 1) none=xs.drop 1:=fun xs=>by simpa using b3h xs 1
  have ez:a3p (b4s (a5p ls m)) (b4i (b4s (a5p ls m)) (some 1) none)=((a5p ls m).zip ((a5p ls m).drop 1)).map fun p=>FV.tup [.int p.1,.int p.2]:=by
   rw [c1,b4s,← List.map_drop,a2w]
  have a0:∀ Q:FV→Prop,wp (atF (b4s (a5p ls m)) 0) Q↔Q (.int r):=fun Q=>by rw [e0]; exact at_0 _ _ _
  have hzl:((a5p ls m).zip ((a5p ls m).drop 1)).length≤12:=by simp; lia
  simp [a1z]
  rw [a0,ez]
  simp only [d4w,sq_t]
  rw [a2g (by lia)]
  refine ⟨by rw [List.length_map]; simp only [big]; lia,?_⟩
  refine a0t (f:=fun p:Nat×Nat=>FV.tup [.int p.1,.int p.2]) (g:=fun p=>.int (szc cs p.1 p.2)) ((a5p ls m).zip ((a5p ls m).drop 1)) [] (fun p hp K k=>?_) ?_
  ·have hp2:p.2 < ls.length:=by
    refine w.lt h hr hl hm p.2 ?_
    exact List.mem_of_mem_drop (List.of_mem_zip hp).2
   simp
   rw [b2x (c1w hr hp2 (b5a w p hp))]
   exact k
  ·have e:(((a5p ls m).zip ((a5p ls m).drop 1)).map fun p=>FV.int (szc cs p.1 p.2))=(((a5p ls m).zip ((a5p ls m).drop 1)).map fun p=>szc cs p.1 p.2).map .int:=by simp
   rw [List.nil_append,e]
   refine c1t (by rw [List.length_map]; lia) ?_ ?_
   ·intro x hx
    obtain ⟨p,hp,rfl⟩:=List.mem_map.mp hx
    exact c1s h _ _
   ·have:=kk (ws.getD r 0 + (((a5p ls m).zip ((a5p ls m).drop 1)).map fun p=>szc cs p.1 p.2).sum) (by rw [rdL,c2u ws cs w,ht]; rfl)
    simp [big]
    refine ⟨by lia,?_⟩
    simpa using this
 ·rintro L ⟨a,b,eL⟩
  subst eL
  simpa using q
theorem c3l {cs:List Chg} (hn:(kvK cs).Nodup) (h:cs.Pairwise fun x y=>lexLt (keyH y) (keyH x)=false):Ris cs:=by
 unfold kvK at hn
 rw [List.nodup_iff_pairwise_ne,List.pairwise_map] at hn
 refine (hn.and h).imp fun {x y} hh=>?_
 obtain ⟨h1,h2⟩:=hh
 have ne:¬ (x.1=y.1∧x.2.1=y.2.1):=fun z=>h1 (by simp [keyH,z.1,z.2])
 simp only [keyH,lexLt] at h2
 by_cases e1:(y.1:Int)=x.1
 ·rw [if_pos e1] at h2
  by_cases e2:(y.2.1:Int)=x.2.1
  ·lia
  ·rw [if_neg e2] at h2
   simp only [decide_eq_false_iff_not] at h2
   lia
 ·rw [if_neg e1] at h2
  simp only [decide_eq_false_iff_not] at h2
  lia
theorem c2r {os:List Nat} {p:Nat×Nat} (h:p∈os.zip (os.drop 1)):∃ j,os[j]?=some p.1∧os[j + 1]?=some p.2:=by
 obtain ⟨j,hj⟩:=List.mem_iff_getElem?.mp h
 obtain ⟨h1,h2⟩:=List.getElem?_zip_eq_some.mp hj
 rw [List.getElem?_drop] at h2
 exact ⟨j,h1,by rwa [Nat.add_comm] at h2⟩
theorem c6p:∀ (a b:List Nat),((a.zip b).map Prod.fst).Sublist a
 | [],_=>by simp
 | x :: a,[]=>by simp
 | x :: a,y :: b=>by simpa using c6p a b
theorem c1d (d:Nat) {n:Int} {v:FV} {m:Nat} {Q:FV×FV→Prop} (hs:Lf n v) (h0:0≤n) (hn:n < 10000) (hm:m≤12) (hm1:1≤m) (q:∀ (ws:List Int) (cs:List Chg) v',GsB 1000000100 ws cs→Ris cs→ws.length=m→Lf (n + 700) v'→Q (a3t ws cs,v')):callW tb (d + 5) 18 [v,.int m] Q:=by
 refine a0j (fd:=d6s) rfl rfl ?_
 simp [d6s,d8e,big]
 refine ⟨a0l (by lia) (by lia),?_⟩
 refine a1e (I:=fun k L=>∃ v' x,∃ os:List Nat,L=[some v',some (.int m),some (.lst (os.map fun i:Nat=>.int i)),x,none,none,none,none,none,none,none]∧os.Perm (List.range k)∧Lf (n + k) v') m 0 _ ⟨v,_,[],rfl,by simp,hs.mono (by lia)⟩ ?_ ?_
 ·rintro k L K - hk ⟨v',x,os,rfl,hp,lf⟩ kk
  simp
  refine a0h _ lf (by lia) (by lia) (by lia) fun u v1 u0 u1 l1=>?_
  have hol:os.length≤12:=by rw [hp.length_eq,List.length_range]; lia
  simp [big]
  have a1:u < 4611686018427387904:=by lia
  have a2:os.length < 100000:=by lia
  refine And.intro (And.intro u0 (And.intro a1 a2)) ?_
  generalize hu:u.toNat=ut
  apply kk
  refine ⟨v1,some (.int k),b4d os ut k,?_,?_,l1.mono (by lia)⟩
  ·rw [c5g (fun i:Nat=>FV.int i)]
  ·rw [List.range_succ]
   exact (c0o os ut k).trans ((hp.cons k).trans (List.perm_append_comm (l₁:=[k])))
 rintro L ⟨v1,x,os,rfl,hp,l1⟩
 rw [Nat.zero_add] at hp l1
 have hol:os.length=m:=by rw [hp.length_eq,List.length_range]
 have nd:os.Nodup:=hp.nodup_iff.mpr List.nodup_range
 simp
 refine a0h _ l1 (by lia) (by lia) (by lia) fun ne v2 ne0 ne1 l2=>?_
 simp
 refine a0h _ l2 (by lia) (by lia) (by lia) fun de v3 de0 de1 l3=>?_
 have c1:∀ xs:List FV,b4i xs (some 1) none=xs.drop 1:=fun xs=>by simpa using b3h xs 1
 have ez:a3p (os.map fun i:Nat=>FV.int i) (b4i (os.map fun i:Nat=>FV.int i) (some 1) none)=(os.zip (os.drop 1)).map fun p=>FV.tup [.int p.1,.int p.2]:=by
  rw [c1,← List.map_drop,a2w]
 have hzl:(os.zip (os.drop 1)).length=m - 1:=by rw [List.length_zip,List.length_drop]; lia
 have hzm:∀ p∈os.zip (os.drop 1),p.1 < m∧p.2 < m∧p.1≠p.2:=by
  intro p hp'
  obtain ⟨j,h1,h2⟩:=c2r hp'
  refine ⟨List.mem_range.mp (hp.mem_iff.mp (List.mem_of_getElem? h1)),List.mem_range.mp (hp.mem_iff.mp (List.mem_of_getElem? h2)),fun e=>?_⟩
  obtain ⟨a1,b1⟩:=List.getElem?_eq_some_iff.mp h1
  obtain ⟨a2,b2⟩:=List.getElem?_eq_some_iff.mp h2
  have:=(List.getElem_inj nd).mp (b1.trans (e.trans b2.symm))
  lia
 have hzn:(os.zip (os.drop 1)).Nodup:=by
  have h:=c6p os (os.drop 1)
  have h:=h.nodup nd
  rw [List.nodup_iff_pairwise_ne,List.pairwise_map] at h
  rw [List.nodup_iff_pairwise_ne]
  exact h.imp fun {x y} h e=>h (by rw [e])
 simp
 rw [ez]
 refine ⟨by rw [List.length_map,hzl]; lia,?_⟩
 refine a3j (f:=fun p:Nat×Nat=>FV.tup [.int p.1,.int p.2]) (I:=fun ds acc L=>∃ v',∃ ys:List Chg,L=[some v',some (.int m),some (.lst (os.map fun i:Nat=>.int i)),x,some (.int (1 + ne)),some (.int (9 + de)),none,none,none,none,none]∧acc=ys.map (fun c=>FV.tup [.tup [.int c.1,.int c.2.1],.int c.2.2])∧ys.map (fun c=>(c.1,c.2.1))=ds∧(∀ x∈ys,1≤x.2.2∧x.2.2 < 1000000000)∧Lf (n + 14 + ds.length) v') (os.zip (os.drop 1)) (os.zip (os.drop 1)) [] [] _ rfl ⟨v3,[],rfl,rfl,rfl,by simp,l3.mono (by simp; lia)⟩ ?_ ?_
 ·rintro ds p r acc L K e ⟨v',ys,rfl,rfl,hk,hy,lf⟩ k
  have hd:ds.length < m:=by have:=congrArg List.length e; simp at this; lia
  simp [big]
  refine a0h _ lf (by lia) (by lia) (by lia) fun s v4 s0 s1 l4=>?_
  simp [big]
  refine k _ _ ⟨v4,ys++[(p.1,p.2,1 + s)],rfl,by simp,by simp [hk],?_,l4.mono (by simp; lia)⟩
  intro y hy'
  rcases List.mem_append.mp hy' with hy' | hy'
  ·exact hy y hy'
  ·simp at hy'; subst hy'
   dsimp only; lia
 rintro zs L ⟨v4,ps0,rfl,rfl,hk,hy,l4⟩
 have hn0:(kvK ps0).Nodup:=by
  rw [← hk,List.nodup_iff_pairwise_ne,List.pairwise_map] at hzn
  unfold kvK
  rw [List.nodup_iff_pairwise_ne,List.pairwise_map]
  refine hzn.imp fun {x y} h e=>h ?_
  have:=a8n e
  rw [this.1,this.2]
 have ep:a1f (ps0.map fun c=>(keyH c,FV.int c.2.2)) [] []=(kvK ps0,kvV ps0):=by
  rw [a5h _ [] [] (by simpa [List.map_map,Function.comp_def,kvK] using hn0)]
  simp [kvK,kvV,List.map_map,Function.comp_def]
 have hb0:∀ c∈ps0,c.1 < m∧c.2.1 < m∧c.1≠c.2.1∧1≤c.2.2∧c.2.2 < 1000000100:=fun c hc=>by
  have h1:=hzm (c.1,c.2.1) (by rw [← hk]; exact List.mem_map.mpr ⟨c,hc,rfl⟩)
  have h2:=hy c hc
  dsimp only at h1
  lia
 rw [a6f,a2v,ep]
 simp
 refine a0h _ l4 (by lia) (by lia) (by lia) fun tu v5 tu0 tu1 l5=>?_
 simp
 refine ⟨a0l (by lia) (by lia),?_⟩
 generalize ht:tu.toNat=tn
 have htn:tn≤12:=by lia
 refine a1e (I:=fun k L=>∃ v' y1 y2 y3,∃ ps:List Chg,L=[some v',some (.int m),some (.lst (os.map fun i:Nat=>.int i)),x,some (.int (1 + ne)),some (.int (9 + de)),some (.dct (kvK ps) (kvV ps)),y1,y2,y3,none]∧(kvK ps).Nodup∧(∀ c∈ps,c.1 < m∧c.2.1 < m∧c.1≠c.2.1∧1≤c.2.2∧c.2.2 < 1000000100)∧Lf (n + 40 + 3 * k) v') tn 0 _ ⟨v5,_,_,_,ps0,rfl,hn0,hb0,l5.mono (by lia)⟩ ?_ ?_
 ·rintro k L K - hk ⟨v',y1,y2,y3,ps,rfl,hd,hp',lf⟩ kk
  have hpl:=a4l hd fun c hc=>by have:=hp' c hc; lia
  simp [big]
  refine a0h _ lf (by lia) (by lia) (by lia) fun a v6 a0 a1 l6=>?_
  simp [big]
  refine a0h _ l6 (by lia) (by lia) (by lia) fun b v7 b0 b1 l7=>?_
  simp [big]
  obtain ⟨a',rfl⟩:=Int.eq_ofNat_of_zero_le a0
  obtain ⟨b',rfl⟩:=Int.eq_ofNat_of_zero_le b0
  refine ite2 (fun h1=>?_) (fun h1=>?_)
  ·exact kk _ ⟨_,_,_,_,ps,rfl,hd,hp',l7.mono (by lia)⟩
  ·refine a0h _ l7 (by lia) (by lia) (by lia) fun s v8 s0 s1 l8=>?_
   simp [big]
   refine ⟨by simp [kvK]; lia,?_⟩
   rw [c7x]
   refine kk _ ⟨_,_,_,_,b9q ps a' b' (1 + s),rfl,a7e _ _ _ hd,fun c hc'=>?_,l8.mono (by lia)⟩
   rcases b1x hc' with rfl | hc'
   ·dsimp only; lia
   ·exact hp' c hc'
 rintro L ⟨v6,y1,y2,y3,ps,rfl,hd,hp',l6⟩
 have hpl:=a4l hd fun c hc=>by have:=hp' c hc; lia
 simp
 refine ⟨a0l (by lia) (by lia),by simp [a2j]; lia,?_⟩
 rw [a2j]
 refine a3j (f:=fun i:Nat=>FV.int i) (I:=fun ds acc L=>∃ v',∃ xs:List Int,L=[some v',some (.int m),some (.lst (os.map fun i:Nat=>FV.int i)),x,some (.int (1 + ne)),some (.int (9 + de)),some (.dct (kvK ps) (kvV ps)),y1,y2,y3,none]∧acc=xs.map .int∧xs.length=ds.length∧(∀ x∈xs,1≤x∧x < 1000000100)∧Lf (n + 80 + ds.length) v') (List.range m) (List.range m) [] [] _ rfl ⟨v6,[],rfl,rfl,rfl,by simp,l6.mono (by simp; lia)⟩ ?_ ?_
 ·rintro ds p r acc L K e ⟨v',xs,rfl,rfl,hk,hy,lf⟩ k
  have hd:ds.length < m:=by have:=congrArg List.length e; simp at this; lia
  simp [big]
  refine a0h _ lf (by lia) (by lia) (by lia) fun s v4 s0 s1 l4=>?_
  simp [big]
  refine k _ _ ⟨v4,xs++[1 + s],rfl,by simp,by simp [hk],?_,l4.mono (by simp; lia)⟩
  intro y hy'
  rcases List.mem_append.mp hy' with hy' | hy'
  ·exact hy y hy'
  ·simp at hy'; subst hy'
   lia
 rintro zs L ⟨v7,ws,rfl,rfl,hwl,hw,l7⟩
 simp at hwl
 simp
 refine ⟨by simp [kvK]; lia,fun k hk=>?_,fun ks2 hks ho=>?_⟩
 ·obtain ⟨c,_,rfl⟩:=List.mem_map.mp hk
  simp [keyH]
 obtain ⟨cs,hcp,rfl⟩:=a3f hks ps rfl
 rw [List.pairwise_map] at ho
 have hcl:=hcp.length_eq
 refine ⟨by simp; lia,?_⟩
 have km:List.map b8t (List.map keyH cs)=cs.map fun c=>FV.tup [.int c.1,.int c.2.1]:=by rw [List.map_map]; rfl
 rw [km]
 refine a0t (f:=fun c:Chg=>FV.tup [.int c.1,.int c.2.1]) (g:=a2p) cs [] (fun c hc K k=>?_) ?_
 ·simp [a2p,big]
  have g:=c5j hd (hcp.mem_iff.mp hc)
  simp only [keyH] at g
  rw [g]
  simpa [a2p,big] using k
 rw [List.nil_append]
 simp
 have hk2:(kvK cs).Nodup:=(hcp.map keyH).nodup_iff.mpr hd
 refine q ws cs v7 ⟨by lia,hw,fun c hc=>?_,by lia,b2o hk2⟩ (c3l hk2 ho) hwl (l7.mono (by simp; lia))
 have:=hp' c (hcp.mem_iff.mp hc)
 lia
theorem d1b (d:Nat) {n:Int} {v:FV} {Q:FV×FV→Prop} (hs:Lf n v) (h0:0≤n) (hn:n < 9000) (q:∀ (ws:List Int) (cs:List Chg) v',GsB 1000000100 ws cs→Ris cs→Lf (n + 710) v'→Q (a3t ws cs,v')):callW tb (d + 6) 19 [v,.int 12] Q:=by
 refine a0j (fd:=d6r) rfl rfl ?_
 simp [d6r,d8d,big]
 refine c0j _ hs h0 (by lia) fun m v1 hm l1=>?_
 simp
 refine a0h _ l1 (by lia) (by lia) (by lia) fun u v2 u0 u1 l2=>?_
 simp
 have ev:callW tb (d + 5) 17 [v2,.int m] fun z=>Q (z.1,z.2):=c5q _ l2 (by lia) (by lia) hm fun ws cs v' g hr _ _ l=>q ws cs v' g hr (l.mono (by lia))
 have st:callW tb (d + 5) 16 [v2,.int m] fun z=>Q (z.1,z.2):=a9l _ l2 (by lia) (by lia) hm fun ws cs v' g hr _ l=>q ws cs v' g hr (l.mono (by lia))
 refine ite2 (fun h1=>?_) (fun h1=>?_)
 ·refine ite2 (fun h2=>?_) (fun h2=>?_)
  ·exact c1d _ l2 (by lia) (by lia) hm h2 fun ws cs v' g hr _ l=>q ws cs v' g hr (l.mono (by lia))
  ·exact ite2 (fun _=>ev) (fun _=>st)
 ·exact ite2 (fun _=>ev) (fun _=>st)
noncomputable def a6t (l:List Int) (c:Chg):List Int:=l.set c.2.1 (if l.getD c.1 0 + c.2.2 < l.getD c.2.1 0 then l.getD c.1 0 + c.2.2 else l.getD c.2.1 0)
noncomputable def b0s (cs:List Chg) (l:List Int):List Int:=cs.foldl a6t l
noncomputable def a3e (cs:List Chg) (ws:List Int):Nat→List Int
 | 0=>ws
 | k + 1=>b0s cs (a3e cs ws k)
structure Stk (n:Nat) (ws:List Int) (cs:List Chg):Prop where
 len:ws.length=n
 pos:∀ w∈ws,1≤w
 rng:∀ c∈cs,c.1 < n∧c.2.1 < n∧1≤c.2.2
 ris:cs.Pairwise fun c d=>c.1≤d.1
theorem a8b (l:List Int) (c:Chg):(a6t l c).length=l.length:=by simp [a6t]
theorem b1w (cs:List Chg):∀ l:List Int,(b0s cs l).length=l.length:=by
 induction cs with
 | nil=>intro l; rfl
 | cons c cs ih=>intro l; show (b0s cs (a6t l c)).length=_; rw [ih,a8b]
theorem a3l (cs:List Chg) (ws:List Int):∀ k,(a3e cs ws k).length=ws.length
 | 0=>rfl
 | k + 1=>by rw [a3e,b1w,a3l cs ws k]
theorem a4p (l:List Int) (i j:Nat) (v:Int):(l.set i v).getD j 0=if i=j∧i < l.length then v else l.getD j 0:=by
 simp only [List.getD_eq_getElem?_getD,List.getElem?_set]
 by_cases h:i=j
 ·subst h
  by_cases h2:i < l.length
  ·simp [h2]
  ·simp [h2,List.getElem?_eq_none (by lia:l.length≤i)]
 ·simp [h]
theorem a8c (l:List Int) (c:Chg) (b:Nat):(a6t l c).getD b 0≤l.getD b 0:=by
 unfold a6t
 rw [a4p]
 split
 ·rename_i h; obtain ⟨h,_⟩:=h; subst h; split <;> lia
 ·lia
theorem c3p (l:List Int) (c:Chg) (h:c.2.1 < l.length):(a6t l c).getD c.2.1 0≤l.getD c.1 0 + c.2.2:=by
 unfold a6t
 rw [a4p,if_pos ⟨rfl,h⟩]
 split <;> lia
theorem b5m (cs:List Chg):∀ (l:List Int) (b:Nat),(b0s cs l).getD b 0≤l.getD b 0:=by
 induction cs with
 | nil=>intro l b; exact Int.le_refl _
 | cons c cs ih=>intro l b; exact Int.le_trans (ih (a6t l c) b) (a8c l c b)
theorem c3n (cs:List Chg):∀ (l:List Int) (c:Chg),c∈cs→c.2.1 < l.length→(b0s cs l).getD c.2.1 0≤l.getD c.1 0 + c.2.2:=by
 induction cs with
 | nil=>intro l c h; cases h
 | cons d cs ih =>
  intro l c h hl
  rcases List.mem_cons.mp h with e | h
  ·subst e
   exact Int.le_trans (b5m cs (a6t l c) _) (c3p l c hl)
  ·have:=ih (a6t l d) c h (by rw [a8b]; exact hl)
   have h2:=a8c l d c.1
   show (b0s cs (a6t l d)).getD c.2.1 0≤_
   lia
theorem a9d (cs:List Chg) (ws:List Int) (b:Nat):∀ j k,(a3e cs ws (j + k)).getD b 0≤(a3e cs ws j).getD b 0
 | j,0=>Int.le_refl _
 | j,k + 1=>Int.le_trans (b5m cs _ b) (a9d cs ws b j k)
inductive Walk (n:Nat) (ws:List Int) (cs:List Chg):Nat→Nat→Int→Prop where
 | whole {b}:b < n→Walk n ws cs 0 b (ws.getD b 0)
 | step {k v} {c:Chg}:Walk n ws cs k c.1 v→c∈cs→Walk n ws cs (k + 1) c.2.1 (v + c.2.2)
section
variable {n:Nat} {ws:List Int} {cs:List Chg}
theorem Walk.le (S:Stk n ws cs) {k b v} (h:Walk n ws cs k b v):∀ j,k≤j→(a3e cs ws j).getD b 0≤v:=by
 induction h with
 | @whole b hb=>intro j _; have:=a9d cs ws b 0 j; rw [Nat.zero_add] at this; exact this
 | @step k v c _ hc ih =>
  intro j hj
  obtain ⟨j',rfl⟩:∃ j',j=j' + 1:=⟨j - 1,by lia⟩
  have h1:=ih j' (by lia)
  have h2:=c3n cs (a3e cs ws j') c hc (by rw [a3l,S.len]; exact (S.rng c hc).2.1)
  show (b0s cs (a3e cs ws j')).getD c.2.1 0≤v + c.2.2
  lia
noncomputable def Sup (n:Nat) (ws:List Int) (cs:List Chg) (l:List Int):Prop:=l.length=n∧(∀ b,b < n→1≤l.getD b 0)∧∀ b,b < n→l.getD b 0=ws.getD b 0 ∨ ∃ c∈cs,c.2.1=b∧l.getD c.1 0 + c.2.2≤l.getD b 0
theorem b9e (S:Stk n ws cs) {l:List Int} {c:Chg} (hc:c∈cs) (h:Sup n ws cs l):Sup n ws cs (a6t l c):=by
 obtain ⟨h0,h1,h2⟩:=h
 obtain ⟨ca,cb,cp⟩:=S.rng c hc
 have pa:=h1 _ ca
 refine ⟨by rw [a8b,h0],fun b hb=>?_,fun b hb=>?_⟩
 ·unfold a6t
  rw [a4p]
  split
  ·rename_i e; obtain ⟨e,_⟩:=e; subst e; have:=h1 _ hb; split <;> lia
  ·exact h1 b hb
 ·by_cases hup:c.2.1=b∧l.getD c.1 0 + c.2.2 < l.getD b 0
  ·obtain ⟨e,hlt⟩:=hup
   right
   refine ⟨c,hc,e,?_⟩
   have hle:=a8c l c c.1
   have:(a6t l c).getD b 0=l.getD c.1 0 + c.2.2:=by
    unfold a6t
    rw [a4p,if_pos ⟨e,by rw [h0]; exact cb⟩,if_pos (by rw [e]; exact hlt)]
   lia
  ·have hsame:(a6t l c).getD b 0=l.getD b 0:=by
    unfold a6t
    rw [a4p]
    split
    ·rename_i e; obtain ⟨e,_⟩:=e
     subst e
     rw [if_neg (fun z=>hup ⟨rfl,z⟩)]
    ·rfl
   rw [hsame]
   rcases h2 b hb with h | ⟨d,hd,e,h⟩
   ·exact .inl h
   ·refine .inr ⟨d,hd,e,?_⟩
    have:=a8c l c d.1
    lia
theorem b1q (S:Stk n ws cs):∀ (ds:List Chg) {l:List Int},(∀ d∈ds,d∈cs)→Sup n ws cs l→Sup n ws cs (b0s ds l)
 | [],l,_,h=>h
 | d :: ds,l,hd,h=>b1q S ds (fun x hx=>hd x (List.mem_cons_of_mem _ hx)) (b9e S (hd d List.mem_cons_self) h)
theorem b1p (S:Stk n ws cs):∀ k,Sup n ws cs (a3e cs ws k)
 | 0=>⟨S.len,fun b hb=>by
   have hb':b < ws.length:=by rw [S.len]; exact hb
   have:=S.pos ws[b] (List.getElem_mem hb')
   show 1≤ws.getD b 0
   rw [List.getD_eq_getElem?_getD,List.getElem?_eq_getElem hb']
   exact this,fun b _=>.inl rfl⟩
 | k + 1=>b1q S cs (fun _ h=>h) (b1p S k)
theorem a9w {α:Type} (p q:α→Bool) (h:∀ x,p x=true→q x=true):∀ (xs:List α) (y:α),y∈xs→q y=true→p y=false→xs.countP p < xs.countP q:=by
 intro xs
 induction xs with
 | nil=>intro y hy; cases hy
 | cons x xs ih =>
  intro y hy hq hp
  have hle:xs.countP p≤xs.countP q:=List.countP_mono_left (fun z _=>h z)
  rcases List.mem_cons.mp hy with e | hy
  ·subst e
   simp only [List.countP_cons,hq,hp]
   simp; lia
  ·have:=ih y hy hq hp
   simp only [List.countP_cons]
   have hx:(if p x=true then 1 else 0)≤(if q x=true then 1 else 0):=by
    by_cases hpx:p x=true
    ·simp [hpx,h x hpx]
    ·simp [hpx]
   lia
noncomputable def b9n (n:Nat) (l:List Int) (b:Nat):Nat:=(List.range n).countP fun x=>decide (l.getD x 0 < l.getD b 0)
theorem c3q {l:List Int} {b:Nat} (hb:b < n):b9n n l b < n:=by
 have:b9n n l b < (List.range n).countP (fun _=>true):=a9w _ _ (fun _ _=>rfl) _ b (List.mem_range.mpr hb) rfl (by simp)
 simpa using this
theorem c2v (S:Stk n ws cs) {l:List Int} (h:Sup n ws cs l):∀ (r b:Nat),b < n→b9n n l b≤r→∃ k v,k≤b9n n l b∧v≤l.getD b 0∧Walk n ws cs k b v:=by
 intro r
 induction r with
 | zero =>
  intro b hb hr
  rcases h.2.2 b hb with e | ⟨c,hc,e,hle⟩
  ·exact ⟨0,_,Nat.zero_le _,by rw [e]; exact Int.le_refl _,.whole hb⟩
  ·obtain ⟨ca,cb,cp⟩:=S.rng c hc
   have:0 < b9n n l b:=by
    unfold b9n
    rw [List.countP_pos_iff]
    exact ⟨c.1,List.mem_range.mpr ca,by simp only [decide_eq_true_eq]; lia⟩
   lia
 | succ r ih =>
  intro b hb hr
  rcases h.2.2 b hb with e | ⟨c,hc,e,hle⟩
  ·exact ⟨0,_,Nat.zero_le _,by rw [e]; exact Int.le_refl _,.whole hb⟩
  ·obtain ⟨ca,cb,cp⟩:=S.rng c hc
   have hlt:b9n n l c.1 < b9n n l b:=by
    unfold b9n
    refine a9w _ _ (fun x hx=>?_) _ c.1 (List.mem_range.mpr ca) ?_ ?_
    ·simp only [decide_eq_true_eq] at hx ⊢; lia
    ·simp only [decide_eq_true_eq]; lia
    ·simp
   obtain ⟨k,v,hk,hv,hw⟩:=ih c.1 ca (by lia)
   subst e
   exact ⟨k + 1,v + c.2.2,by lia,by lia,.step hw hc⟩
theorem fixed (S:Stk n ws cs) {c:Chg} (hc:c∈cs):(a3e cs ws n).getD c.2.1 0≤(a3e cs ws n).getD c.1 0 + c.2.2:=by
 obtain ⟨ca,cb,cp⟩:=S.rng c hc
 obtain ⟨k,v,hk,hv,hw⟩:=c2v S (b1p S n) _ c.1 ca (Nat.le_refl _)
 have h1:=c3q (l:=a3e cs ws n) ca
 have:=(Walk.step hw hc).le S n (by lia)
 lia
end
noncomputable def c5a (l:List Int) (b:Nat) (c:Chg):Bool:=decide (c.2.1=b∧l.getD c.1 0 + c.2.2=l.getD b 0)
noncomputable def b9j (o:Option Nat×Int) (c:Chg):Option Nat×Int:=if c.2.2 < o.2 then (some c.1,c.2.2) else o
noncomputable def sel (w:Int) (l:List Int) (b:Nat) (cs:List Chg):Option Nat×Int:=(cs.filter (c5a l b)).foldl b9j (none,w)
theorem c1z (d:Nat) {ws:List Int} {cs:List Chg} (h:GsB 1000000100 ws cs) {Q:FV×FV→Prop} (q:Q (.tup ((a3e cs ws ws.length).map .int),.non)):callW tb (d + 1) 9 [a3t ws cs] Q:=by
 have hw:=h.n
 have hc:=h.l
 refine a0j (fd:=fd9) rfl rfl ?_
 simp [fd9,bd9,a3t]
 refine ⟨a0l (by lia) (by lia),?_⟩
 refine a1e (I:=fun k L=>∃ y1 y2 y3 y4,L=[some (FV.tup [FV.tup (List.map FV.int ws),FV.tup (List.map a2p cs)]),some (FV.tup (List.map FV.int ws)),some (FV.tup (List.map a2p cs)),some (FV.lst ((a3e cs ws k).map .int)),y1,y2,y3,y4]) ws.length 0 _ ⟨_,_,_,_,rfl⟩ ?_ ?_
 ·rintro k L K - hk ⟨y1,y2,y3,y4,rfl⟩ kk
  simp
  refine a4s (f:=a2p) (I:=fun ds L=>∃ y2 y3 y4,L=[some (FV.tup [FV.tup (List.map FV.int ws),FV.tup (List.map a2p cs)]),some (FV.tup (List.map FV.int ws)),some (FV.tup (List.map a2p cs)),some (FV.lst ((b0s ds (a3e cs ws k)).map .int)),some (.int k),y2,y3,y4]) cs cs [] _ rfl ⟨_,_,_,rfl⟩ ?_ ?_
  ·rintro ds c r L K e ⟨y2,y3,y4,rfl⟩ kk
   have hc1:=h.c c (by rw [e]; simp)
   have hl:(b0s ds (a3e cs ws k)).length=ws.length:=by rw [b1w,a3l]
   have e1:b0s (ds++[c]) (a3e cs ws k)=a6t (b0s ds (a3e cs ws k)) c:=by simp [b0s]
   generalize b0s ds (a3e cs ws k)=ns at hl e1
   simp [a2p,big]
   rw [a2g (by lia),a2g (by lia)]
   simp
   rw [b2p rfl (by lia),← List.map_set]
   exact kk _ ⟨_,_,_,by rw [e1]; rfl⟩
  ·rintro L ⟨y2,y3,y4,rfl⟩
   exact kk _ ⟨_,_,_,_,rfl⟩
 ·rintro L ⟨y1,y2,y3,y4,rfl⟩
  simpa using q
noncomputable def b2m (n:Nat) (ws l:List Int) (ds:List Chg):List (Option Nat):=(List.range n).map fun b=>(sel (ws.getD b 0) l b ds).1
noncomputable def b0m (n:Nat) (ws l:List Int) (ds:List Chg):List Int:=(List.range n).map fun b=>(sel (ws.getD b 0) l b ds).2
theorem a8a (w:Int) (l:List Int) (b:Nat) (ds:List Chg) (c:Chg):sel w l b (ds++[c])=if c5a l b c=true then b9j (sel w l b ds) c else sel w l b ds:=by
 unfold sel
 rw [List.filter_append]
 by_cases h:c5a l b c=true
 ·rw [List.filter_cons_of_pos h,if_pos h]; simp
 ·rw [List.filter_cons_of_neg h,if_neg h]; simp
theorem a4n {α:Type} {n b:Nat} {f g:Nat→α} (hb:b < n) (h:∀ i,i≠b→g i=f i):(List.range n).map g=((List.range n).map f).set b (g b):=by
 apply List.ext_getElem
 ·simp
 ·intro i h1 h2
  simp only [List.getElem_map,List.getElem_range,List.getElem_set]
  by_cases hi:b=i
  ·subst hi; simp
  ·simp [hi,h i (fun z=>hi z.symm)]
theorem a3s {α:Type} {n:Nat} {f g:Nat→α} (h:∀ i,g i=f i):(List.range n).map g=(List.range n).map f:=by
 congr 1; funext i; exact h i
theorem b2l {n:Nat} {ws l:List Int} {ds:List Chg}:(b2m n ws l ds).length=n:=by simp [b2m]
theorem b9c {n:Nat} {ws l:List Int} {ds:List Chg}:(b0m n ws l ds).length=n:=by simp [b0m]
theorem b9d {n:Nat} {ws l:List Int} {ds:List Chg} {b:Nat} (h:b < n):(b0m n ws l ds).getD b 0=(sel (ws.getD b 0) l b ds).2:=by simp [b0m,h]
theorem c0k {n:Nat} {ws l:List Int} {ds:List Chg} {c:Chg} (hb:c.2.1 < n) :
  (l.getD c.1 0 + c.2.2=l.getD c.2.1 0∧c.2.2 < (b0m n ws l ds).getD c.2.1 0→b2m n ws l (ds++[c])=(b2m n ws l ds).set c.2.1 (some c.1)∧b0m n ws l (ds++[c])=(b0m n ws l ds).set c.2.1 c.2.2) ∧
  (¬ (l.getD c.1 0 + c.2.2=l.getD c.2.1 0∧c.2.2 < (b0m n ws l ds).getD c.2.1 0)→b2m n ws l (ds++[c])=b2m n ws l ds∧b0m n ws l (ds++[c])=b0m n ws l ds):=by
 have other:∀ i,i≠c.2.1→∀ w,sel w l i (ds++[c])=sel w l i ds:=fun i hi w=>by
  rw [a8a,if_neg]
  simp only [c5a,decide_eq_true_eq]
  exact fun z=>hi z.1.symm
 rw [b9d hb]
 constructor
 ·rintro ⟨h1,h2⟩
  have e:∀ w,w=ws.getD c.2.1 0→sel w l c.2.1 (ds++[c])=(some c.1,c.2.2):=fun w hw=>by
   subst hw
   rw [a8a,if_pos (by simp [c5a]; simpa using h1)]
   simp only [b9j]
   rw [if_pos h2]
  constructor
  ·unfold b2m
   rw [a4n (f:=fun b=>(sel (ws.getD b 0) l b ds).1) hb (fun i hi=>by rw [other i hi]),e _ rfl]
  ·unfold b0m
   rw [a4n (f:=fun b=>(sel (ws.getD b 0) l b ds).2) hb (fun i hi=>by rw [other i hi]),e _ rfl]
 ·intro h
  have e:∀ i,sel (ws.getD i 0) l i (ds++[c])=sel (ws.getD i 0) l i ds:=fun i=>by
   by_cases hi:i=c.2.1
   ·subst hi
    rw [a8a]
    split
    ·rename_i hl
     simp only [c5a,decide_eq_true_eq,true_and] at hl
     simp only [b9j]
     rw [if_neg (fun z=>h ⟨hl,z⟩)]
    ·rfl
   ·exact other i hi _
  exact ⟨a3s fun i=>by rw [e i],a3s fun i=>by rw [e i]⟩
theorem c5c {n:Nat} {ws l:List Int}:b2m n ws l []=List.replicate n none:=by
 unfold b2m sel
 simp only [List.filter_nil,List.foldl_nil]
 apply List.ext_getElem <;> simp
theorem c3b {n:Nat} {ws l:List Int} (h:ws.length=n):b0m n ws l []=ws:=by
 unfold b0m sel
 simp only [List.filter_nil,List.foldl_nil]
 apply List.ext_getElem
 ·simp [h]
 ·intro i h1 h2
  simp [h2]
noncomputable def soL (ws:List Int) (cs:List Chg):List (Option Nat):=b2m ws.length ws (a3e cs ws ws.length) cs
theorem b9u (d:Nat) {ws:List Int} {cs:List Chg} (h:GsB 1000000100 ws cs) {Q:FV×FV→Prop} (q:Q (.tup ((soL ws cs).map a2i),.non)):callW tb (d + 2) 10 [a3t ws cs] Q:=by
 have hw:=h.n
 have hc:=h.l
 refine a0j (fd:=d6z) rfl rfl ?_
 simp [d6z,d8l]
 simp [a3t]
 rw [show (FV.tup [FV.tup (List.map FV.int ws),FV.tup (List.map a2p cs)])=a3t ws cs from rfl]
 refine c1z d h ?_
 have hL:(a3e cs ws ws.length).length=ws.length:=by rw [a3l]
 simp [big]
 refine ⟨⟨by lia,by lia⟩,?_⟩
 rw [show List.replicate ws.length FV.non=(b2m ws.length ws (a3e cs ws ws.length) []).map a2i by rw [c5c,List.map_replicate]; rfl]
 refine a4s (f:=a2p) (I:=fun ds L=>∃ x y z,L=[some (a3t ws cs),some (FV.tup (List.map FV.int ws)),some (FV.tup (List.map a2p cs)),some (FV.tup (List.map FV.int (a3e cs ws ws.length))),some (FV.lst ((b2m ws.length ws (a3e cs ws ws.length) ds).map a2i)),some (FV.lst ((b0m ws.length ws (a3e cs ws ws.length) ds).map .int)),x,y,z]) cs cs [] _ rfl ⟨_,_,_,by rw [c3b rfl]⟩ ?_ ?_
 ·rintro ds c r L K e ⟨x,y,z,rfl⟩ kk
  have hc1:=h.c c (by rw [e]; simp)
  have hs:(b0m ws.length ws (a3e cs ws ws.length) ds).length=ws.length:=b9c
  have hl:(b2m ws.length ws (a3e cs ws ws.length) ds).length=ws.length:=b2l
  obtain ⟨st1,st2⟩:=c0k (ws:=ws) (l:=a3e cs ws ws.length) (ds:=ds) hc1.2.1
  simp [a2p]
  rw [a2g (by lia)]
  simp
  rw [a2g (by lia)]
  simp
  refine ite2 (fun h1=>?_) (fun h1=>?_)
  ·rw [a2g (by lia)]
   simp
   refine ite2 (fun h2=>?_) (fun h2=>?_)
   ·obtain ⟨e1,e2⟩:=st1 ⟨by simpa using h1,by simpa using h2⟩
    rw [hl,b2p rfl (by lia),hs,b2p rfl (by lia)]
    rw [e1,e2] at kk
    refine kk _ ⟨some (.int c.1),some (.int c.2.1),some (.int c.2.2),?_⟩
    simp [List.map_set,a2i]
   ·obtain ⟨e1,e2⟩:=st2 (fun z=>h2 (by simpa using z.2))
    exact kk _ ⟨_,_,_,by rw [e1,e2]⟩
  ·obtain ⟨e1,e2⟩:=st2 (fun z=>h1 (by simpa using z.1))
   exact kk _ ⟨_,_,_,by rw [e1,e2]⟩
 ·rintro L ⟨x,y,z,rfl⟩
  rw [soL] at q
  simpa using q
noncomputable def tInt (t:List Int):FV:=.tup (t.map .int)
theorem b9i {n:Nat} {ws:List Int} {cs:List Chg} {l:List Int} {w:Int} {b a:Nat} (h:(sel w l b cs).1=some a):∃ c∈cs,c.1=a∧c.2.1=b∧l.getD a 0 + c.2.2=l.getD b 0∧(sel w l b cs).2=c.2.2:=by
 have gen:∀ (fs:List Chg) (o:Option Nat×Int),(fs.foldl b9j o).1=some a→(fs.foldl b9j o=o∧o.1=some a) ∨ ∃ c∈fs,c.1=a∧(fs.foldl b9j o).2=c.2.2:=by
  intro fs
  induction fs with
  | nil=>intro o h; exact .inl ⟨rfl,h⟩
  | cons f fs ih =>
   intro o h
   rw [List.foldl_cons] at h ⊢
   rcases ih (b9j o f) h with ⟨h1,h2⟩ | ⟨c,hc,e⟩
   ·rw [h1]
    unfold b9j at h2 ⊢
    split at h2
    ·rename_i hh
     rw [if_pos hh]
     right; exact ⟨f,List.mem_cons_self,by simpa using h2,rfl⟩
    ·rename_i hh
     rw [if_neg hh]
     exact .inl ⟨rfl,h2⟩
   ·exact .inr ⟨c,List.mem_cons_of_mem _ hc,e⟩
 unfold sel at h ⊢
 rcases gen _ _ h with ⟨_,h⟩ | ⟨c,hc,e,e2⟩
 ·cases h
 ·obtain ⟨h1,h2⟩:=List.mem_filter.mp hc
  simp only [c5a,decide_eq_true_eq] at h2
  subst e
  exact ⟨c,h1,rfl,h2.1,h2.2,e2⟩
theorem b5h (ws:List Int) (cs:List Chg):(soL ws cs).length=ws.length:=b2l
theorem c7d {ws:List Int} {cs:List Chg} {b:Nat} (hb:b < ws.length):(soL ws cs).getD b none=(sel (ws.getD b 0) (a3e cs ws ws.length) b cs).1:=by simp [soL,b2m,hb]
theorem c3h (ws:List Int) (cs:List Chg):Rst cs (soL ws cs):=by
 intro m a e
 have hm:m < ws.length:=by have:=(List.getElem?_eq_some_iff.mp e).1; rwa [b5h] at this
 have e2:(soL ws cs).getD m none=some a:=by rw [List.getD,e]; rfl
 rw [c7d hm] at e2
 obtain ⟨c,hc,h1,h2,-⟩:=b9i (n:=ws.length) (ws:=ws) e2
 exact List.mem_map.mpr ⟨c,hc,by simp [keyH,h1,h2]⟩
theorem c3o {ns:List Int} {c:Chg} (hc:1≤c.2.2) (h1:c.1 < ns.length) (h2:c.2.1 < ns.length) (h:∀ x∈ns,1≤x∧x < 1000000100):∀ x∈a6t ns c,1≤x∧x < 1000000100:=by
 intro x hx
 rcases List.mem_or_eq_of_mem_set hx with hx | rfl
 ·exact h x hx
 ·have a1:=h (ns.getD c.2.1 0) (by simp [List.getD,h2])
  have a2:=h (ns.getD c.1 0) (by simp [List.getD,h1])
  lia
theorem b5n {N:Nat}:∀ (cs:List Chg) (ns:List Int),(∀ c∈cs,c.1 < N∧c.2.1 < N∧1≤c.2.2)→ns.length=N→(∀ x∈ns,1≤x∧x < 1000000100)→∀ x∈b0s cs ns,1≤x∧x < 1000000100
 | [],ns,_,_,h=>h
 | c :: r,ns,hc,hl,h=>by
  have h1:=hc c (by simp)
  refine b5n r (a6t ns c) (fun c' h'=>hc c' (List.mem_cons_of_mem _ h')) (by simp [a6t,hl]) (c3o h1.2.2 (by lia) (by lia) h)
theorem b5l {ws:List Int} {cs:List Chg} (h:GsB 1000000100 ws cs):∀ k,∀ x∈a3e cs ws k,1≤x∧x < 1000000100
 | 0=>h.w
 | k + 1=>b5n (N:=ws.length) cs _ (fun c hc=>⟨(h.c c hc).1,(h.c c hc).2.1,(h.c c hc).2.2.2.1⟩) (a3l cs ws k) (b5l h k)
noncomputable def Na:Nat→Int | 0=>2 | k + 1=>4 + 3 * Na k
noncomputable def Wa:Nat→Nat | 0=>100 | k + 1=>3 * (Wa k + 1) + 100
theorem c2q:∀ k,2≤Na k
 | 0=>by simp [Na]
 | k + 1=>by have:=c2q k; simp only [Na]; lia
noncomputable def someD:List D:=[.non,.bl true,.bl false,.int 0,.int 1,.int (-1),.int 2,.int 7,.str "",.str "keep",.str "put",.tup [],.lst [],.tup [.int 0],.lst [.int 0],.tup [.int 0,.int 1],.tup [.non],.tup [.str "keep",.int 0,.int 1]]
theorem c3g:∀ x∈someD.map dF,Vl 100 1 x:=Vl.of someD (by nofun)
theorem b5g {v':FV} {j:Int} {Q:FV×FV→Prop} (h0:0≤j) (h1:j < 18) (q:∀ x,Vl 100 1 x→Q (x,v')) :
  wp (atF [FV.non,FV.bl true,FV.bl false,FV.int 0,FV.int 1,FV.int (-1),FV.int 2,FV.int 7,FV.str "",FV.str "keep",FV.str "put",FV.tup [],FV.lst [],FV.tup [FV.int 0],FV.lst [FV.int 0],FV.tup [FV.int 0,FV.int 1],FV.tup [FV.non],FV.tup [FV.str "keep",FV.int 0,FV.int 1]] j) fun v=>Q (v,v') :=
 a4x (xs:=someD.map dF) h0 h1 fun x hx=>q x (c3g x hx)
theorem b8p (d:Nat):∀ (lv:Nat) {n:Int} {v:FV} {Q:FV×FV→Prop},Lf n v→0≤n→n + Na lv < 10000→(∀ x v',Vl (Wa lv) (lv + 2) x→Lf (n + Na lv) v'→Q (x,v'))→callW tb (d + lv + 3) 20 [v,.int lv] Q
 | 0,n,v,Q,hs,h0,hn,q=>by
  refine a0j (fd:=d0h) rfl rfl ?_
  simp [d0h,d2m,big]
  simp only [Na] at hn
  refine a0h d hs (by lia) (by decide) (by decide) fun u v1 u0 u1 l1=>?_
  simp only [in_i]
  exact b5g u0 u1 fun x hx=>q x v1 (hx.mono (by decide) (by lia)) (l1.mono (by simp only [Na]; lia))
 | lv + 1,n,v,Q,hs,h0,hn,q=>by
  refine a0j (fd:=d0h) rfl rfl ?_
  have hz:¬ ((lv:Int) + 1=0):=by lia
  simp [d0h,d2m,big,hz]
  have hp:=c2q lv
  simp only [Na] at hn
  refine a0h (d + lv + 1) hs (by lia) (by decide) (by decide) fun u v1 u0 u1 l1=>?_
  simp
  refine ite2 (fun hu=>?_) (fun hu=>?_)
  ·refine a0h (d + lv + 1) l1 (by lia) (by decide) (by decide) fun u v2 u0 u1 l2=>?_
   simp only [in_i]
   exact b5g u0 u1 fun x hx=>q x v2 (hx.mono (by simp only [Wa]; lia) (by lia)) (l2.mono (by simp only [Na]; lia))
  ·refine a0h (d + lv + 1) l1 (by lia) (by decide) (by decide) fun u v2 u0 u1 l2=>?_
   simp
   refine ⟨a0l u0 (by lia),?_⟩
   rw [a2j]
   refine ⟨by simp; lia,?_⟩
   refine a3j (f:=fun i:Nat=>FV.int i) (I:=fun ds acc L=>∃ v',L=[some v',some (.int ((lv:Int) + 1)),some (.lst (someD.map dF)),none]∧Lf (n + 2 + Na lv * ds.length) v'∧acc.length=ds.length∧∀ x∈acc,Vl (Wa lv) (lv + 2) x) (List.range u.toNat) (List.range u.toNat) [] [] _ rfl ⟨v2,rfl,by simpa [Int.add_assoc] using l2,rfl,by simp⟩ ?_ ?_
   ·rintro ds x r acc L K e ⟨v',rfl,l3,hl,hv⟩ k
    have hd:ds.length≤3:=by have:=congrArg List.length e; simp at this; lia
    have hd':Na lv * ds.length + Na lv≤3 * Na lv:=by
     have:ds.length + 1≤3:=by have:=congrArg List.length e; simp at this; lia
     have:Na lv * (ds.length + 1:Nat)≤Na lv * (3:Nat):=Int.mul_le_mul_of_nonneg_left (by exact_mod_cast this) (by lia)
     push_cast at this; rw [Int.mul_add] at this; lia
    have hd0:0≤Na lv * ds.length:=Int.mul_nonneg (by lia) (by lia)
    simp
    refine b8p d lv l3 (by lia) (by lia) fun y v4 hy l4=>?_
    simp
    refine k _ _ ⟨v4,rfl,l4.mono (by simp [Int.mul_add]; lia),by simp [hl],?_⟩
    intro z hz
    simp at hz
    rcases hz with hz | hz
    ·exact hv z hz
    ·rw [hz]; exact hy
   ·rintro ys L ⟨v',rfl,l3,hl,hv⟩
    simp at hl hv
    rw [List.length_range] at l3
    have hu3:(u.toNat:Int)≤3:=by lia
    have hm:Na lv * (u.toNat:Int)≤Na lv * 3:=Int.mul_le_mul_of_nonneg_left hu3 (by lia)
    have hm0:0≤Na lv * (u.toNat:Int):=Int.mul_nonneg (by lia) (by lia)
    simp
    refine a0h (d + lv + 1) l3 (by lia) (by decide) (by decide) fun w v5 w0 w1 l5=>?_
    simp
    refine a4x w0 w1 ?_
    have hq:∀ x,Vl (Wa (lv + 1)) (lv + 1 + 2) x→Q (x,v5):=fun x hx=>q x v5 hx (l5.mono (by simp only [Na]; lia))
    intro x hx
    simp at hx
    rcases hx with rfl | rfl
    ·exact hq _ ((Vl.lst hv (show ys.length≤3 by lia)).mono (by simp only [Wa]; lia) (by lia))
    ·exact hq _ ((Vl.tup hv (show ys.length≤3 by lia)).mono (by simp only [Wa]; lia) (by lia))
theorem c4t (d:Nat) {n:Int} {v:FV} {Q:FV×FV→Prop} (hs:Lf n v) (h0:0≤n) (hn:n < 10000) (q:∀ x v',Vl 200 25 x→Lf (n + 2) v'→Q (x,v')):callW tb (d + 3) 21 [v] Q:=by
 refine a0j (fd:=d6q) rfl rfl ?_
 simp [d6q,d8c,big]
 refine a0h d hs (by lia) (by decide) (by decide) fun u v1 u0 u1 l1=>?_
 simp
 refine a4x u0 u1 ?_
 intro x hx
 have hx:Vl 100 1 x:=by
  refine Vl.of [.tup [.int 0,.int 1],.int 0,.non] (by nofun) x ?_
  simpa [dF,dFs] using hx
 refine a0h d l1 (by lia) (by decide) (by decide) fun w v2 w0 w1 l2=>?_
 simp
 refine ⟨a0l w0 (by lia),?_⟩
 refine a1e (I:=fun j L=>∃ x y,L=[some v2,some x,y]∧Vl (100 + 2 * j) (1 + j) x) w.toNat 0 _ ⟨_,_,rfl,hx⟩ ?_ ?_
 ·rintro j L K - hj ⟨x,y,rfl,hx⟩ k
  simp [big]
  refine a4x (Int.emod_nonneg _ (by lia)) (by have:=Int.emod_lt_of_pos (j:Int) (show (0:Int) < 2 by lia); simpa using this) ?_
  intro z hz
  simp at hz
  rcases hz with rfl | rfl
  ·exact k _ ⟨_,_,rfl,(Vl.lst (k:=100 + 2 * j) (p:=1 + j) (m:=1) (xs:=[x]) (by simpa using hx) (by simp)).mono (by lia) (by lia)⟩
  ·exact k _ ⟨_,_,rfl,(Vl.tup (k:=100 + 2 * j) (p:=1 + j) (m:=1) (xs:=[x]) (by simpa using hx) (by simp)).mono (by lia) (by lia)⟩
 ·rintro L ⟨x,y,rfl,hx⟩
  simp
  exact q _ _ (hx.mono (by lia) (by lia)) (l2.mono (by lia))
noncomputable def isI:D→Bool | .int _=>true | _=>false
noncomputable def c1k:D→Int | .int i=>i | _=>0
theorem b1a:∀ {ds:List D},ds.all isI=true→ds=(ds.map c1k).map .int
 | [],_=>rfl
 | x :: r,h=>by
  rw [List.all_cons,Bool.and_eq_true] at h
  cases x with
  | int i=>rw [List.map_cons,List.map_cons,← b1a h.2]; rfl
  | _=>exact absurd h.1 Bool.false_ne_true
theorem b1d (ns:List Int):(ns.map D.int).map dF=ns.map .int:=by rw [List.map_map]; rfl
noncomputable def dL:Option Nat→D
 | none=>.non
 | some a=>.int a
theorem dF_L (ls:List (Option Nat)):(ls.map dL).map dF=ls.map a2i:=by
 rw [List.map_map]
 apply List.map_congr_left
 intro o _
 cases o <;> rfl
theorem b3l (ds:List D):(ds.map isI).all id=ds.all isI:=by rw [List.all_map]; rfl
theorem c0h (d:Nat) (ds:List D) (hl:ds.length≤1000) {Q:FV×FV→Prop} (q:Q (.bl (ds.all isI),.non)):callW tb (d + 1) 23 [.tup (ds.map dF)] Q:=by
 refine a0j (fd:=d0g) rfl rfl ?_
 simp [d0g,d0z,big]
 refine ⟨by lia,?_⟩
 refine a0t (f:=dF) (g:=fun x=>.bl (isI x)) ds [] (fun x hx K k=>?_) ?_
 ·cases x <;> simpa [dF,isI] using k
 ·rw [List.nil_append]
  simp only [a1g,a2v,b3l]
  exact q
theorem c0i (d:Nat) (ds:List D) (hl:ds.length≤1000) {Q:FV×FV→Prop} (q:Q (.bl (ds.all isI),.non)):callW tb (d + 1) 23 [.lst (ds.map dF)] Q:=by
 refine a0j (fd:=d0g) rfl rfl ?_
 simp [d0g,d0z,big]
 refine ⟨by lia,?_⟩
 refine a0t (f:=dF) (g:=fun x=>.bl (isI x)) ds [] (fun x hx K k=>?_) ?_
 ·cases x <;> simpa [dF,isI] using k
 ·rw [List.nil_append]
  simp only [a1g,a2v,b3l]
  exact q
theorem c5p (d:Nat) {ws:List Int} {cs:List Chg} (h:Gs ws cs) (y:D) {Q:FV×FV→Prop} (q:Q (.bl (a8v ws.length cs (dF y)),.non)):callW tb (d + 3) 28 [a3t ws cs,dF y] Q:=by
 have hn:=h.n
 refine a0j (fd:=d2d) rfl rfl ?_
 cases y with
 | tup ds =>
  rw [dF,a2o] at q ⊢
  simp [d2d,d2j,a1z]
  refine ite2 (fun hl=>?_) (fun hl=>?_)
  ·have hl':ds.length=ws.length:=by lia
   refine ⟨by simp [big]; lia,?_⟩
   refine a3z (f:=dF) (g:=dF) (p:=fun x=>match x with | .non=>false | _=>true) ds [] (fun x hx K N y n'=>?_) ?_
   ·cases x <;> first | (simpa [dF] using n' rfl) | (simpa [dF] using y rfl) | (simp [dF]; exact y rfl)
   rw [List.nil_append]
   have hf:=List.length_filter_le (fun x:D=>match x with | .non=>false | _=>true) ds
   refine c0i _ _ (by lia) ?_
   simp
   by_cases ha:(ds.filter fun x:D=>match x with | .non=>false | _=>true).all isI=true
   ·have hk:∀ x∈ds,x=.non ∨ ∃ i,x=.int i:=fun x hx=>by
     have:=List.all_eq_true.mp ha x
     cases x with
     | non=>exact .inl rfl
     | int i=>exact .inr ⟨i,rfl⟩
     | _=>exact absurd (this (List.mem_filter.mpr ⟨hx,rfl⟩)) Bool.false_ne_true
    refine ite2 (fun _=>?_) (fun z=>absurd (by simpa [List.all_eq_true] using ha) z)
    refine c4w d h ds hl' hk ?_
    simp only [a8v,List.length_map,hl',decide_true,Bool.true_and] at q
    exact q
   ·have:a8v ws.length cs (.tup (ds.map dF))=false:=by
     simp only [List.all_eq_true,List.mem_filter] at ha
     rw [Classical.not_forall] at ha
     obtain ⟨x,ha⟩:=ha
     rw [Classical.not_imp] at ha
     obtain ⟨⟨hx,hp⟩,hi⟩:=ha
     have h0:x≠.non:=fun z=>by rw [z] at hp; cases hp
     have h1:∀ i,x≠.int i:=fun i z=>by rw [z] at hi; exact hi rfl
     obtain ⟨m,hm,rfl⟩:=List.mem_iff_getElem.mp hx
     have:=c4p (cs:=cs) (m:=m) h1 h0
     rw [Bool.eq_false_iff]
     intro hh
     simp only [a8v,Bool.and_eq_true] at hh
     have:=a8h hh.2.1 (m:=m) (by simpa using hm)
     rw [List.getElem_map] at this
     simp_all
    rw [this] at q
    exact ite2 (fun z=>absurd (by simpa [List.all_eq_true] using z) ha) (fun _=>q)
  ·have:a8v ws.length cs (.tup (ds.map dF))=false:=by simp only [a8v,List.length_map]; rw [decide_eq_false (by lia)]; rfl
   rw [this] at q; exact q
 | _ =>
  simp [d2d,d2j,dF,a8v] at q ⊢
  exact q
noncomputable def lsW:FV→List (Option Nat)
 | .tup xs=>xs.map toO
 | _=>[]
theorem b2k {ws:List Int} {cs:List Chg} {w:FV} (h:a8v ws.length cs w=true):w=.tup ((lsW w).map a2i)∧(lsW w).length=ws.length∧Rst cs (lsW w)∧b4r (lsW w)=true:=by
 cases w with
 | tup xs =>
  simp only [a8v,Bool.and_eq_true,decide_eq_true_eq] at h
  obtain ⟨h1,h2⟩:=a8g h.2.1
  exact ⟨by simp only [lsW]; rw [← h1],by simpa [lsW] using h.1,h2,h.2.2⟩
 | _=>simp [a8v] at h
noncomputable def shN (ws:List Int) (cs:List Chg) (ns:List Int) (w:FV):Bool :=
 decide (ns.length=ws.length) && ((ns.zip ws).all fun p=>decide (p.1≤p.2)) && (cs.all fun c=>decide (ns.getD c.2.1 0≤ns.getD c.1 0 + c.2.2)) && a8v ws.length cs w && decide ((List.range (lsW w).length).map (rdL ws cs (lsW w))=ns)
noncomputable def shD (ws:List Int) (cs:List Chg) (w:FV):D→Bool
 | .tup ds=>ds.all isI && shN ws cs (ds.map c1k) w
 | _=>false
theorem b2g (a b:Int):decide (b < a) = !decide (a≤b):=by rw [Bool.eq_iff_iff]; simp
theorem any_not {α:Type} {l:List α} {p:α→Bool}:true∈l.map (fun x=>!p x)↔¬ l.all p=true:=by
 simp [List.all_eq_true]
theorem b3b (xs ys:List Int) (R:Bool→Prop):wp (eqF (FV.tup (xs.map .int)) (.tup (ys.map .int))) R↔R (decide (xs=ys)):=by
 have h:∀ xs:List Int,FV.tup (xs.map .int)=dF (.tup (xs.map .int)):=fun xs=>by simp [dF,a2o,Function.comp_def]
 have hd:∀ xs:List Int,b3f (xs.map D.int)=0:=fun xs=>by induction xs with | nil=>rfl | cons x r ih=>simp [b3f,dep,ih]
 have ev:∀ xs ys:List Int,D.eqvs (xs.map D.int) (ys.map D.int)=decide (xs=ys):=by
  intro xs
  induction xs with
  | nil=>intro ys; cases ys <;> simp [D.eqvs]
  | cons x r ih =>
   intro ys
   cases ys with
   | nil=>simp [D.eqvs]
   | cons y s =>
    simp only [List.map_cons,D.eqvs,D.eqv,ih]
    rw [Bool.eq_iff_iff]; simp
 rw [h,h,d0i (by simp only [dep,hd]; lia) (by simp only [dep,hd]; lia),D.eqv,ev]; exact Iff.rfl
theorem noF {ds:List D}:ds.all isI=true↔¬ false∈ds.map isI:=by
 simp [List.all_eq_true]
theorem c7z (d:Nat) {ws:List Int} {cs:List Chg} (h:Gs ws cs) (x y:D) {Q:FV×FV→Prop} (q:Q (.bl (shD ws cs (dF y) x),.non)):callW tb (d + 5) 8 [a3t ws cs,dF x,dF y] Q:=by
 have hn:=h.n
 have hc:=h.l
 refine a0j (fd:=fd8) rfl rfl ?_
 have S:∀ R:List FV→Prop,wp (a7c (a3t ws cs)) R↔R [.tup (ws.map .int),.tup (cs.map a2p)]:=fun R=>Iff.rfl
 cases x with
 | tup ds =>
  simp [fd8,bd8,S,b0l]
  rw [dF,a2o]
  simp only [shD] at q
  by_cases hl:ds.length=ws.length
  rotate_left
  ·have:(ds.all isI && shN ws cs (ds.map c1k) (dF y))=false:=by simp [shN,hl]
   rw [this] at q
   refine ite2 (fun z=>absurd z hl) (fun _=>q)
  refine ite2 (fun _=>?_) (fun z=>absurd hl z)
  refine ⟨by simp [big]; lia,?_⟩
  refine a0t (f:=dF) (g:=fun x=>.bl (isI x)) ds [] (fun x hx K k=>?_) ?_
  ·simp [a3v]
   cases x <;> simpa [isI] using k
  rw [List.nil_append]
  simp [a1g,-List.mem_map]
  by_cases ha:ds.all isI=true
  rotate_left
  ·rw [Bool.eq_false_iff.mpr ha] at q
   exact ite2 (fun _=>by simpa using q) (fun z=>absurd (noF.mpr z) ha)
  refine ite2 (fun z=>absurd z (noF.mp ha)) (fun _=>?_)
  rw [ha] at q
  simp only [Bool.true_and] at q
  rw [b1a ha,b1d]
  rw [← List.length_map (f:=c1k)] at hl
  generalize ds.map c1k=ns at q hl
  clear ha
  rw [a2w]
  refine ⟨by simp [big]; lia,?_⟩
  refine a0t (f:=fun p:Int×Int=>FV.tup [.int p.1,.int p.2]) (g:=fun p=>.bl (!decide (p.1≤p.2))) (ns.zip ws) [] (fun p hp K k=>?_) ?_
  ·simp
   rw [b2g]; exact k
  rw [List.nil_append]
  simp [a1g]
  by_cases hA:((ns.zip ws).all fun p=>decide (p.1≤p.2))=true
  rotate_left
  ·have:shN ws cs ns (dF y)=false:=by simp only [shN,Bool.eq_false_iff.mpr hA]; simp
   rw [this] at q
   exact ite2 (fun _=>q) (fun z=>absurd (any_not.mpr hA) z)
  refine ite2 (fun z=>absurd hA (any_not.mp z)) (fun _=>?_)
  refine ⟨by simp [big]; lia,?_⟩
  refine a0t (f:=a2p) (g:=fun c=>.bl (!decide (ns.getD c.2.1 0≤ns.getD c.1 0 + c.2.2))) cs [] (fun c hc' K k=>?_) ?_
  ·have hc1:=h.c c hc'
   simp [a2p]
   rw [a2g (by lia)]
   simp
   rw [a2g (by lia)]
   simp
   rw [b2g]; simpa using k
  rw [List.nil_append,a1g,a2v]
  by_cases hB:(cs.all fun c=>decide (ns.getD c.2.1 0≤ns.getD c.1 0 + c.2.2))=true
  rotate_left
  ·have:shN ws cs ns (dF y)=false:=by simp only [shN,Bool.eq_false_iff.mpr hB]; simp
   rw [this] at q
   exact ite2 (fun _=>q) (fun z=>absurd (any_not.mpr hB) z)
  refine ite2 (fun z=>absurd hB (any_not.mp z)) (fun _=>?_)
  simp
  refine c9y _ h y ?_
  simp
  cases hy:a8v ws.length cs (dF y) with
  | false =>
   have:shN ws cs ns (dF y)=false:=by simp only [shN,hy]; simp
   rw [this] at q; simpa using q
  | true =>
   obtain ⟨y0,y1,y2,y3⟩:=b2k hy
   simp only [shN,hl,hA,hB,hy,decide_true,Bool.true_and] at q
   simp
   rw [y0]
   refine b5o _ h y2 y3 y1 ?_
   simp
   rw [← List.map_map,b3b]
   simpa using q
 | _ =>
  simp [fd8,bd8,S,b0l]
  exact q
theorem c9p (d:Nat) {ws:List Int} {cs:List Chg} (h:Gs ws cs) (x y:D) {Q:FV×FV→Prop} (q:Q (.bl (shD ws cs (dF y) x),.non)):callW tb (d + 5) 29 [a3t ws cs,dF x,dF y] Q:=by
 have hn:=h.n
 have hc:=h.l
 refine a0j (fd:=d2c) rfl rfl ?_
 cases x with
 | tup ds =>
  rw [dF,a2o]
  simp only [shD] at q
  simp [d2c,d2i,a1z]
  by_cases hl:ds.length=ws.length
  rotate_left
  ·have:(ds.all isI && shN ws cs (ds.map c1k) (dF y))=false:=by simp [shN,hl]
   rw [this] at q
   refine ite2 (fun z=>absurd z (by lia)) (fun _=>q)
  refine ite2 (fun _=>?_) (fun z=>absurd (by lia) z)
  refine c0h _ ds (by lia) ?_
  simp
  by_cases ha:ds.all isI=true
  rotate_left
  ·rw [Bool.eq_false_iff.mpr ha] at q
   exact ite2 (fun z=>absurd (by simpa [List.all_eq_true] using z) ha) (fun _=>by simpa using q)
  refine ite2 (fun _=>?_) (fun z=>absurd (by simpa [List.all_eq_true] using ha) z)
  rw [ha] at q
  simp only [Bool.true_and] at q
  rw [b1a ha,b1d]
  rw [← List.length_map (f:=c1k)] at hl
  generalize ds.map c1k=ns at q hl
  clear ha
  refine c5p _ h y ?_
  simp
  by_cases hy:a8v ws.length cs (dF y)=true
  rotate_left
  ·have:shN ws cs ns (dF y)=false:=by simp only [shN,Bool.eq_false_iff.mpr hy]; simp
   rw [this] at q
   exact ite2 (fun z=>absurd z hy) (fun _=>q)
  refine ite2 (fun _=>?_) (fun z=>absurd hy z)
  obtain ⟨y0,y1,y2,y3⟩:=b2k hy
  rw [a2w]
  refine ⟨by simp [big]; lia,?_⟩
  refine a0t (f:=fun p:Int×Int=>FV.tup [.int p.1,.int p.2]) (g:=fun p=>.bl (!decide (p.1≤p.2))) (ns.zip ws) [] (fun p hp K k=>?_) ?_
  ·simp
   rw [b2g]; exact k
  rw [List.nil_append,a1g,a2v]
  by_cases hA:((ns.zip ws).all fun p=>decide (p.1≤p.2))=true
  rotate_left
  ·have:shN ws cs ns (dF y)=false:=by simp only [shN,Bool.eq_false_iff.mpr hA]; simp
   rw [this] at q
   exact ite2 (fun _=>q) (fun z=>absurd (any_not.mpr hA) z)
  refine ite2 (fun z=>absurd hA (any_not.mp z)) (fun _=>?_)
  simp [a1z]
  refine ⟨by simp [big]; lia,?_⟩
  refine a0t (f:=a2p) (g:=fun c=>.bl (!decide (ns.getD c.2.1 0≤ns.getD c.1 0 + c.2.2))) cs [] (fun c hc' K k=>?_) ?_
  ·have hc1:=h.c c hc'
   simp [a2p]
   rw [a2g (by lia)]
   simp
   rw [a2g (by lia)]
   simp
   rw [b2g]; simpa using k
  rw [List.nil_append,a1g,a2v]
  by_cases hB:(cs.all fun c=>decide (ns.getD c.2.1 0≤ns.getD c.1 0 + c.2.2))=true
  rotate_left
  ·have:shN ws cs ns (dF y)=false:=by simp only [shN,Bool.eq_false_iff.mpr hB]; simp
   rw [this] at q
   exact ite2 (fun _=>q) (fun z=>absurd (any_not.mpr hB) z)
  refine ite2 (fun z=>absurd hB (any_not.mp z)) (fun _=>?_)
  simp only [shN,hl,hA,hB,hy,decide_true,Bool.true_and] at q
  simp
  rw [y0]
  refine b3z _ h y2 y3 y1 ?_
  simp
  rw [← List.map_map,b3b]
  simpa using q
 | _ =>
  simp [d2c,d2i,a1z,dF,shD] at q ⊢
  exact q
theorem c2c (d:Nat) {n:Int} {v:FV} {Q:FV×FV→Prop} (hs:Lf n v) (h0:0≤n) (hn:n < 9000) (q:∀ x v',Vl 6000 25 x→Lf (n + 200) v'→Q (x,v')):callW tb (d + 7) 22 [v] Q:=by
 refine a0j (fd:=d6p) rfl rfl ?_
 simp [d6p,d2l,big]
 refine a0h _ hs (by lia) (by lia) (by lia) fun u v1 u0 u1 l1=>?_
 simp
 refine ite2 (fun _=>?_) (fun _=>?_)
 ·exact c4t _ l1 (by lia) (by lia) fun x v2 hx l2=>q x v2 (hx.mono (by lia) (by lia)) (l2.mono (by lia))
 ·refine b8p _ 3 l1 (by lia) (by simp only [Na]; lia) fun x v2 hx l2=>q x v2 (hx.mono (by decide) (by lia)) (l2.mono (by simp only [Na]; lia))
noncomputable def Plain (x:D):Prop:=x=.non ∨ ∃ i:Int,x=.int i∧-(2 ^ 40) < i∧i < 2 ^ 40
theorem Plain.vl {x:D} (h:Plain x):Vl 41 0 (dF x):=by
 rcases h with rfl | ⟨i,rfl,h1,h2⟩
 ·exact Vl.non.mono (by lia) (by lia)
 ·exact Vl.int h1 h2
theorem Plain.str {x:D} (h:Plain x):∃ t:String,c3e (dF x)=some (.str t)∧t.length≤100:=by
 rcases h with rfl | ⟨i,rfl,h1,h2⟩
 ·exact ⟨"None",rfl,by decide⟩
 ·refine ⟨toString i,?_,?_⟩
  ·show (if -(2 ^ 150) < i∧i < 2 ^ 150 then some (FV.str (toString i)) else none)=_
   rw [if_pos ⟨by lia,by lia⟩]
  ·have:=PySem.int_text_length_le (k:=40) (by decide) (log2_lt (k:=40) (by decide) ⟨by simpa using h1,by simpa using h2⟩)
   lia
theorem Plain.one {x:D} (h:Plain x):∃ b:Bool,∀ R:Bool→Prop,wp (eqF (dF x) (.int 1)) R↔R b:=by
 rcases h with rfl | ⟨i,rfl,h1,h2⟩
 ·exact ⟨false,fun R=>Iff.rfl⟩
 ·exact ⟨i == 1,fun R=>by simp [dF]⟩
theorem b8m (d:Nat) {n:Int} {v:FV} (xs:List D) (hl:xs.length≤12) (hx:∀ x∈xs,Plain x) {Q:FV×FV→Prop} (hs:Lf n v) (h0:0≤n) (hn:n < 8000) (q:∀ x v',Vl 80000 26 x→Lf (n + 210) v'→Q (x,v')):callW tb (d + 8) 30 [v,.tup (xs.map dF)] Q:=by
 refine a0j (fd:=d6k) rfl rfl ?_
 simp [d6k,d7y]
 refine a0h _ hs (by lia) (by lia) (by lia) fun u v1 u0 u1 l1=>?_
 simp
 have hv:∀ x∈xs.map dF,Vl 41 0 x:=fun x hx'=>by
  obtain ⟨y,hy,rfl⟩:=List.mem_map.mp hx'
  exact (hx y hy).vl
 have hd:b3f xs≤0:=by
  clear hl hv
  induction xs with
  | nil=>simp [b3f]
  | cons x r ih =>
   have:=ih fun y hy=>hx y (by simp [hy])
   have h1:dep x=0:=by rcases hx x (by simp) with rfl | ⟨i,rfl,_⟩ <;> rfl
   simp only [b3f,h1]; lia
 have e0:∀ R:Bool→Prop,wp (eqF (.tup (xs.map dF)) (.tup [])) R↔R xs.isEmpty:=fun R=>by
  rw [← a2o,show FV.tup (dFs xs)=dF (.tup xs) from rfl,show FV.tup []=dF (.tup []) from rfl,d0i (by simp only [dep]; lia) (by simp [dep,b3f])]
  cases xs <;> exact Iff.rfl
 have odd:∀ {m:Int} {v':FV},Lf m v'→0≤m→m≤n + 1→callW tb (d + 7) 22 [v'] fun z=>Q z:=fun lf m0 m1=>c2c _ lf m0 (by lia) fun x v2 hx2 l2=>q x v2 (hx2.mono (by lia) (by lia)) (l2.mono (by lia))
 rw [e0]
 by_cases he:xs.isEmpty=true
 ·simp [he]
  exact odd l1 (by lia) (by lia)
 rw [Bool.eq_false_iff.mpr he]
 have hpos:0 < xs.length:=by cases xs with | nil=>exact absurd rfl he | cons=>simp
 simp
 refine ite2 (fun _=>odd l1 (by lia) (by lia)) (fun _=>ite2 (fun _=>?_) (fun _=>?_))
 ·exact q _ v1 ((Vl.lst hv (show (xs.map dF).length≤12 by simpa using hl)).mono (by lia) (by lia)) (l1.mono (by lia))
 refine a0h _ l1 (by lia) (by lia) (by lia) fun a v2 a0 a1 l2=>?_
 obtain ⟨a,rfl⟩:=Int.eq_ofNat_of_zero_le a0
 have ha:a < xs.length:=by lia
 refine c2c _ l2 (by lia) (by lia) fun z v3 hz l3=>?_
 have at_x:∀ R:FV→Prop,wp (atF (xs.map dF) (a:Int)) R↔R (dF xs[a]):=fun R=>a4w rfl (by rw [List.getElem?_map,List.getElem?_eq_getElem ha]; rfl)
 simp [big]
 have hp:=hx _ (List.getElem_mem ha)
 obtain ⟨b,hb⟩:=hp.one
 obtain ⟨t,ht,htl⟩:=hp.str
 rw [at_x,hb,at_x,ht]
 simp
 rw [at_x]
 refine a0h _ l3 (by lia) (by lia) (by lia) fun c v4 c0 c1 l4=>?_
 simp
 refine a4x c0 (by simpa using c1) ?_
 intro f hf
 have hf:Vl 6000 25 f:=by
  simp at hf
  rcases hf with rfl | rfl | rfl | rfl
  ·exact hz
  ·exact Vl.bl.mono (by lia) (by lia)
  ·exact ⟨.str t,rfl,by simp [dep],rfl,by simp only [D.wt]; lia⟩
  ·exact (Vl.tup (k:=41) (p:=0) (m:=1) (xs:=[dF xs[a]]) (by simpa using hp.vl) (by simp)).mono (by lia) (by lia)
 rw [b2p rfl ha]
 refine q _ v4 ((Vl.tup (k:=6000) (p:=25) (m:=12) (fun x hx'=>?_) (by simpa using hl)).mono (by lia) (by lia)) (l4.mono (by lia))
 rcases List.mem_or_eq_of_mem_set hx' with hx' | rfl
 ·exact (hv x hx').mono (by lia) (by lia)
 ·exact hf
theorem law_val (ns:List Int):callW tb 14 31 [.scr ns] fun z=>z.1=.bl true:=by
 refine a0j (fd:=d6j) rfl rfl ?_
 simp [d6j,d7x]
 refine ⟨by simp [a1r]; split <;> lia,?_⟩
 refine a1e (I:=fun _ L=>∃ a b c d e f g h i,L=[some (.scr ns),a,b,c,d,e,f,g,h,i]) _ 0 _ ⟨_,_,_,_,_,_,_,_,_,rfl⟩ ?_ ?_
 ·rintro k L K - - ⟨a,b,c,d,e,f,g,h,i,rfl⟩ kk
  simp
  refine c4z 12 ns k fun v1 y l1=>?_
  simp
  refine d1b 7 l1 (by lia) (by lia) fun ws cs v2 hG hR l2=>?_
  have hg:Gs ws cs:=hG.mono (by lia)
  have hn:=hG.n
  simp
  refine c1z _ hG ?_
  simp
  refine b9u _ hG ?_
  simp [big]
  refine ⟨a0l (by lia) (by lia),?_⟩
  have e1:FV.tup ((a3e cs ws ws.length).map .int)=.tup (((a3e cs ws ws.length).map D.int).map dF):=by rw [b1d]
  have e2:FV.tup ((soL ws cs).map a2i)=.tup (((soL ws cs).map dL).map dF):=by rw [dF_L]
  have p1:∀ x∈(a3e cs ws ws.length).map D.int,Plain x:=fun x hx=>by
   obtain ⟨j,hj,rfl⟩:=List.mem_map.mp hx
   have:=b5l hG _ j hj
   exact .inr ⟨j,rfl,by lia,by lia⟩
  have p2:∀ x∈(soL ws cs).map dL,Plain x:=fun x hx=>by
   obtain ⟨o,ho,rfl⟩:=List.mem_map.mp hx
   cases o with
   | none=>exact .inl rfl
   | some a =>
    obtain ⟨m,hm⟩:=List.mem_iff_getElem?.mp ho
    have:=hg.rst (c3h ws cs) hm
    exact .inr ⟨a,rfl,by lia,by lia⟩
  have n1:((a3e cs ws ws.length).map D.int).length≤12:=by rw [List.length_map,a3l]; exact hn
  have n2:((soL ws cs).map dL).length≤12:=by rw [List.length_map,b5h]; exact hn
  rw [e1,e2]
  generalize (a3e cs ws ws.length).map D.int=xs at p1 n1
  generalize (soL ws cs).map dL=ys at p2 n2
  have whole:∀ {zs:List D},(∀ x∈zs,Plain x)→zs.length≤12→Vl 1000 1 (.tup (zs.map dF)):=fun {zs} hp hl=>(Vl.tup (k:=41) (p:=0) (m:=12) (fun x hx=>by
   obtain ⟨y,hy,rfl⟩:=List.mem_map.mp hx
   exact (hp y hy).vl) (by simpa using hl)).mono (by lia) (by lia)
  refine a1e (I:=fun t L=>∃ v' g h i j,L=[some (.scr ns),some (.int k),some v',some (a3t ws cs),some (.tup (xs.map dF)),some (.tup (ys.map dF)),g,h,i,j]∧Lf (1000 + 450 * t) v') 6 0 _ ⟨v2,_,_,_,_,rfl,l2.mono (by lia)⟩ ?_ ?_
  ·rintro t L K2 - ht ⟨v',g,h,i,j,rfl,lf⟩ k2
   simp
   refine b8m 5 xs n1 p1 lf (by lia) (by lia) fun x v3 hx l3=>?_
   simp [big]
   refine b8m 5 ys n2 p2 l3 (by lia) (by lia) fun y v4 hy l4=>?_
   simp [big]
   refine a0h _ l4 (by lia) (by lia) (by lia) fun w v5 w0 w1 l5=>?_
   simp
   refine a4x w0 (by simpa using w1) ?_
   intro f hf
   have two:∀ {u1 u2:FV} {k1 k2:Nat},Vl k1 26 u1→Vl k2 26 u2→k1 + k2≤81000→∃ x y:D,u1=dF x∧u2=dF y∧Vl 81002 27 (.tup [u1,u2]):=by
    rintro u1 u2 k1 k2 ⟨x,rfl,a1,a2,a3⟩ ⟨y,rfl,b1,b2,b3⟩ hk
    refine ⟨x,y,rfl,rfl,.tup [x,y],rfl,?_,?_,?_⟩
    ·simp only [dep,b3f]; lia
    ·simp [D.fit,D.fits,a2,b2]
    ·simp only [D.wt,D.wts]; lia
   obtain ⟨x0,y0,rfl,hxy⟩:∃ x y:D,f=.tup [dF x,dF y]∧Vl 81002 27 (.tup [dF x,dF y]):=by
    simp at hf
    rcases hf with rfl | rfl
    ·obtain ⟨x,y,e1,e2,h⟩:=two hx ((whole p2 n2).mono (Nat.le_refl _) (by lia)) (by lia)
     rw [e1,e2] at h ⊢
     exact ⟨x,y,rfl,h⟩
    ·obtain ⟨x,y,e1,e2,h⟩:=two ((whole p1 n1).mono (Nat.le_refl _) (by lia)) hy (by lia)
     rw [e1,e2] at h ⊢
     exact ⟨x,y,rfl,h⟩
   obtain ⟨st,hst,hq⟩:=c7a hxy (by decide) (by decide)
   rw [hst]
   simp
   refine c7z 8 hg x0 y0 ?_
   simp
   refine c9p 8 hg x0 y0 ?_
   simp
   rw [hq]
   exact ⟨rfl,k2 _ ⟨v5,_,_,_,_,rfl,l5.mono (by lia)⟩⟩
  ·rintro L ⟨v',g,h,i,j,rfl,lf⟩
   exact kk _ ⟨_,_,_,_,_,_,_,_,_,rfl⟩
 ·rintro L ⟨a,b,c,d,e,f,g,h,i,rfl⟩
  simp
end Kq
end
set_option maxRecDepth 100000
set_option maxHeartbeats 4000000
section
namespace Kq
open PySem PySem.Spec PyProof.Rows L2 PySem.W
noncomputable def top (i:Nat):Stmt:=PySem.Challenge.pw_keepwhole_k24_things_that_show_no_reads.main.body.getD i (.Pass ⟨0,0,0,0⟩)
noncomputable def d0:Df:=⟨"is_number",top 1,["thing"],["thing"],[]⟩
noncomputable def d1:Df:=⟨"is_tuple_of",top 2,["thing","many"],["thing","many"],[]⟩
noncomputable def d2:Df:=⟨"is_laying",top 4,["stock","thing"],["stock","thing","makes","sizes","make","on"],[]⟩
noncomputable def d3:Df:=⟨"comes_from_whole",top 5,["laying","make"],["laying","make","on","step"],[]⟩
noncomputable def d4:Df:=⟨"change_sizes",top 6,["stock"],["stock"],[]⟩
noncomputable def d5:Df:=⟨"kept_sizes",top 7,["stock","laying"],["stock","laying","sizes"],[]⟩
noncomputable def d6:Df:=⟨"way",top 8,["laying","make"],["laying","make","makes","on"],[.imm,.imm,.own]⟩
noncomputable def d7:Df:=⟨"reads",top 9,["stock","laying"],["stock","laying","sizes"],[]⟩
noncomputable def d8:Df:=⟨"shows_reads",top 11,["stock","numbers","laying"],["stock","numbers","laying","wholes","changes"],[]⟩
noncomputable def d9:Df:=⟨"least_reads",top 13,["stock"],["stock","wholes","changes","least","turn","a","b","size"],[.imm,.imm,.imm,.own]⟩
noncomputable def d10:Df:=⟨"soonest",top 14,["stock"],["stock","wholes","changes","least","laying","sizes","a","b","size"],[.imm,.imm,.imm,.imm,.own,.own]⟩
noncomputable def d11:Df:=⟨"_law_mix",top 16,["_law_cell","_law_k"],["_law_cell","_law_k","_law_m"],[]⟩
noncomputable def d12:Df:=⟨"_law_left",top 17,["_law_script","_law_k"],["_law_script","_law_k","_law_cell"],[]⟩
noncomputable def d13:Df:=⟨"_law_pick",top 18,["_law_left_here","_law_many_here"],["_law_left_here","_law_many_here","_law_digit"],[.own]⟩
noncomputable def d14:Df:=⟨"_law_size",top 19,["_law_left_here","_law_great"],["_law_left_here","_law_great","_law_way_drawn"],[.own]⟩
noncomputable def d15:Df:=⟨"_law_many",top 20,["_law_left_here","_law_most"],["_law_left_here","_law_most"],[.own]⟩
noncomputable def d16:Df:=⟨"_law_stock",top 21,["_law_left_here","_law_many_here"],["_law_left_here","_law_many_here","_law_great","_law_often","_law_wholes","_law_changes","_law_a","_law_b"],[.own,.imm,.imm,.imm,.imm,.own]⟩
noncomputable def d17:Df:=⟨"_law_even_stock",top 22,["_law_left_here","_law_many_here"],["_law_left_here","_law_many_here","_law_stock_here","_law_sizes_here","_law_a","_law_b","_law_size_here","_law_changes"],[.own,.imm,.imm,.own]⟩
noncomputable def d18:Df:=⟨"_law_chain_stock",top 23,["_law_left_here","_law_many_here"],["_law_left_here","_law_many_here","_law_row","_law_k","_law_near","_law_dear","_law_sizes_here","_law_turn","_law_a","_law_b","_law_wholes"],[.own,.imm,.own,.imm,.imm,.imm,.own]⟩
noncomputable def d19:Df:=⟨"_law_any_stock",top 24,["_law_left_here","_law_most"],["_law_left_here","_law_most","_law_many_here","_law_choice"],[.own]⟩
noncomputable def d20:Df:=⟨"_law_any",top 25,["_law_left_here","_law_levels"],["_law_left_here","_law_levels","_law_some","_law_parts"],[.own]⟩
noncomputable def d21:Df:=⟨"_law_nested",top 26,["_law_left_here"],["_law_left_here","_law_thing","_law_turn"],[.own]⟩
noncomputable def d22:Df:=⟨"_law_odd",top 27,["_law_left_here"],["_law_left_here"],[.own]⟩
noncomputable def d23:Df:=⟨"_law_numbers",top 28,["_law_some"],["_law_some"],[]⟩
noncomputable def d24:Df:=⟨"_law_sizes",top 29,["_law_stock_here"],["_law_stock_here"],[]⟩
noncomputable def d25:Df:=⟨"_law_way",top 30,["_law_laying","_law_make"],["_law_laying","_law_make","_law_found"],[.imm,.imm,.own]⟩
noncomputable def d26:Df:=⟨"_law_reads",top 31,["_law_stock_here","_law_laying"],["_law_stock_here","_law_laying","_law_sizes_here","_law_found","_law_make","_law_own"],[.imm,.imm,.imm,.own]⟩
noncomputable def d27:Df:=⟨"_law_is_laying",top 32,["_law_stock_here","_law_laying"],["_law_stock_here","_law_laying","_law_sizes_here","_law_make","_law_here","_law_turn"],[]⟩
noncomputable def d28:Df:=⟨"_law_fine_laying",top 33,["_law_stock_here","_law_thing"],["_law_stock_here","_law_thing"],[]⟩
noncomputable def d29:Df:=⟨"_law_shows_reads",top 34,["_law_stock_here","_law_numbers_here","_law_laying"],["_law_stock_here","_law_numbers_here","_law_laying"],[]⟩
noncomputable def d30:Df:=⟨"_law_bent",top 35,["_law_left_here","_law_thing"],["_law_left_here","_law_thing","_law_choice","_law_some","_law_at"],[.own,.imm,.imm,.own]⟩
noncomputable def d31:Df:=⟨"law",top 36,["_law_script"],["_law_script","_law_k","_law_left_here","_law_stock_here","_law_numbers_here","_law_laying","_law_turn","_law_some","_law_kept","_law_found"],[.imm,.imm,.own]⟩
noncomputable def fns:List Str:=[Γe "is_number",Γe "is_tuple_of",Γe "is_laying",Γe "comes_from_whole",Γe "change_sizes",Γe "kept_sizes",Γe "way",Γe "reads",Γe "shows_reads",Γe "least_reads",Γe "soonest",Γe "_law_mix",Γe "_law_left",Γe "_law_pick",Γe "_law_size",Γe "_law_many",Γe "_law_stock",Γe "_law_even_stock",Γe "_law_chain_stock",Γe "_law_any_stock",Γe "_law_any",Γe "_law_nested",Γe "_law_odd",Γe "_law_numbers",Γe "_law_sizes",Γe "_law_way",Γe "_law_reads",Γe "_law_is_laying",Γe "_law_fine_laying",Γe "_law_shows_reads",Γe "_law_bent",Γe "law"]
abbrev DB (d:Df) (fr:Bool) (b:CW→SW):Prop:=∀ (X:Cx) (call:CW) (n:Nat),Good X (d.cc fns) n (spK tb call)→FSs X (d.cc fns) fr (a2f d.st) (b call)
local macro_rules | `(tactic| ac_rfl)=>do
 let g:=Lean.mkIdent `G
 let mut ts:Array (Lean.TSyntax ``Lean.Parser.Tactic.tacticSeq):=#[]
 for r in ("§d7b 03110;fe_var 12210;fe_int 00010;fa_nil 00010;fr_var 11110;a0o 02010;a7n 01010;fs_ret 01010;d1s 12110;d2a 18710;fe_ix 03110;fs_set 14310;fe_tup 01010;fs_nil 00010;fs_if 03010;d6i 16510;fe_add 02010;d5v 11110;d5u 00010;CompOk.mk 05110;d5g 00010;fe_bl 00010;fe_len 13210;d0e 11010;fe_ixN 13210;fe_lst 01010;fb_eq 12010;d5i 14310;d1u 13210;fb_not 01010;fe_isi 15410;fw_or 02010;d5e 01010;fw_and 02010;d7a 01010;ff_lst 01010;fw_or1 01010;fs_ix 15310;fe_mul 02010;fe_mod 02010;fb_ne 12010;fe_one 01010;fe_and 02010;d5l 02110;fe_any 13210;fe_eq 12010;fe_if 03010;fe_gt 02010;fe_non 00010;fe_str 00010;fe_all 13210;fe_app 15410;d5x 13210;d6c 15310;fe_sub 02010;fe_dgN 13210;d1v 13210;fe_not 01010;fb_isN 01010;fs_whl 02010;fe_sum 13210;fb_lt 12010;fe_pow 02010;fe_abs 13210;fb_gt 02010;d6f 02010;d5h 14210;d6d 15310;d5m 15310;fe_ins 15410;d5n 01010;d5o 00010;fs_par 14210;d5z 16510;fb_in2 13010;d6h 12010;d6a 13210;ff_mul 02010;fe_ge 02010;d1w 13210;d1t 00010;d1x 13210;fe_slN 13110;d5y 13210;d1y 13310;fe_neg 01010;d6g 13210;d5j 12210;fe_sl 03010;d1z 12010;fe_ni2 13010;d6b 01010;d5f 01010;d6e 13210;fs_tup 14210;d5k 01010;fr_of 01010;fb_val 02110;fb_w 01010;d5z 16511;fi_rng 13200;fi_seq 01000;d5t 13200;fi_zip 15300;d5s 12200;d5q 15400;d5r 15300;fe_int 00000;fe_str 00000;fe_bl 00000;fe_non 00000".drop 1).toString.splitOn ";" do
  let [n,c]:=r.splitOn " " | continue
  let [a,k,s,w,e]:=c.toList.map fun x=>x.toNat - 48 | continue
  let f:=Lean.mkIdent n.toName
  let mut as:Array Lean.Term:=if a=1 then #[g] else #[]
  for _ in [0:k] do as:=as.push (← `(?_))
  let mut t ← if as.isEmpty then `(tactic| exact $f) else `(tactic| refine $f $as*)
  if w=1 then t ← `(tactic| with_reducible $t:tactic)
  if e=1 then t ← `(tactic| ((with_reducible refine a2n ?_); $t:tactic))
  for _ in [0:s] do t ← `(tactic| (($t:tactic); first | decide +kernel | rfl))
  ts:=ts.push (← `(Lean.Parser.Tactic.tacticSeq| $t:tactic))
 ts:=ts.push (← `(Lean.Parser.Tactic.tacticSeq| first | decide +kernel))
 `(tactic| repeat' first $[| $ts]*)
local macro_rules | `(tactic| ac_nf)=>do
 let g:=Lean.mkIdent `G
 `(tactic| (intro _ $g:ident; ac_rfl))
local macro_rules | `(tactic| eq_refl)=>do
 let g:=Lean.mkIdent `G
 `(tactic| (intro $g:ident; ac_rfl))
local macro_rules | `(tactic| exists $e)=>`(tactic| (apply $e; ac_rfl))
local macro_rules | `(tactic| exists $e,$g:ident)=>`(tactic| (intro X call n $g:ident; apply $e; ac_rfl))
theorem db0:DB d0 false bd0:=by
 delta bd0
 exists a7n,G
theorem db1:DB d1 false bd1:=by
 delta bd1
 exists a7n,G
theorem db2:DB d2 false bd2:=by
 exists a0o,G
 exists a1w G (md':=[])
 eq_refl
 exists a2n (a0z G (own:=["make"]) (md':=[]) ?_)
 ac_nf
 ac_nf
 ac_nf
theorem db3:DB d3 false bd3:=by
 exists a0o,G
 exists a1w G (md':=[])
 eq_refl
theorem db4:DB d4 false bd4:=by
 delta bd4
 exists a7n,G
 exists c0u G (own:=["a","b","size"]) (md':=[])
 ac_nf
 ac_nf
 ac_nf
 ac_nf
theorem db5:DB d5 false bd5:=by
 exists a0o,G
 exists a2n (a0z G (own:=["make","on"]) (md':=[]) ?_)
 ac_nf
 ac_nf
 ac_nf
theorem db6:DB d6 false bd6:=by
 exists a0o,G
theorem db7:DB d7 false bd7:=by
 exists a0o,G
 exists a2n (a0z G (own:=["make"]) (md':=[]) ?_)
 ac_nf
 ac_nf
 ac_nf
 exists a2n (a0z G (own:=["passed"]) (md':=[]) ?_)
 ac_nf
 ac_nf
 ac_nf
theorem db8:DB d8 false bd8:=by
 exists a0o,G
 exists a2n (a0z G (own:=["number"]) (md':=[]) ?_)
 ac_nf
 ac_nf
 ac_nf
 exists a2n (a0z G (own:=["number","whole"]) (md':=[]) ?_)
 ac_nf
 ac_nf
 ac_nf
 exists a2n (a0z G (own:=["a","b","size"]) (md':=[]) ?_)
 ac_nf
 ac_nf
 ac_nf
theorem db9:DB d9 false bd9:=by
 exists a0o,G
 exists a1w G (md':=[.imm,.imm,.imm,.own])
 eq_refl
 exists a1w G (md':=[.imm,.imm,.imm,.own])
 eq_refl
theorem db10:DB d10 false d8l:=by
 exists a0o,G
 exists a1w G (md':=[.imm,.imm,.imm,.imm,.own,.own])
 eq_refl
theorem db11:DB d11 false d8k:=by
 exists a0o,G
theorem db12:DB d12 true d8j:=by
 exists a0o,G
theorem db13:DB d13 false d2n:=by
 exists a0o,G
theorem db14:DB d14 false d8i:=by
 exists a0o,G
theorem db15:DB d15 false d8h:=by
 exists a0o,G
theorem db16:DB d16 false d8g:=by
 exists a0o,G
 exists a2n (a0z G (own:=["_law_k"]) (md':=[.own,.imm,.imm,.imm,.imm,.own]) ?_)
 ac_nf
 ac_nf
 ac_nf
 exists a1w G (md':=[.own,.imm,.imm,.imm,.imm,.own])
 eq_refl
 exists a1w G (md':=[.own,.imm,.imm,.imm,.imm,.own])
 eq_refl
theorem db17:DB d17 false d8f:=by
 exists a0o,G
 exists a1w G (md':=[.own,.imm,.imm,.own])
 eq_refl
 exists a2n (a0z G (own:=["_law_a","_law_b"]) (md':=[.own,.imm,.imm,.frz]) ?_)
 ac_nf
 ac_nf
 ac_nf
 exists a2n (a0z G (own:=["_law_a","_law_b"]) (md':=[.own,.imm,.imm,.frz]) ?_)
 ac_nf
 ac_nf
 ac_nf
theorem db18:DB d18 false d8e:=by
 exists a0o,G
 exists a1w G (md':=[.own,.imm,.own,.imm,.imm,.imm,.own])
 eq_refl
 exists a2n (a0z G (own:=["_law_a","_law_b"]) (md':=[.own,.imm,.frz,.imm,.imm,.imm,.own]) ?_)
 ac_nf
 ac_nf
 ac_nf
 exists a1w G (md':=[.own,.imm,.own,.imm,.imm,.imm,.own])
 eq_refl
 exists a2n (a0z G (own:=["_law_k"]) (md':=[.own,.imm,.own,.imm,.imm,.imm,.own]) ?_)
 ac_nf
 ac_nf
 ac_nf
 exists a2n (a0z G (own:=["_law_pair"]) (md':=[.own,.imm,.own,.imm,.imm,.imm,.own]) ?_)
 ac_nf
 ac_nf
 ac_nf
theorem db19:DB d19 false d8d:=by
 exists a0o,G
theorem db20:DB d20 false d2m:=by
 exists a0o,G
 exists c5k G (own:=["_law_k"]) (md':=[.own])
 ac_nf
 ac_nf
 ac_nf
theorem db21:DB d21 false d8c:=by
 exists a0o,G
 exists a1w G (md':=[.own])
 eq_refl
theorem db22:DB d22 false d2l:=by
 delta d2l
 exists a7n,G
theorem db23:DB d23 false d0z:=by
 delta d0z
 exists a7n,G
 exists a2n (a0z G (own:=["_law_one"]) (md':=[]) ?_)
 ac_nf
 ac_nf
 ac_nf
theorem db24:DB d24 false d2k:=by
 delta d2k
 exists a7n,G
 exists a2n (a0z G (own:=["_law_a","_law_b","_law_size_here"]) (md':=[]) ?_)
 ac_nf
 ac_nf
 ac_nf
theorem db25:DB d25 true d8b:=by
 exists a0o,G
theorem db26:DB d26 false d8a:=by
 exists a0o,G
 exists a1w G (md':=[.imm,.imm,.imm,.own])
 eq_refl
 exists a2n (a0z G (own:=["_law_pair"]) (md':=[.imm,.imm,.imm,.own]) ?_)
 ac_nf
 ac_nf
 ac_nf
theorem db27:DB d27 false d7z:=by
 exists a0o,G
 exists a2n (a0z G (own:=["_law_make","_law_on"]) (md':=[]) ?_)
 ac_nf
 ac_nf
 ac_nf
 exists a1w G (md':=[])
 eq_refl
 exists a1w G (md':=[])
 eq_refl
theorem db28:DB d28 false d2j:=by
 exists a0o,G
 exists a2n (a0z G (own:=["_law_on"]) (md':=[]) ?_)
 ac_nf
 ac_nf
 ac_nf
theorem db29:DB d29 false d2i:=by
 exists a0o,G
 exists a2n (a0z G (own:=["_law_number","_law_whole"]) (md':=[]) ?_)
 ac_nf
 ac_nf
 ac_nf
 exists a2n (a0z G (own:=["_law_a","_law_b","_law_size_here"]) (md':=[]) ?_)
 ac_nf
 ac_nf
 ac_nf
theorem db30:DB d30 false d7y:=by
 exists a0o,G
theorem db31:DB d31 false d7x:=by
 exists a0o,G
 exists a1w G (md':=[.imm,.imm,.own])
 eq_refl
 exists a1w G (md':=[.imm,.imm,.own])
 eq_refl
noncomputable def rc (d:Df):DefRec:=⟨Γe d.name,a5l d.st,a2f d.st,a0s d.st,d0t d.st⟩
noncomputable def recs:List DefRec:=[rc d0,rc d1,rc d2,rc d3,rc d4,rc d5,rc d6,rc d7,rc d8,rc d9,rc d10,rc d11,rc d12,rc d13,rc d14,rc d15,rc d16,rc d17,rc d18,rc d19,rc d20,rc d21,rc d22,rc d23,rc d24,rc d25,rc d26,rc d27,rc d28,rc d29,rc d30,rc d31]
noncomputable def view:Program:=c6q PySem.Challenge.pw_keepwhole_k24_things_that_show_no_reads
theorem recs_eq:recs=recsOf view:=by kernel_rfl!
noncomputable def PD (K:Frag) (mg:Str→Option Value) (i:Nat) (x:Str):Prop:=∃ df fd fa fdd,tb[i]?=some fd∧Df.ok df fd.np fd.ns fd.io=true∧(∀ X call n,Good X (df.cc fns) n (spK tb call)→FSs X (df.cc fns) fd.fr (a2f df.st) (fd.body call))∧Fun K (Γe df.name) (Γe df.name) df.st fa fdd∧mg x=some (.ref fa)∧Binds K fdd df.ps []
local macro_rules | `(tactic| exists $d,$b,$j,$u)=>`(tactic| (refine And.intro (have ⟨fa,fd,m,F⟩:=DIn.fn (by assumption) ((by assumption:∀ d∈recs,DIn _ _ d) (rc $d) (List.mem_of_getElem? (i:=$j) rfl)); ⟨$d,_,fa,fd,rfl,by decide +kernel,$b,F,m,F.binds fun _ _ _ _ _ _ us hl=>$u (P:=fun us=>bindArgs _ ⟨us,[]⟩=pure (List.zip _ us)) hl (by intros; first | kernel_rfl! | rfl)⟩) ?_))
theorem d7d {K:Frag} {h:Heap} {mg:Str→Option Value} (A:AllIn K h) (D:∀ d∈recs,DIn K mg d):EachI (PD K mg) 0 fns:=by
 exists d0,db0,0,us1
 exists d1,db1,1,us2
 exists d2,db2,2,us2
 exists d3,db3,3,us2
 exists d4,db4,4,us1
 exists d5,db5,5,us2
 exists d6,db6,6,us2
 exists d7,db7,7,us2
 exists d8,db8,8,us3
 exists d9,db9,9,us1
 exists d10,db10,10,us1
 exists d11,db11,11,us2
 exists d12,db12,12,us2
 exists d13,db13,13,us2
 exists d14,db14,14,us2
 exists d15,db15,15,us2
 exists d16,db16,16,us2
 exists d17,db17,17,us2
 exists d18,db18,18,us2
 exists d19,db19,19,us2
 exists d20,db20,20,us2
 exists d21,db21,21,us1
 exists d22,db22,22,us1
 exists d23,db23,23,us1
 exists d24,db24,24,us1
 exists d25,db25,25,us2
 exists d26,db26,26,us2
 exists d27,db27,27,us2
 exists d28,db28,28,us2
 exists d29,db29,29,us3
 exists d30,db30,30,us2
 exists d31,db31,31,us1
 trivial
theorem law_fn (w:World) (K:Frag) (mg:Str→Option Value) (fa:Addr) (h:Heap) (A:AllIn K h) (D:∀ d∈recs,DIn K mg d) (blt:∀ b∈bltNames,mg (Γe b)=none) (hm:mg (Γe "law")=some (.ref fa)) :
  ∃ fd:FuncData,(∀ (s:Shared) (u:Value),BindsTo s fd ⟨[u],[]⟩ [(Γe "_law_script",u)])∧∀ base:Heap,FnOk PySem.Challenge.pw_keepwhole_k24_things_that_show_no_reads w K mg base CX0 14 fa fd [Γe "_law_script"] (spT K tb (callW tb 14) 31):=by
 obtain ⟨fa2,fd,m,F⟩:=DIn.fn A (D (rc d31) (List.mem_of_getElem? (i:=31) rfl))
 have e:=hm.symm.trans m
 cases e
 have E:∀ (f:Nat) (x:Str),fns[f]?=some x→PD K mg f x:=fun f x hx=>by
  have:=EachI.get (d7d A D) f x hx
  rwa [Nat.zero_add] at this
 refine ⟨fd,?_,fun base=>b7e (df:=d31) F rfl (by nofun) db31 (b8q blt E 13) blt⟩
 obtain ⟨oc,od,kV,doc,pm,an,cdv,ct,osl,rfl,lk,hcd⟩:=F.ex
 exact fun s v=>.of_eq rfl
end Kq
end
set_option maxHeartbeats 0
section
open PySem PySem.W PyProof.Rows
theorem Kq.said : PySem.Challenge.rw_keepwhole_k24_things_that_show_no_reads.wellSaid = true := by nofun
theorem Kq.left : LeftO PySem.Challenge.rw_keepwhole_k24_things_that_show_no_reads.prog Kq.view [] (fun s => xlAt Kq.view [] s && recOk (RowW.records PySem.Challenge.rw_keepwhole_k24_things_that_show_no_reads.row.toRowW) s) (fun _ => ()) (fun _ => ()) 3000 := by
  intro w
  kernel_rfl!
theorem Kq.freeAll : (Kq.bltNames.all fun b => Kq.freeIn Kq.view (looseW Kq.view []) (Str.ofString b)) = true := by nofun
theorem Kq.hdef : defOf Kq.view PySem.Challenge.rw_keepwhole_k24_things_that_show_no_reads.name = some (Kq.rc Kq.d31, []) := by kernel_rfl!
theorem Kq.hp : PySem.Challenge.rw_keepwhole_k24_things_that_show_no_reads.prog.theDef PySem.Challenge.rw_keepwhole_k24_things_that_show_no_reads.name = some ((Kq.rc Kq.d31).params, (Kq.rc Kq.d31).body, (Kq.rc Kq.d31).scope) := by kernel_rfl!
theorem Kq.okq : (chainsOk Kq.view && opensWell PySem.Challenge.rw_keepwhole_k24_things_that_show_no_reads.prog && (frees PySem.Challenge.rw_keepwhole_k24_things_that_show_no_reads.row.toRowW && PySem.Challenge.rw_keepwhole_k24_things_that_show_no_reads.row.within.isEmpty)) = true := by nofun
theorem Kq.prom : PySem.Challenge.rw_keepwhole_k24_things_that_show_no_reads.row.toRowW.promised := ⟨[.list []], by nofun, by nofun⟩
theorem PySem.Challenge.cw_keepwhole_k24_things_that_show_no_reads_holds : PySem.Challenge.rw_keepwhole_k24_things_that_show_no_reads.Holds :=
  Kq.row_holds Kq.said Kq.left Kq.hdef Kq.hp rfl rfl Kq.okq ⟨rfl, rfl, rfl, rfl, rfl, by nofun⟩ Kq.prom (Kq.walk2 (n := 63) (k := 14) (ds := Kq.recs) (x := Str.ofString "_law_script") (sp := fun K => Kq.spT K Kq.tb (Kq.callW Kq.tb 14) 31) rfl (by decide) rfl ⟨rfl, by decide, by decide, rfl⟩ Kq.recs_eq Kq.freeAll Kq.law_fn fun _ _ a ns hl hO hS => Kq.law_sp rfl rfl rfl hO hS (Kq.law_val ns))
end
