import PyProof.Rows.All
import Wide.All
import OpenK.AllK
import Wide.FinOn
import Lean
import PyProof.EqAt
import PyProof.EqKinds
import PyProof.TupleCall
import PyProof.DictCompW
import PyProof.Rows.Range3
import KE.KRevIter
import PyProof.AutoRange
import PyProof.FactsAll.range_2
import PyProof.Rows.CallKwBuiltin
import PyProof.ListRange
import PyProof.TupleOfGen
import PyProof.P3Eq
import PyProof.Rows.RowHeap
import PyProof.CollectIter
import PyProof.WalksMore
import PyProof.AutoSeq1
import KE.KListMore
import PyProof.AttrMissHeap
import KE.KDictOf
import KE.KSortTup
import PyProof.Rows.SortWalk
import PyProof.SumWalkG
import PyProof.DictWalks
import KE.KDictSum
import PyProof.SetKind
import PyProof.SetRoads
import PyProof.Rows.SetFrom
import PySem.Challenge.RW_keepwhole_k35_pairs_not_beaten
open PySem renaming wpAny_bind → Γa
open PySem renaming wpAny_pure → Γb
open PySem.Heap renaming get?_push_of_some → Γc
open PySem.W renaming Frag → Γd
open PySem.Str renaming ofString → Γe
open PySem.Heap renaming get?_update_other → Γf
open PySem renaming wpAny_holding → Γg
open List renaming mem_cons_of_mem → Γh
open Nat renaming le_refl → Γi
open List renaming replicate → Γj
open Bool renaming false_ne_true → Γk
open PySem.Heap renaming lt_size → Γl
open PySem.Heap renaming get?_push_size → Γm
open List renaming mem_cons_self → Γn
open Nat renaming ne_of_lt → Γo
open Bool renaming false_eq_true → Γp
local macro_rules | `(tactic| nofun) => `(tactic| decide +kernel)
set_option Elab.async false
set_option linter.all false
set_option maxRecDepth 100000
section
namespace L2
open PySem PySem.Spec PyProof.Rows
abbrev Key:=Sum Int Str
def b4p:Key→Value→Bool
 | .inl k,v=>Value.isInt k v
 | .inr x,v=>Value.isStrOf x v
def keyH (w:World):Key→Int
 | .inl k=>hashInt k
 | .inr x=>hashStr w x
theorem a0t:∀ {k:Key} {v:Value},b4p k v=true→(∃ i t,k=Sum.inl i∧v=Value.int i t) ∨ (∃ x t,k=Sum.inr x∧v=Value.str x t)
 | .inl i,v,h=>by
  obtain ⟨t,e⟩:=Value.isInt_shape (k:=i) (v:=v) h
  exact .inl ⟨i,t,rfl,e⟩
 | .inr x,v,h=>by
  obtain ⟨t,e⟩:=Value.isStrOf_shape (x:=x) (v:=v) h
  exact .inr ⟨x,t,rfl,e⟩
theorem b7p (i:Int) (t:Tok):b4p (.inl i) (.int i t)=true:=by simp [b4p,Value.isInt]
theorem b7o (x:Str) (t:Tok):b4p (.inr x) (.str x t)=true:=by simp [b4p,Value.isStrOf]
theorem d0h (a b:Int):decide ((Sum.inl a:Key)=Sum.inl b)=(a == b):=by
 by_cases e:a=b
 ·subst e; simp
 ·have h:¬ (Sum.inl a:Key)=Sum.inl b:=fun q=>e (Sum.inl.inj q)
  rw [decide_eq_false h]
  exact (beq_eq_false_iff_ne.mpr e).symm
theorem d0e (a b:Str):decide ((Sum.inr a:Key)=Sum.inr b)=decide (a=b):=by
 by_cases e:a=b
 ·subst e; simp
 ·have h:¬ (Sum.inr a:Key)=Sum.inr b:=fun q=>e (Sum.inr.inj q)
  rw [decide_eq_false h,decide_eq_false e]
theorem d0g (a:Int) (b:Str):decide ((Sum.inl a:Key)=Sum.inr b)=false:=decide_eq_false (fun q=>nomatch q)
theorem d0f (a:Str) (b:Int):decide ((Sum.inr a:Key)=Sum.inl b)=false:=decide_eq_false (fun q=>nomatch q)
def a0r (prog:Program) (w:World):PySem.KeyKind prog w Key where
 is:=b4p
 hash:=keyH w
 inj:=fun v a b ha hb=>by
  rcases a0t ha with ⟨i,t,rfl,rfl⟩ | ⟨x,t,rfl,rfl⟩
  ·rcases a0t hb with ⟨j,u,rfl,e⟩ | ⟨y,u,rfl,e⟩
   ·injection e with e1 _; rw [e1]
   ·exact nomatch e
  ·rcases a0t hb with ⟨j,u,rfl,e⟩ | ⟨y,u,rfl,e⟩
   ·exact nomatch e
   ·injection e with e1 _; rw [e1]
 byValue:=fun k v h=>by
  rcases a0t h with ⟨i,t,rfl,rfl⟩ | ⟨x,t,rfl,rfl⟩ <;> rfl
 pyHash:=fun hv h=>by
  rcases a0t hv with ⟨i,t,rfl,rfl⟩ | ⟨x,t,rfl,rfl⟩
  ·exact wpAny_pyHash_int h
  ·exact wpAny_pyHash_str h
 eqBool:=fun hu hv h=>by
  rcases a0t hu with ⟨i,t,rfl,rfl⟩ | ⟨x,t,rfl,rfl⟩
  ·rcases a0t hv with ⟨j,u,rfl,rfl⟩ | ⟨y,u,rfl,rfl⟩
   ·rw [d0h] at h; exact wpAny_eqBool_int h
   ·rw [d0g] at h; exact SeqAt.EqAt.int_str i t y u _ _ _ _ h
  ·rcases a0t hv with ⟨j,u,rfl,rfl⟩ | ⟨y,u,rfl,rfl⟩
   ·rw [d0f] at h; exact SeqAt.EqAt.str_int x t j u _ _ _ _ h
   ·rw [d0e] at h; exact wpAny_eqBool_str h
 «strs»:=fun k x t v h=>by
  rcases a0t h with ⟨i,u,rfl,e⟩ | ⟨y,u,rfl,e⟩
  ·exact nomatch e
  ·injection e with e1 _
   subst e1
   cases v <;> rfl
theorem b1l (prog:Program) (w:World) (i:Int) (t:Tok):(a0r prog w).is (.inl i) (.int i t)=true:=b7p i t
theorem b1k (prog:Program) (w:World) (x:Str) (t:Tok):(a0r prog w).is (.inr x) (.str x t)=true:=b7o x t
end L2
namespace L2
open PySem PySem.Spec PyProof.Rows
inductive V where
 | non | bl (b:Bool) | int (i:Int) | str (x:Str) | byt (b:Array UInt8) | flt (b:UInt64) | ref (a:Addr) | ty (n:String)
 deriving DecidableEq
def RelV:V→Value→Prop
 | .non,u=>u=Value.none
 | .bl b,u=>u=Value.bool b
 | .int i,u=>∃ t,u=Value.int i t
 | .str x,u=>∃ t,u=Value.str x t
 | .byt b,u=>∃ t,u=Value.bytes b t
 | .flt b,u=>∃ t,u=Value.float b t
 | .ref a,u=>u=Value.ref a
 | .ty n,u=>u=Value.type n
abbrev Vals:List V→List Value→Prop:=Paired RelV
theorem Vals.length {xs:List V} {us:List Value} (r:Vals xs us):xs.length=us.length:=Paired.length r
theorem Vals.get:∀ {xs:List V} {us:List Value} {i:Nat} {x:V},Vals xs us→xs[i]?=some x→∃ u,us[i]?=some u∧RelV x u
 | _,_,_,_,.nil,e=>by simp at e
 | _,_,0,_,.cons r _,e=>by simp at e; subst e; exact ⟨_,rfl,r⟩
 | _,_,i + 1,x,.cons _ t,e=>by
  obtain ⟨u,h1,h2⟩:=Vals.get (i:=i) (x:=x) t (by simpa using e)
  exact ⟨u,by simpa using h1,h2⟩
theorem Vals.set {x:V} {u:Value} (r:RelV x u):∀ {xs:List V} {us:List Value} (i:Nat),Vals xs us→Vals (xs.set i x) (us.set i u)
 | _,_,_,.nil=>.nil
 | _,_,0,.cons _ t=>.cons r t
 | _,_,i + 1,.cons q t=>.cons q (Vals.set r i t)
theorem Vals.append:∀ {xs ys:List V} {us ws:List Value},Vals xs us→Vals ys ws→Vals (xs++ys) (us++ws)
 | _,_,_,_,.nil,s=>s
 | _,_,_,_,.cons r t,s=>.cons r (Vals.append t s)
theorem Vals.take:∀ {xs:List V} {us:List Value} (n:Nat),Vals xs us→Vals (xs.take n) (us.take n)
 | _,_,0,_=>.nil
 | _,_,_ + 1,.nil=>.nil
 | _,_,n + 1,.cons r t=>.cons r (Vals.take n t)
theorem Vals.drop:∀ {xs:List V} {us:List Value} (n:Nat),Vals xs us→Vals (xs.drop n) (us.drop n)
 | _,_,0,r=>r
 | _,_,_ + 1,.nil=>.nil
 | _,_,n + 1,.cons _ t=>Vals.drop n t
def RelO:Option V→Option Value→Prop
 | some v,some u=>RelV v u
 | none,none=>True
 | _,_=>False
def KV {κ:Type}:List (κ×V)→List (κ×Value)→Prop:=Paired fun (p:κ×V) (q:κ×Value)=>p.1=q.1∧RelV p.2 q.2
def kV:Key→V
 | .inl i=>.int i
 | .inr x=>.str x
inductive HO where
 | lst (xs:List V)
 | tup (xs:List V)
 | dK (kvs:List (Key×V)) | dT (kvs:List (List Key×V))
 | set (S:Int→Bool) (n:Nat)
 | ins (C dx:Addr) (fs:List (Str×V))
 | own (x:Addr)
 | xd (fs:List (Str×V))
 | met (f x:Addr)
 | rng (lo hi:Int)
 | frz (o:Obj) (u:HO)
 | tbl (ps:Array Value)
 | ext (φ:Heap→Prop)
abbrev Hp:=Addr→Option HO
def upd (H:Hp) (a:Addr) (o:HO):Hp:=fun b=>if b=a then some o else H b
theorem a0e {H:Hp} {a:Addr} {o:HO}:upd H a o a=some o:=by unfold upd; rw [if_pos rfl]
theorem a0f {H:Hp} {a b:Addr} {o:HO} (h:b≠a):upd H a o b=H b:=by unfold upd; rw [if_neg h]
theorem d6a {H:Hp} {a b:Addr} {o u:HO} (h:H a=some o) (h':H b=some u) (d:o≠u):a≠b:=by
 intro e; subst e; rw [h] at h'; exact d (Option.some.inj h')
theorem a0o {H:Hp} {a b:Addr} {o:HO} (h:H a=some o) (h':H b=none):a≠b:=by
 intro e; subst e; rw [h] at h'; cases h'
section
variable (P:Program) (w:World)
def ObjOk (H:Hp) (h:Heap) (a:Addr):HO→Prop
 | .lst xs=>xs.length≤sizeLine∧∃ (its:List Value) (n:Nat),Vals xs its∧h.get? a=some { cls:=.type "list",data:=.seq its.toArray n }
 | .tup xs=>xs.length≤sizeLine∧∃ its:List Value,Vals xs its∧IsTup h a its.toArray
 | .dK kvs=>kvs.length≤sizeLine∧(a == sysModules)=false∧∃ vs,KV kvs vs∧h.DictOf (a0r P w) a vs
 | .dT kvs=>kvs.length≤sizeLine∧(a == sysModules)=false∧∃ xs:List (List Key×Addr×Value),
   Paired (fun (p:List Key×V) (q:List Key×Addr×Value)=>p.1=q.1∧H q.2.1=some (.tup (p.1.map kV))∧RelV p.2 q.2.2) kvs xs ∧
   ∃ o es ep,h.get? a=some o∧o.ExactDict∧o.data=.dict es ep∧es.toList=xs.map (entryOfKey (tupleKind (a0r P w)))∧(xs.map (·.1)).Nodup
 | .set S n=>h.SetOf (intKind P w) a S n
 | .ins C dx fs=>H dx=some (.own a)∧fs.length≤1000∧dx≠a∧h.get? a=some (PySem.W.instObj C dx) ∧
   ∃ mA,h.Ns1 dx mA∧(∀ f,RelO (fs.lookup f) (mA f))∧PySem.Within mA (fs.map (·.1))
 | .own _=>∃ o,h.get? a=some o
 | .xd fs=>∃ mA,h.Ns1 a mA∧∀ f,RelO (fs.lookup f) (mA f)
 | .rng lo hi=>∃ t u v,h.get? a=some { cls:=.type "range",data:=.fields #[.int lo t,.int hi u,.int 1 v] }
 | .frz o u=>h.get? a=some o∧ObjOk H h a u
 | .tbl ps=>h.get? a=some { cls:=.none,data:=.fields ps }
 | .met f x=>h.get? a=some (PySem.W.methodObj (.ref f) (.ref x))
 | .ext φ=>φ h∧(∃ o,h.get? a=some o)∧∀ h1 h2:Heap,φ h1→(∀ o,h1.get? a=some o→h2.get? a=some o)→φ h2
def HOk (H:Hp) (h:Heap):Prop:=∀ a o,H a=some o→ObjOk P w H h a o
end
section
variable {P:Program} {w:World} {H H':Hp} {h h':Heap} {a:Addr} {o:HO}
theorem ObjOk.lt (x:ObjOk P w H h a o):a < h.objs.size:=by
 cases o with
 | lst xs=>obtain ⟨_,_,_,_,e⟩:=x; exact Γl e
 | tup xs=>obtain ⟨_,_,_,p⟩:=x; exact p.lt
 | dK kvs=>obtain ⟨_,_,_,_,o,_,_,e,_⟩:=x; exact Γl e
 | dT kvs=>obtain ⟨_,_,_,_,o,_,_,e,_⟩:=x; exact Γl e
 | set S n=>obtain ⟨o,_,_,_,e,_⟩:=x; exact Γl e
 | ins C dx fs=>obtain ⟨_,_,_,e,_⟩:=x; exact Γl e
 | own y=>obtain ⟨_,e⟩:=x; exact Γl e
 | xd fs=>obtain ⟨_,⟨_,_,_,e,_⟩,_⟩:=x; exact Γl e
 | rng lo hi=>obtain ⟨_,_,_,e⟩:=x; exact Γl e
 | frz ob u=>obtain ⟨e,_⟩:=x; exact Γl e
 | tbl ps=>exact Γl (show h.get? a=some _ from x)
 | met f y=>exact Γl (show h.get? a=some _ from x)
 | ext φ=>obtain ⟨_,⟨_,e⟩,_⟩:=x; exact Γl e
theorem Paired.mapP {α β:Type} {F G:α→β→Prop}:∀ {l₁:List α} {l₂:List β},Paired F l₁ l₂→(∀ a b,F a b→G a b)→Paired G l₁ l₂
 | _,_,.nil,_=>.nil
 | _,_,.cons r t,f=>.cons (f _ _ r) (Paired.mapP t f)
theorem ObjOk.stay (x:ObjOk P w H h a o) (k:∀ b u,(b=a ∨ H b=some (.own a))→h.get? b=some u→h'.get? b=some u)
  (ho:∀ b,H b=some (.own a)→H' b=some (.own a)) (ht:∀ b xs,H b=some (.tup xs)→H' b=some (.tup xs)):ObjOk P w H' h' a o:=by
 induction o with
 | lst xs=>obtain ⟨z,its,n,r,e⟩:=x; exact ⟨z,its,n,r,k _ _ (.inl rfl) e⟩
 | tup xs=>obtain ⟨z,its,r,ob,e,c⟩:=x; exact ⟨z,its,r,ob,k _ _ (.inl rfl) e,c⟩
 | dK kvs=>obtain ⟨z,y,vs,r,ob,es,ep,e,c⟩:=x; exact ⟨z,y,vs,r,ob,es,ep,k _ _ (.inl rfl) e,c⟩
 | dT kvs =>
  obtain ⟨z,y,xs,r,ob,es,ep,e,c⟩:=x
  exact ⟨z,y,xs,Paired.mapP r fun p q z=>⟨z.1,ht _ _ z.2.1,z.2.2⟩,ob,es,ep,k _ _ (.inl rfl) e,c⟩
 | set S n=>obtain ⟨ob,es,ep,t,e,c⟩:=x; exact ⟨ob,es,ep,t,k _ _ (.inl rfl) e,c⟩
 | ins C dx fs =>
  obtain ⟨d,z,ne,e,mA,⟨od,es,ep,e2,c⟩,r⟩:=x
  exact ⟨ho _ d,z,ne,k _ _ (.inl rfl) e,mA,⟨od,es,ep,k _ _ (.inr d) e2,c⟩,r⟩
 | own y=>obtain ⟨ob,e⟩:=x; exact ⟨ob,k _ _ (.inl rfl) e⟩
 | xd fs=>obtain ⟨mA,⟨od,es,ep,e,c⟩,r⟩:=x; exact ⟨mA,⟨od,es,ep,k _ _ (.inl rfl) e,c⟩,r⟩
 | rng lo hi=>obtain ⟨t,u,v,e⟩:=x; exact ⟨t,u,v,k _ _ (.inl rfl) e⟩
 | frz ob u ih=>obtain ⟨e,q⟩:=x; exact ⟨k _ _ (.inl rfl) e,ih q⟩
 | tbl ps =>
  have e:h.get? a=some { cls:=.none,data:=.fields ps }:=x
  show h'.get? a=some { cls:=.none,data:=.fields ps }
  exact k a _ (.inl rfl) e
 | met f y =>
  have e:h.get? a=some (PySem.W.methodObj (.ref f) (.ref y)):=x
  show h'.get? a=some (PySem.W.methodObj (.ref f) (.ref y))
  exact k a _ (.inl rfl) e
 | ext φ=>obtain ⟨p,⟨o,e⟩,st⟩:=x; exact ⟨st _ _ p fun o q=>k _ _ (.inl rfl) q,⟨o,k _ _ (.inl rfl) e⟩,st⟩
theorem HOk.lt (x:HOk P w H h) (e:H a=some o):a < h.objs.size:=(x a o e).lt
theorem HOk.fresh (x:HOk P w H h) (e:h.objs.size≤a):H a=none:=by
 cases q:H a with
 | none=>rfl
 | some u=>exact absurd (Nat.lt_of_lt_of_le (x.lt q) e) (Nat.lt_irrefl _)
theorem HOk.kept (x:HOk P w H h) (k:∀ b u,h.get? b=some u→h'.get? b=some u):HOk P w H h':=fun a o e =>
 (x a o e).stay (fun b u _ q=>k b u q) (fun _ q=>q) fun _ _ q=>q
theorem HOk.laid (x:HOk P w H h) (k:∀ b u,h.get? b=some u→h'.get? b=some u) (hp:h.objs.size≤a) (new:ObjOk P w (upd H a o) h' a o):HOk P w (upd H a o) h':=fun b u e=>by
 have hn:=x.fresh hp
 by_cases hb:b=a
 ·subst hb; rw [a0e] at e; cases e; exact new
 ·rw [a0f hb] at e
  exact (x b u e).stay (fun c v _ q=>k c v q) (fun c q=>by rw [a0f (a0o q hn)]; exact q) fun c xs q=>by rw [a0f (a0o q hn)]; exact q
end
def Rd (H:Hp) (a:Addr) (u:HO):Prop:=H a=some u ∨ ∃ o,H a=some (.frz o u)
theorem Rd.ok {P:Program} {w:World} {H:Hp} {h:Heap} {a:Addr} {u:HO} (r:Rd H a u) (x:HOk P w H h):ObjOk P w H h a u:=by
 rcases r with r | ⟨o,r⟩
 ·exact x a u r
 ·obtain ⟨_,q⟩:=x a _ r
  exact q
def Mut:Option HO→Prop
 | some (.lst _)=>True
 | some (.dK _)=>True
 | some (.dT _)=>True
 | some (.set _ _)=>True
 | some (.ins _ _ _)=>True
 | some (.ext _)=>True
 | _=>False
section
variable {P:Program} {w:World} {H:Hp} {h h':Heap} {x e:Addr} {o':HO}
theorem HOk.write (ok:HOk P w H h) (mu:Mut (H x)) (he:e=x ∨ H e=some (.own x)) (k:∀ b u,b≠e→h.get? b=some u→h'.get? b=some u) (heo:∃ u,h'.get? e=some u)
  (new:ObjOk P w (upd H x o') h' x o'):HOk P w (upd H x o') h':=fun b u q=>by
 have nown:∀ c y,H c=some (.own y)→c≠x:=fun c y r z=>by subst z; rw [r] at mu; exact mu
 have ntup:∀ c xs,H c=some (.tup xs)→c≠x:=fun c xs r z=>by subst z; rw [r] at mu; exact mu
 by_cases hb:b=x
 ·subst hb; rw [a0e] at q; cases q; exact new
 ·rw [a0f hb] at q
  by_cases hbe:b=e
  ·have q':H b=some (.own x):=by
    rcases he with z | z
    ·exact absurd (hbe.trans z) hb
    ·rw [hbe]; exact z
   rw [q] at q'; cases q'
   obtain ⟨v,hv⟩:=heo
   exact ⟨v,by rw [hbe]; exact hv⟩
  ·refine (ok b u q).stay (fun c v hc r=>k c v ?_ r) (fun c r=>by rw [a0f (nown c b r)]; exact r) fun c xs r=>by rw [a0f (ntup c xs r)]; exact r
   rcases hc with rfl | hc
   ·exact hbe
   ·rintro rfl
    rcases he with z | z
    ·exact nown c b hc z
    ·rw [hc] at z; cases z; exact hb rfl
end
structure Un (fs ex:List Addr) (H H':Hp) (h h':Heap):Prop where
 keep:∀ b o,h.get? b=some o→H b=none→b ∉ fs→b ∉ ex→h'.get? b=some o
 slot:∀ b o,h.get? b=some o→H b=none→b∈fs→b ∉ ex→∃ sl,h'.get? b=some { o with slots:=sl }
 free:∀ b o,h.get? b=some o→H b=none→b ∉ ex→H' b=none
 there:∀ b o,h.get? b=some o→b ∉ ex→∃ o',h'.get? b=some o'
 tups:∀ b xs,H b=some (.tup xs)→H' b=some (.tup xs)
 frzs:∀ b o u,H b=some (.frz o u)→H' b=some (.frz o u)
 tbls:∀ b ps,H b=some (.tbl ps)→∃ more,H' b=some (.tbl (ps++more))
section
variable {fs fs' ex ex':List Addr} {H H1 H2:Hp} {h h1 h2 h':Heap} {a x e:Addr} {o:HO}
theorem Un.any (u:Un fs ex H H1 h h1) {b:Addr} {ob:Obj} (q:h.get? b=some ob) (n:H b=none) (hx:b ∉ ex):∃ sl,h1.get? b=some { ob with slots:=sl }:=by
 by_cases hb:b∈fs
 ·exact u.slot b ob q n hb hx
 ·exact ⟨ob.slots,u.keep b ob q n hb hx⟩
theorem Un.trans (a:Un fs ex H H1 h h1) (b:Un fs ex H1 H2 h1 h2):Un fs ex H H2 h h2 where
 keep:=fun c ob q n hc hx=>b.keep c ob (a.keep c ob q n hc hx) (a.free c ob q n hx) hc hx
 slot:=fun c ob q n hc hx=>by
  obtain ⟨sl,e1⟩:=a.slot c ob q n hc hx
  obtain ⟨sl',e2⟩:=b.slot c _ e1 (a.free c ob q n hx) hc hx
  exact ⟨sl',e2⟩
 free:=fun c ob q n hx=>by
  obtain ⟨o',e1⟩:=a.there c ob q hx
  exact b.free c o' e1 (a.free c ob q n hx) hx
 there:=fun c ob q hx=>by
  obtain ⟨o',e1⟩:=a.there c ob q hx
  exact b.there c o' e1 hx
 tups:=fun c xs q=>b.tups c xs (a.tups c xs q)
 frzs:=fun c ob xs q=>b.frzs c ob xs (a.frzs c ob xs q)
 tbls:=fun c ps q=>by
  obtain ⟨m1,e1⟩:=a.tbls c ps q
  obtain ⟨m2,e2⟩:=b.tbls c _ e1
  exact ⟨m1++m2,by rw [e2,Array.append_assoc]⟩
theorem Un.kept (k:∀ b u,h.get? b=some u→h'.get? b=some u):Un fs ex H H h h' :=
 ⟨fun b ob q _ _ _=>k b ob q,fun b ob q _ _ _=>⟨ob.slots,k b ob q⟩,fun _ _ _ n _=>n,fun b ob q _=>⟨ob,k b ob q⟩,fun _ _ q=>q,fun _ _ _ q=>q,fun _ ps q=>⟨#[],by rw [q]; simp⟩⟩
theorem Un.refl:Un fs ex H H h h:=Un.kept fun _ _ q=>q
theorem Un.laid (k:∀ b u,h.get? b=some u→h'.get? b=some u) (hp:h.objs.size≤a) (hn:H a=none):Un fs ex H (upd H a o) h h' where
 keep:=fun b u q _ _ _=>k b u q
 slot:=fun b u q _ _ _=>⟨u.slots,k b u q⟩
 free:=fun b u q n _=>by rw [a0f (Γo (Nat.lt_of_lt_of_le (Γl q) hp))]; exact n
 there:=fun b u q _=>⟨u,k b u q⟩
 tups:=fun b xs q=>by rw [a0f (a0o q hn)]; exact q
 frzs:=fun b u xs q=>by rw [a0f (a0o q hn)]; exact q
 tbls:=fun b ps q=>⟨#[],by rw [a0f (a0o q hn),q]; simp⟩
theorem Un.write (mu:Mut (H x)) (he:e=x ∨ H e=some (.own x)) (k:∀ b u,b≠e→h.get? b=some u→h'.get? b=some u) (heo:∃ u,h'.get? e=some u):Un fs ex H (upd H x o) h h':=by
 have hx:∀ b,H b=none→b≠x:=fun b n z=>by subst z; rw [n] at mu; exact mu
 have hb:∀ b,H b=none→b≠e:=fun b n z=>by
  subst z
  rcases he with r | r
  ·exact hx b n r
  ·rw [n] at r; cases r
 have hm:∀ b u,H b=some u→¬ Mut (some u)→b≠x:=fun b u q nm z=>by subst z; rw [q] at mu; exact nm mu
 refine ⟨fun b u q n _ _=>k b u (hb b n) q,fun b u q n _ _=>⟨u.slots,k b u (hb b n) q⟩,fun b u q n _=>by rw [a0f (hx b n)]; exact n,fun b u q _=>?_,
  fun b xs q=>by rw [a0f (hm b _ q fun z=>z)]; exact q,fun b u xs q=>by rw [a0f (hm b _ q fun z=>z)]; exact q,fun b ps q=>⟨#[],by rw [a0f (hm b _ q fun z=>z),q]; simp⟩⟩
 by_cases hbe:b=e
 ·subst hbe; exact heo
 ·exact ⟨u,k b u hbe q⟩
theorem Un.mono (u:Un fs ex H H1 h h1) (hs:∀ b∈fs,b∈fs') (hx:∀ b∈ex,b∈ex'):Un fs' ex' H H1 h h1 :=
 ⟨fun b ob q n hb he=>u.keep b ob q n (fun z=>hb (hs b z)) fun z=>he (hx b z),fun _ _ q n _ he=>u.any q n fun z=>he (hx _ z),fun b ob q n he=>u.free b ob q n fun z=>he (hx b z),fun b ob q he=>u.there b ob q fun z=>he (hx b z),u.tups,u.frzs,u.tbls⟩
end
def trk (h:Heap) (H:Hp):List Addr:=(List.range h.objs.size).filter fun a=>(H a).isSome
def c1q (h:Heap) (H:Hp):Heap:=PySem.W.hideAll h (trk h H)
theorem b7y (h:Heap) (H:Hp):(c1q h H).objs.size=h.objs.size:=PySem.W.hideAll_size _ _
theorem c1p {h:Heap} {H:Hp} {b:Addr} {o:Obj} (e:h.get? b=some o) (n:H b=none):(c1q h H).get? b=some o :=
 PySem.W.hideAll_get _ e fun hm=>by
  have q:(H b).isSome=true:=(List.mem_filter.mp hm).2
  rw [n] at q; simp at q
theorem c5m {h:Heap} {H:Hp} {b:Addr} {o:Obj} (e:(c1q h H).get? b=some o):h.get? b=some o∧H b=none:=by
 have e':h.get? b=some o:=PySem.W.of_hideAll (trk h H) e
 refine ⟨e',?_⟩
 cases q:H b with
 | none=>rfl
 | some x =>
  have hm:b∈trk h H:=List.mem_filter.mpr ⟨List.mem_range.mpr (Γl e'),by simp [q]⟩
  have z:(c1q h H).get? b=none:=PySem.W.hideAll_none (trk h H) hm
  rw [z] at e; cases e
def c7d (g h:Heap) (L:Addr):List (Addr×Obj):=(List.range h.objs.size).filterMap fun a=>if a=L ∨ (g.get? a).isSome=true then none else (h.get? a).map fun o=>(a,o)
def rest (g h:Heap) (L d:Addr):List (Addr×Obj):=(c7d g h L).filter fun p=>decide (p.1≠d)
end L2
namespace L2
open PySem PySem.Spec PyProof.Rows
structure Mod (K:Γd) (mg:Str→Option Value) (base:Heap):Prop where
 kin:K.In base
 glob:base.Ns mainGlobals mg
 blt:∃ mb,base.Ns builtinsNs mb∧∀ x:Str,x≠"__name__"→mb x=bootBuiltins x
 nolimit:base.NoLimit
structure Cx where
 prog:Program
 w:World
 K:Γd
 mg:Str→Option Value
 base:Heap
 A:Around
 N:List Str
 s₀:Shared
 H₀:Hp
 env:Env
 outer:List Env
 stack:List Env
 ex:List Addr
 fn:Str→Bool
 calm:Bool
 pn:List (Addr×Obj)
 xe:Value→Shared→Prop
def frs (l:List Env):List Addr:=l.filterMap (·.frame)
abbrev Cx.fs (X:Cx):List Addr:=frs X.outer
def Vis (sc:Scope) (x:Str):Prop:=sc.names.lookup x=some .local ∨ sc.names.lookup x=some .cell ∨ sc.names.lookup x=some .free
def Loc (sc:Scope) (x:Str):Prop:=sc.names.lookup x=some .local ∨ sc.names.lookup x=some .cell
def Look (env:Env) (h:Heap) (m:Str→Option Value) (x:Str) (u:Value):Prop :=
 (env.kindOf x=some .local∧m x=some u) ∨ ((env.kindOf x=some .cell ∨ env.kindOf x=some .free)∧∃ c,env.cells.lookup x=some c∧h.IsCell c (some u))
structure Cx.Ok (X:Cx):Prop where
 mod:Mod X.K X.mg X.base
 kind:X.env.scope.kind=.function
 glob:X.env.globals=mainGlobals
 blt:X.env.builtins=builtinsNs
 above:X.s₀.heap.objs.size≤X.env.locals
 inj:∀ x y c,X.env.cells.lookup x=some c→X.env.cells.lookup y=some c→x=y
 has:∀ x,(X.env.kindOf x=some .cell ∨ X.env.kindOf x=some .free)→∃ c,X.env.cells.lookup x=some c
 cab:∀ x c,X.fn x=true→X.env.cells.lookup x=some c→X.s₀.heap.objs.size≤c
 hd:X.calm=true→X.A.handled=none
 frames:X.A.frames=some X.stack
 stk:X.stack=X.outer ∨ (X.stack=X.env :: X.outer∧X.env.frame=some X.env.locals)
 exf:∀ b∈X.ex,b≠X.env.locals∧∀ x c,X.env.cells.lookup x=some c→c≠b
 bs:∀ b o,X.base.get? b=some o→X.s₀.heap.get? b=some o∧X.H₀ b=none
 bsz:X.base.objs.size≤X.s₀.heap.objs.size
 noex:∀ b o,X.base.get? b=some o→b ∉ X.ex
 exfs:∀ b∈X.ex,b ∉ X.fs
 funs:X.s₀.heap.FunFrames X.base X.outer
 frf:∀ b∈X.fs,X.H₀ b=none
structure Inv (X:Cx) (pins:List (Addr×Obj)) (σ:List (Option V)) (H:Hp) (s:Shared):Prop where
 ok:X.Ok
 os:s.os=X.s₀.os
 bare:AllBare s.gens
 base:Un X.fs X.ex X.H₀ H X.s₀.heap s.heap
 loc:∃ m,s.heap.Ns X.env.locals m∧∀ (i:Nat) (x:Str) (v:V),X.N[i]?=some x→σ[i]?=some (some v)→Vis X.env.scope x→∃ u,RelV v u∧Look X.env s.heap m x u
 cell:∀ x c,X.env.cells.lookup x=some c→∃ v,s.heap.IsCell c v
 free:H X.env.locals=none
 freeC:∀ x c,X.env.cells.lookup x=some c→H c=none
 pin:∀ p∈X.pn++pins,s.heap.get? p.1=some p.2∧H p.1=none∧p.1≠X.env.locals∧p.1 ∉ X.fs∧∀ v,p.2.data≠.cell v
 hok:HOk X.prog X.w H s.heap
 len:σ.length=X.N.length
section
variable {X:Cx} {pins:List (Addr×Obj)} {σ:List (Option V)} {H H':Hp} {s:Shared} {h':Heap}
theorem Cx.Ok.nofr (ok:X.Ok) {b:Addr} {o:Obj} (e:X.base.get? b=some o):b ∉ X.fs:=fun hb=>by
 have:=(ok.funs.mem hb).1
 rw [e] at this; cases this
theorem Inv.bs (I:Inv X pins σ H s):∀ b o,X.base.get? b=some o→s.heap.get? b=some o∧H b=none:=fun b o e =>
 ⟨I.base.keep b o (I.ok.bs b o e).1 (I.ok.bs b o e).2 (I.ok.nofr e) (I.ok.noex b o e),I.base.free b o (I.ok.bs b o e).1 (I.ok.bs b o e).2 (I.ok.noex b o e)⟩
theorem Inv.bk (I:Inv X pins σ H s):∀ b o,X.base.get? b=some o→s.heap.get? b=some o:=fun b o e=>(I.bs b o e).1
theorem Inv.mod (I:Inv X pins σ H s):Mod X.K X.mg X.base:=I.ok.mod
theorem Inv.kIn (I:Inv X pins σ H s):X.K.In s.heap:=I.ok.mod.kin.keeps I.bk
theorem Inv.nolimit (I:Inv X pins σ H s):s.heap.NoLimit:=I.ok.mod.nolimit.keeps I.bk
theorem Inv.lt (I:Inv X pins σ H s):X.env.locals < s.heap.objs.size:=let ⟨_,hn,_⟩:=I.loc; hn.lt
theorem Inv.sz (I:Inv X pins σ H s):X.s₀.heap.objs.size≤s.heap.objs.size:=Nat.le_trans I.ok.above (Nat.le_of_lt I.lt)
theorem Inv.nofs (I:Inv X pins σ H s) {a:Addr} (h:s.heap.objs.size≤a):a ∉ X.fs:=fun hb=>by
 obtain ⟨_,o,ho,_⟩:=I.ok.funs.mem hb
 exact absurd (Nat.lt_of_lt_of_le (Γl ho) (Nat.le_trans I.sz h)) (Nat.lt_irrefl _)
theorem Inv.cne (I:Inv X pins σ H s):∀ x c,X.env.cells.lookup x=some c→c≠X.env.locals:=fun x c e z=>by
 obtain ⟨v,o,ho,hd⟩:=I.cell x c e
 obtain ⟨m,⟨o',es,ep,ho',hd',_⟩,_⟩:=I.loc
 rw [z,ho'] at ho; cases ho; rw [hd'] at hd; cases hd
theorem Inv.funs (I:Inv X pins σ H s):s.heap.FunFrames X.base X.outer:=by
 have all:∀ (l:List Env),(∀ b∈frs l,b∈X.fs)→X.s₀.heap.FunFrames X.base l→s.heap.FunFrames X.base l:=by
  intro l
  induction l with
  | nil=>intro _ _; trivial
  | cons env r ih =>
   intro hs hl
   obtain ⟨hk,⟨L,o,hf,hn,ho,hd⟩,hr⟩:=hl
   have hL:L∈X.fs:=hs L (by unfold frs; rw [List.filterMap_cons,hf]; exact Γn)
   obtain ⟨sl,e⟩:=I.base.slot L o ho (I.ok.frf L hL) hL fun z=>I.ok.exfs L z hL
   exact ⟨hk,⟨L,_,hf,hn,e,hd⟩,ih (fun b hb=>hs b (by unfold frs; rw [List.filterMap_cons,hf]; exact Γh _ hb)) hr⟩
 exact all X.outer (fun _ hb=>hb) I.ok.funs
theorem Inv.stack (I:Inv X pins σ H s):s.heap.FunFrames X.base X.stack:=by
 rcases I.ok.stk with e | ⟨e,hf⟩
 ·rw [e]; exact I.funs
 ·rw [e]
  obtain ⟨m,hn,_⟩:=I.loc
  refine .cons (by rw [I.ok.kind]; decide) hf hn ?_ I.funs
  exact Heap.get?_none_of_le (Nat.le_trans I.ok.bsz I.ok.above)
theorem Inv.stkSub (I:Inv X pins σ H s):∀ b∈frs X.stack,b∈X.env.locals :: X.fs:=fun b hb=>by
 rcases I.ok.stk with e | ⟨e,hf⟩
 ·rw [e] at hb; exact Γh _ hb
 ·rw [e] at hb
  unfold frs at hb
  rw [List.filterMap_cons,hf] at hb
  exact hb
theorem Inv.stkFree (I:Inv X pins σ H s):∀ b∈frs X.stack,H b=none:=fun b hb=>by
 rcases List.mem_cons.mp (I.stkSub b hb) with e | hb
 ·rw [e]; exact I.free
 ·obtain ⟨_,o,ho,_⟩:=I.ok.funs.mem hb
  exact I.base.free b o ho (I.ok.frf b hb) fun z=>I.ok.exfs b z hb
theorem Inv.step {g':Array GenState} {t':Nat} {d':Drawn} {ch:List Addr} (I:Inv X pins σ H s)
  (hch:∀ b∈ch,(b∈X.ex ∨ X.s₀.heap.objs.size≤b)∧b≠X.env.locals∧(∀ x c,X.env.cells.lookup x=some c→c≠b)∧∀ p∈X.pn++pins,p.1≠b)
  (keep:∀ b o,b≠X.env.locals→b ∉ X.fs→b ∉ ch→s.heap.get? b=some o→H b=none→h'.get? b=some o)
  (slot:∀ b o,b≠X.env.locals→b∈X.fs→b ∉ ch→s.heap.get? b=some o→H b=none→∃ sl,h'.get? b=some { o with slots:=sl }) (free:∀ b o,b ∉ ch→s.heap.get? b=some o→H b=none→H' b=none)
  (there:∀ b o,b ∉ ch→s.heap.get? b=some o→∃ o',h'.get? b=some o')
  (tups:∀ b xs,H b=some (.tup xs)→H' b=some (.tup xs)) (frzs:∀ b o u,H b=some (.frz o u)→H' b=some (.frz o u)) (tbls:∀ b ps,H b=some (.tbl ps)→∃ more,H' b=some (.tbl (ps++more)))
  (ns:∀ m,s.heap.Ns X.env.locals m→h'.Ns X.env.locals m) (hok:HOk X.prog X.w H' h') (hg:AllBare g') :
  Inv X pins σ H' { s with heap:=h',gens:=g',drawn:=d',toks:=t' }:=by
 have neL:∀ b o,X.s₀.heap.get? b=some o→b≠X.env.locals:=fun b o e=>Γo (Nat.lt_of_lt_of_le (Γl e) I.ok.above)
 have neC:∀ b o,X.s₀.heap.get? b=some o→b ∉ X.ex→b ∉ ch:=fun b o e hx hb=>by
  rcases (hch b hb).1 with z | z
  ·exact hx z
  ·exact absurd (Nat.lt_of_lt_of_le (Γl e) z) (Nat.lt_irrefl _)
 have cellK:∀ x c,X.env.cells.lookup x=some c→∀ v,s.heap.IsCell c v→h'.IsCell c v:=fun x c e v ⟨o,ho,hd⟩=>by
  have nch:c ∉ ch:=fun z=>(hch c z).2.2.1 x c e rfl
  by_cases hc:c∈X.fs
  ·obtain ⟨sl,q⟩:=slot c o (I.cne x c e) hc nch ho (I.freeC x c e)
   exact ⟨_,q,hd⟩
  ·exact ⟨o,keep c o (I.cne x c e) hc nch ho (I.freeC x c e),hd⟩
 refine ⟨I.ok,I.os,hg,⟨fun b o e n hb hx=>?_,fun b o e n hb hx=>?_,fun b o e n hx=>?_,fun b o e hx=>?_,fun b xs e=>tups b xs (I.base.tups b xs e),fun b o xs e=>frzs b o xs (I.base.frzs b o xs e),fun b ps e=>?_⟩,?_,fun x c e=>?_,?_,fun x c e=>?_,fun p hp=>?_,hok,I.len⟩
 ·exact keep b o (neL b o e) hb (neC b o e hx) (I.base.keep b o e n hb hx) (I.base.free b o e n hx)
 ·obtain ⟨sl,e1⟩:=I.base.slot b o e n hb hx
  obtain ⟨sl',e2⟩:=slot b _ (neL b o e) hb (neC b o e hx) e1 (I.base.free b o e n hx)
  exact ⟨sl',e2⟩
 ·obtain ⟨o',e1⟩:=I.base.there b o e hx
  exact free b o' (neC b o e hx) e1 (I.base.free b o e n hx)
 ·obtain ⟨o',e1⟩:=I.base.there b o e hx
  exact there b o' (neC b o e hx) e1
 ·obtain ⟨m1,e1⟩:=I.base.tbls b ps e
  obtain ⟨m2,e2⟩:=tbls b _ e1
  exact ⟨m1++m2,by rw [e2,Array.append_assoc]⟩
 ·obtain ⟨m,hn,hl⟩:=I.loc
  refine ⟨m,ns m hn,fun i x v e1 e2 e3=>?_⟩
  obtain ⟨u,r,l⟩:=hl i x v e1 e2 e3
  refine ⟨u,r,?_⟩
  rcases l with l | ⟨k,c,e,z⟩
  ·exact .inl l
  ·exact .inr ⟨k,c,e,cellK x c e _ z⟩
 ·obtain ⟨v,z⟩:=I.cell x c e
  exact ⟨v,cellK x c e v z⟩
 ·obtain ⟨m,⟨o,_,_,ho,_⟩,_⟩:=I.loc
  exact free _ o (fun z=>(hch _ z).2.1 rfl) ho I.free
 ·obtain ⟨v,o,ho,hd⟩:=I.cell x c e
  exact free c o (fun z=>(hch c z).2.2.1 x c e rfl) ho (I.freeC x c e)
 ·obtain ⟨e,n,ne,nf,d⟩:=I.pin p hp
  have nch:p.1 ∉ ch:=fun z=>(hch p.1 z).2.2.2 p hp rfl
  exact ⟨keep p.1 p.2 ne nf nch e n,free p.1 p.2 nch e n,ne,nf,d⟩
theorem Inv.un {t':Nat} (I:Inv X pins σ H s) (u:Un X.fs [] H H' s.heap h') (hok:HOk X.prog X.w H' h'):Inv X pins σ H' { s with heap:=h',toks:=t' }:=by
 obtain ⟨m,⟨o,es,ep,ho,r⟩,_⟩:=id I.loc
 obtain ⟨sl,hL⟩:=u.any ho I.free (by simp)
 exact I.step (g':=s.gens) (d':=s.drawn) (ch:=[]) (fun _ z=>nomatch z) (fun b o _ hb _ e n=>u.keep b o e n hb (by simp)) (fun b o _ hb _ e n=>u.slot b o e n hb (by simp)) (fun b o _ e n=>u.free b o e n (by simp)) (fun b o _ e=>u.there b o e (by simp)) u.tups u.frzs u.tbls (fun m' hm=>by
  obtain ⟨o',es',ep',ho',r'⟩:=hm
  rw [ho] at ho'; cases ho'
  exact ⟨_,es',ep',hL,r'⟩) hok I.bare
theorem Inv.call {g':Array GenState} {t':Nat} {d':Drawn} {ch:List Addr} (I:Inv X pins σ H s) (u:Un (frs X.stack) ch H H' s.heap h') (hok:HOk X.prog X.w H' h') (hg:AllBare g')
  (hch:∀ b∈ch,(b∈X.ex ∨ X.s₀.heap.objs.size≤b)∧b≠X.env.locals∧(∀ x c,X.env.cells.lookup x=some c→c≠b)∧∀ p∈X.pn++pins,p.1≠b) :
  Inv X pins σ H' { s with heap:=h',gens:=g',drawn:=d',toks:=t' }:=by
 obtain ⟨m,⟨o,es,ep,ho,r⟩,_⟩:=id I.loc
 obtain ⟨sl,hL⟩:=u.any ho I.free fun z=>(hch _ z).2.1 rfl
 exact I.step (ch:=ch) hch (fun b o hL hb hc e n=>u.keep b o e n (fun z=>(List.mem_cons.mp (I.stkSub b z)).elim hL hb) hc) (fun b o _ _ hc e n=>u.any e n hc) (fun b o hc e n=>u.free b o e n hc) (fun b o hc e=>u.there b o e hc) u.tups u.frzs u.tbls (fun m' hm=>by
  obtain ⟨o',es',ep',ho',r'⟩:=hm
  rw [ho] at ho'; cases ho'
  exact ⟨_,es',ep',hL,r'⟩) hok hg
theorem Inv.turned {t':Nat} {it:Addr} (I:Inv X pins σ H s) (k:∀ b o,b≠it→s.heap.get? b=some o→h'.get? b=some o) (hn:H it=none) (hL:it≠X.env.locals)
  (h1:it∈X.ex ∨ X.s₀.heap.objs.size≤it) (h2:∀ x c,X.env.cells.lookup x=some c→c≠it) (h3:∀ p∈X.pn++pins,p.1≠it):Inv X pins σ H { s with heap:=h',toks:=t' }:=by
 have nit:∀ b u,H b=some u→b≠it:=fun b u e z=>by rw [z,hn] at e; cases e
 refine I.step (g':=s.gens) (d':=s.drawn) (ch:=[it]) (fun b hb=>?_) (fun b o _ _ hc e _=>k b o (fun z=>hc (by simp [z])) e) (fun b o _ _ hc e _=>⟨o.slots,k b o (fun z=>hc (by simp [z])) e⟩) (fun _ _ _ _ n=>n)
  (fun b o hc e=>⟨o,k b o (fun z=>hc (by simp [z])) e⟩) (fun _ _ e=>e) (fun _ _ _ e=>e) (fun b ps e=>⟨#[],by rw [e]; simp⟩) (fun m hm=>?_) (fun b u e=>?_) I.bare
 ·have e:b=it:=by simpa using hb
  subst e
  exact ⟨h1,hL,h2,h3⟩
 ·obtain ⟨o,es,ep,ho,r⟩:=hm
  exact ⟨o,es,ep,k _ o (Ne.symm hL) ho,r⟩
 ·refine (I.hok b u e).stay (fun c v hc q=>k c v ?_ q) (fun _ q=>q) fun _ _ q=>q
  rcases hc with z | z
  ·rw [z]; exact nit b u e
  ·exact nit c _ z
theorem Inv.tok (I:Inv X pins σ H s) (t:Nat):Inv X pins σ H { s with toks:=t }:=I.un (h':=s.heap) (t':=t) Un.refl I.hok
theorem Inv.kept {t':Nat} (I:Inv X pins σ H s) (k:∀ b u,s.heap.get? b=some u→h'.get? b=some u):Inv X pins σ H { s with heap:=h',toks:=t' }:=I.un (Un.kept k) (I.hok.kept k)
theorem Inv.laid {a:Addr} {o:HO} {t':Nat} (I:Inv X pins σ H s) (k:∀ b u,s.heap.get? b=some u→h'.get? b=some u) (hp:s.heap.objs.size≤a) (new:ObjOk X.prog X.w (upd H a o) h' a o) :
  Inv X pins σ (upd H a o) { s with heap:=h',toks:=t' }:=I.un (Un.laid k hp (I.hok.fresh hp)) (I.hok.laid k hp new)
theorem Inv.write {x e:Addr} {o:HO} {t':Nat} (I:Inv X pins σ H s) (mu:Mut (H x)) (he:e=x ∨ H e=some (.own x)) (k:∀ b u,b≠e→s.heap.get? b=some u→h'.get? b=some u) (heo:∃ u,h'.get? e=some u)
  (new:ObjOk X.prog X.w (upd H x o) h' x o):Inv X pins σ (upd H x o) { s with heap:=h',toks:=t' }:=I.un (Un.write mu he k heo) (I.hok.write mu he k heo new)
theorem Inv.weak {σ':List (Option V)} (I:Inv X pins σ H s) (hl:σ'.length=σ.length) (w:∀ (i:Nat) v,σ'[i]?=some (some v)→σ[i]?=some (some v)):Inv X pins σ' H s :=
 ⟨I.ok,I.os,I.bare,I.base,let ⟨m,hn,hl'⟩:=I.loc; ⟨m,hn,fun i x v e1 e2 e3=>hl' i x v e1 (w i v e2) e3⟩,I.cell,I.free,I.freeC,I.pin,I.hok,hl.trans I.len⟩
theorem Inv.pins_of {pins':List (Addr×Obj)} (I:Inv X pins σ H s) (h:∀ p∈pins',s.heap.get? p.1=some p.2∧H p.1=none∧p.1≠X.env.locals∧p.1 ∉ X.fs∧∀ v,p.2.data≠.cell v):Inv X pins' σ H s :=
 ⟨I.ok,I.os,I.bare,I.base,I.loc,I.cell,I.free,I.freeC,fun p hp=>(List.mem_append.mp hp).elim (fun z=>I.pin p (List.mem_append_left _ z)) (h p),I.hok,I.len⟩
theorem b2p {N:List Str} (hN:N.Nodup) {i j:Nat} {x:Str} (a:N[i]?=some x) (b:N[j]?=some x):i=j:=by
 obtain ⟨h1,e1⟩:=List.getElem?_eq_some_iff.mp a
 obtain ⟨h2,e2⟩:=List.getElem?_eq_some_iff.mp b
 exact (List.getElem_inj hN).mp (e1.trans e2.symm)
theorem a9i {M:Model} {A:Around} {E:Value→Shared→Prop} {i:Nat} {x:Str} {v:V} {u:Value} {Q:Unit→Shared→Prop} (I:Inv X pins σ H s) (hN:X.N.Nodup) (hi:X.N[i]?=some x) (hx:Loc X.env.scope x) (r:RelV v u)
  (h:∀ s',Inv X pins (σ.set i (some v)) H s'→(∃ a,Heap.SameBut a s.heap s'.heap∧(a=X.env.locals ∨ X.env.cells.lookup x=some a))→Q () s') (hf:X.fn x=true ∨ X.env.scope.names.lookup x=some .local:=by first | exact .inl rfl | exact .inr rfl | assumption):wpAny M A (storeName X.env x u) Q E s:=by
 obtain ⟨m,hn,hl⟩:=id I.loc
 have hcls:(X.env.scope.kind == .class || (X.env.scope.kind == .module && X.env.locals != X.env.globals))=false:=by rw [I.ok.kind]; rfl
 have hiσ:i < σ.length:=by rw [I.len]; exact (List.getElem?_eq_some_iff.mp hi).1
 have cne:=I.cne
 have tracked:∀ {a:Addr} {h':Heap},(∃ o,s.heap.get? a=some o∧H a=none)→Heap.SameBut a s.heap h'→HOk X.prog X.w H h':=fun {a h'} ha hs b ob e=>by
  obtain ⟨_,_,hfree⟩:=ha
  refine (I.hok b ob e).stay (fun c w' hc q=>(hs.2 c ?_).trans q) (fun _ q=>q) fun _ _ q=>q
  rintro rfl
  rcases hc with rfl | hc
  ·rw [hfree] at e; cases e
  ·rw [hfree] at hc; cases hc
 rcases hx with hk | hk
 ·refine wpAny_storeName_local hk hn (fun h' hn' hs=>?_) hcls
  obtain ⟨oL,_,_,hoL,_⟩:=id hn
  refine h _ ⟨I.ok,I.os,I.bare,⟨fun b o e n hb hx=>?_,fun b o e n hb hx=>?_,I.base.free,fun b o e hx=>?_,I.base.tups,I.base.frzs,I.base.tbls⟩,⟨_,hn',fun j y v' e1 e2 e3=>?_⟩,fun y c e=>?_,I.free,I.freeC,fun p hp=>?_,tracked ⟨oL,hoL,I.free⟩ hs,by simpa using I.len⟩ ⟨_,hs,.inl rfl⟩
  ·exact (hs.2 b (Γo (Nat.lt_of_lt_of_le (Γl e) I.ok.above))).trans (I.base.keep b o e n hb hx)
  ·obtain ⟨sl,e1⟩:=I.base.slot b o e n hb hx
   exact ⟨sl,(hs.2 b (Γo (Nat.lt_of_lt_of_le (Γl e) I.ok.above))).trans e1⟩
  ·obtain ⟨o',e1⟩:=I.base.there b o e hx
   exact ⟨o',(hs.2 b (Γo (Nat.lt_of_lt_of_le (Γl e) I.ok.above))).trans e1⟩
  ·by_cases hj:j=i
   ·subst hj
    rw [hi] at e1; cases e1
    rw [List.getElem?_set_self hiσ] at e2
    cases e2
    exact ⟨u,r,.inl ⟨hk,by simp⟩⟩
   ·rw [List.getElem?_set_ne (Ne.symm hj)] at e2
    obtain ⟨u',r',q⟩:=hl j y v' e1 e2 e3
    refine ⟨u',r',?_⟩
    rcases q with ⟨k,e⟩ | ⟨k,c,e,z⟩
    ·refine .inl ⟨k,?_⟩
     have:y≠x:=fun e=>hj (b2p hN e1 (e ▸ hi))
     simp [this,e]
    ·exact .inr ⟨k,c,e,z.sameBut hs (cne y c e)⟩
  ·obtain ⟨w',z⟩:=I.cell y c e
   exact ⟨w',z.sameBut hs (cne y c e)⟩
  ·obtain ⟨e,n,ne,nf,d⟩:=I.pin p hp
   exact ⟨(hs.2 p.1 ne).trans e,n,ne,nf,d⟩
 ·have hfn:X.fn x=true:=by
   rcases hf with z | z
   ·exact z
   ·rw [z] at hk; cases hk
  obtain ⟨c,hc⟩:=I.ok.has x (.inl hk)
  obtain ⟨w',z⟩:=I.cell x c hc
  refine wpAny_storeName_cell I.ok.kind hk hc z (fun h' hc' hs=>?_)
  obtain ⟨oc,hoc,hocd⟩:=id z
  refine h { s with heap:=h' } ⟨I.ok,I.os,I.bare,⟨fun b o e n hb hx=>?_,fun b o e n hb hx=>?_,I.base.free,fun b o e hx=>?_,I.base.tups,I.base.frzs,I.base.tbls⟩,⟨m,hn.sameBut hs (Ne.symm (cne x c hc)),fun j y v' e1 e2 e3=>?_⟩,fun y c' e=>?_,I.free,I.freeC,fun p hp=>?_,tracked ⟨oc,hoc,I.freeC x c hc⟩ hs,by simpa using I.len⟩ ⟨c,hs,.inr hc⟩
  ·exact (hs.2 b (Γo (Nat.lt_of_lt_of_le (Γl e) (I.ok.cab x c hfn hc)))).trans (I.base.keep b o e n hb hx)
  ·obtain ⟨sl,e1⟩:=I.base.slot b o e n hb hx
   exact ⟨sl,(hs.2 b (Γo (Nat.lt_of_lt_of_le (Γl e) (I.ok.cab x c hfn hc)))).trans e1⟩
  ·obtain ⟨o',e1⟩:=I.base.there b o e hx
   exact ⟨o',(hs.2 b (Γo (Nat.lt_of_lt_of_le (Γl e) (I.ok.cab x c hfn hc)))).trans e1⟩
  ·by_cases hj:j=i
   ·subst hj
    rw [hi] at e1; cases e1
    rw [List.getElem?_set_self hiσ] at e2
    cases e2
    exact ⟨u,r,.inr ⟨.inl hk,c,hc,hc'⟩⟩
   ·rw [List.getElem?_set_ne (Ne.symm hj)] at e2
    obtain ⟨u',r',q⟩:=hl j y v' e1 e2 e3
    refine ⟨u',r',?_⟩
    rcases q with q | ⟨k,c',e,z'⟩
    ·exact .inl q
    ·refine .inr ⟨k,c',e,z'.sameBut hs ?_⟩
     rintro rfl
     exact hj (b2p hN e1 (I.ok.inj _ _ _ e hc ▸ hi))
  ·by_cases hcc:c'=c
   ·subst hcc; exact ⟨_,hc'⟩
   ·obtain ⟨w2,z2⟩:=I.cell y c' e
    exact ⟨w2,z2.sameBut hs hcc⟩
  ·obtain ⟨e,n,ne,nf,d⟩:=I.pin p hp
   refine ⟨(hs.2 p.1 ?_).trans e,n,ne,nf,d⟩
   intro q
   rw [q,hoc] at e
   have q':oc=p.2:=Option.some.inj e
   exact d w' (by rw [← q']; exact hocd)
theorem b2f {M:Model} {A:Around} {E:Value→Shared→Prop} {i:Nat} {x:Str} {v:V} {u:Value} {Q:Unit→Shared→Prop} (I:Inv X pins σ H s) (hN:X.N.Nodup) (hi:X.N[i]?=some x) (hx:Loc X.env.scope x) (r:RelV v u)
  (h:∀ s',Inv X pins (σ.set i (some v)) H s'→Q () s') (hf:X.fn x=true ∨ X.env.scope.names.lookup x=some .local:=by first | exact .inl rfl | exact .inr rfl | assumption):wpAny M A (storeName X.env x u) Q E s :=
 a9i I hN hi hx r (fun s' I' _=>h s' I') hf
theorem Inv.call' {s':Shared} {ch:List Addr} (I:Inv X pins σ H s) (ho:s'.os=s.os) (u:Un (frs X.stack) ch H H' s.heap s'.heap) (hok:HOk X.prog X.w H' s'.heap) (hg:AllBare s'.gens)
  (hch:∀ b∈ch,(b∈X.ex ∨ X.s₀.heap.objs.size≤b)∧b≠X.env.locals∧(∀ x c,X.env.cells.lookup x=some c→c≠b)∧∀ p∈X.pn++pins,p.1≠b):Inv X pins σ H' s':=by
 obtain ⟨h',g',d',t',o'⟩:=s'
 have e:o'=s.os:=ho
 subst e
 exact I.call (g':=g') (t':=t') (d':=d') u hok hg hch
end
abbrev XK:=Value→Option Addr→Hp→Prop
abbrev St:=List (Option V)
abbrev VK:=V→Hp→Prop
abbrev TE:=St→Hp→VK→Prop
abbrev TT:=St→Hp→(Bool→Hp→Prop)→Prop
abbrev TA:=St→Hp→(List V→Hp→Prop)→Prop
structure Ends where
 nx:St→Hp→Prop
 rt:VK
 bk:St→Hp→Prop:=fun _ _=>False
 ct:St→Hp→Prop:=fun _ _=>False
abbrev TS:=Ends→St→Hp→Prop
def EP (X:Cx) (pins:List (Addr×Obj)) (σ:St) (Q:VK) (u:Value) (s':Shared):Prop:=∃ v H',Inv X pins σ H' s'∧RelV v u∧Q v H'
def TP (X:Cx) (pins:List (Addr×Obj)) (σ:St) (Q:Bool→Hp→Prop) (b:Bool) (s':Shared):Prop:=∃ H',Inv X pins σ H' s'∧Q b H'
def AP (X:Cx) (pins:List (Addr×Obj)) (σ:St) (Q:List V→Hp→Prop) (us:List Value) (s':Shared):Prop:=∃ vs H',Inv X pins σ H' s'∧Vals vs us∧Q vs H'
def SP (X:Cx) (pins:List (Addr×Obj)) (D:Ends) (f:Flow) (s':Shared):Prop :=
 match f with
 | .next=>∃ σ' H',Inv X pins σ' H' s'∧D.nx σ' H'
 | .brk=>∃ σ' H',Inv X pins σ' H' s'∧D.bk σ' H'
 | .cont=>∃ σ' H',Inv X pins σ' H' s'∧D.ct σ' H'
 | .ret u=>∃ v σ' H',Inv X pins σ' H' s'∧RelV v u∧D.rt v H'
def PE (X:Cx) (e:Expr) (t:TE):Prop :=
 ∀ (pins:List (Addr×Obj)) (s:Shared) (σ:St) (H:Hp) (Q:VK),Inv X pins σ H s→t σ H Q→wpAny (model X.prog X.w) X.A (eval e X.env) (EP X pins σ Q) X.xe s
def PT (X:Cx) (e:Expr) (t:TT):Prop :=
 ∀ (pins:List (Addr×Obj)) (s:Shared) (σ:St) (H:Hp) (Q:Bool→Hp→Prop),Inv X pins σ H s→t σ H Q→wpAny (model X.prog X.w) X.A (isTrue e X.env (eval e X.env)) (TP X pins σ Q) X.xe s
def PW (X:Cx) (e:Expr) (t:TT):Prop :=
 ∀ (whole:Sem Value) (pins:List (Addr×Obj)) (s:Shared) (σ:St) (H:Hp) (Q:Bool→Hp→Prop),Inv X pins σ H s→t σ H Q→wpAny (model X.prog X.w) X.A (isTrue e X.env whole) (TP X pins σ Q) X.xe s
theorem PW.pt {X:Cx} {e:Expr} {t:TT} (h:PW X e t):PT X e t:=h _
def PA (X:Cx) (es:List Expr) (t:TA):Prop :=
 ∀ (pos:Pos) (pins:List (Addr×Obj)) (s:Shared) (σ:St) (H:Hp) (Q:List V→Hp→Prop),Inv X pins σ H s→t σ H Q→wpAny (model X.prog X.w) X.A (spliced (backTo pos (starEach es X.env))) (AP X pins σ Q) X.xe s
def PS (X:Cx) (st:Stmt) (t:TS):Prop :=
 ∀ (pins:List (Addr×Obj)) (s:Shared) (σ:St) (H:Hp) (D:Ends),Inv X pins σ H s→t D σ H→wpAny (model X.prog X.w) X.A (exec st X.env) (SP X pins D) X.xe s
def PSs (X:Cx) (st:List Stmt) (t:TS):Prop :=
 ∀ (pins:List (Addr×Obj)) (s:Shared) (σ:St) (H:Hp) (D:Ends),Inv X pins σ H s→t D σ H→wpAny (model X.prog X.w) X.A (execs st X.env) (SP X pins D) X.xe s
theorem thn {α:Type} {t:Sem α} {Q Q':α→Shared→Prop} {M:Model} {A:Around} {E:Value→Shared→Prop} {s:Shared} (h:wpAny M A t Q E s) (hQ:∀ a s,Q a s→Q' a s):wpAny M A t Q' E s:=wpAny_mono h hQ fun _ _ x=>x
end L2
namespace L2
open PySem PySem.Spec PyProof.Rows
section
variable {X:Cx}
def c7j (i:Nat):TE:=fun σ H Q=>∃ v,σ[i]?=some (some v)∧Q v H
def tC (v:V):TE:=fun _ H Q=>Q v H
theorem b6s {i:Nat} {x:Str} {pos:Pos} (hN:X.N[i]?=some x) (hv:Vis X.env.scope x) (hd:(x == ("__debug__":Str))=false:=by decide) (hcd:(x == ("__classdict__":Str))=false:=by decide):PE X (.Name x pos) (c7j i):=by
 intro pins s σ H Q I h
 obtain ⟨v,e,h⟩:=h
 obtain ⟨m,hn,hl⟩:=I.loc
 obtain ⟨u,r,l⟩:=hl i x v hN e hv
 have fin:EP X pins σ Q u s:=⟨v,H,I,r,h⟩
 rcases l with ⟨hk,hm⟩ | ⟨hk,c,hc,hcell⟩
 ·exact wpAny_Name (wpAny_loadName_local I.ok.kind hk hn hm fin) hd
 ·rcases hk with hk | hk
  ·exact wpAny_Name (wpAny_loadName_cell I.ok.kind hk hc hcell fin) hd
  ·exact wpAny_Name (wpAny_loadName_free I.ok.kind hk hc hcell fin hcd) hd
theorem c9d {i j pos}:PE X (.Constant (.int i) j pos) (tC (.int i)):=fun _ _ _ H _ I h=>wpAny_Constant_int ⟨.int i,H,I.tok _,⟨_,rfl⟩,h⟩
theorem d5m {b j pos}:PE X (.Constant (.bool b) j pos) (tC (.bl b)):=fun _ _ _ H _ I h=>Constant_bool ⟨.bl b,H,I,rfl,h⟩
theorem c9b {j pos}:PE X (.Constant .none j pos) (tC .non):=fun _ _ _ H _ I h=>Constant_none ⟨.non,H,I,rfl,h⟩
def Gl (X:Cx) (x:Str):Prop:=X.env.kindOf x=some .globalImplicit
theorem c5q {E:Value→Shared→Prop} {pins:List (Addr×Obj)} {s:Shared} {σ:St} {H:Hp} {x:Str} {u:Value} {pos:Pos} {Q:Value→Shared→Prop} (I:Inv X pins σ H s) (hg:Gl X x) (hm:X.mg x=some u) (h:Q u s)
  (hd:(x == ("__debug__":Str))=false:=by decide):wpAny (model X.prog X.w) X.A (eval (.Name x pos) X.env) Q E s :=
 Calls.Name_function_global I.ok.kind hg (Calls.loadGlobal_global (by rw [I.ok.glob]; exact I.mod.glob.keeps I.bk) hm h) hd
theorem a2y {E:Value→Shared→Prop} {pins:List (Addr×Obj)} {s:Shared} {σ:St} {H:Hp} {x:Str} {u:Value} {pos:Pos} {Q:Value→Shared→Prop} (I:Inv X pins σ H s) (hg:Gl X x) (hm:X.mg x=none) (hv:bootBuiltins x=some u) (h:Q u s)
  (hn:x≠"__name__":=by decide) (hd:(x == ("__debug__":Str))=false:=by decide):wpAny (model X.prog X.w) X.A (eval (.Name x pos) X.env) Q E s:=by
 obtain ⟨mb,h1,h2⟩:=I.mod.blt
 exact Calls.Name_function_global I.ok.kind hg (Calls.loadGlobal_builtin (by rw [I.ok.glob]; exact I.mod.glob.keeps I.bk) hm (by rw [I.ok.blt]; exact h1.keeps I.bk) ((h2 x hn).trans hv) h) hd
theorem b6v {x:Str} {v:V} {u:Value} {pos:Pos} (hg:Gl X x) (hm:X.mg x=none) (hv:bootBuiltins x=some u) (r:RelV v u) (hn:x≠"__name__":=by decide) (hd:(x == ("__debug__":Str))=false:=by decide):PE X (.Name x pos) (tC v) :=
 fun _ _ _ H _ I h=>a2y I hg hm hv ⟨v,H,I,r,h⟩ hn hd
variable {a b:Expr} {ta tb:TE} {pos:Pos}
def PC (X:Cx) (op:CmpOp) (a b:Expr) (t:TE):Prop :=
 ∀ (pins:List (Addr×Obj)) (s:Shared) (σ:St) (H:Hp) (Q:VK),Inv X pins σ H s→t σ H Q →
  wpAny (model X.prog X.w) X.A (eval a X.env) (fun v s₁=>wpAny (model X.prog X.w) X.A (eval b X.env) (fun u s₂=>wpAny (model X.prog X.w) X.A (compareOp op v u) (EP X pins σ Q) X.xe s₂) X.xe s₁) X.xe s
theorem a1h (b:Expr) {op:CmpOp} (h:op≠.In) (h2:op≠.NotIn):behindInMarks op b=false:=by
 have e1:(op == CmpOp.In)=false:=by cases op <;> first | rfl | exact absurd rfl h
 have e2:(op == CmpOp.NotIn)=false:=by cases op <;> first | rfl | exact absurd rfl h2
 cases b <;> simp [behindInMarks,e1,e2]
def tIsN (ta:TE):TE:=fun σ H Q=>ta σ H fun x H1=>Q (.bl (decide (x=.non))) H1
def d4b (ta:TE):TE:=fun σ H Q=>ta σ H fun x H1=>Q (.bl (!decide (x=.non))) H1
theorem RelV.none_iff {x:V} {v:Value} (r:RelV x v):(v == Value.none)=decide (x=.non):=by
 cases x with
 | non=>cases r; rfl
 | bl _=>cases r; rfl
 | int _=>obtain ⟨t,rfl⟩:=r; rfl
 | str _=>obtain ⟨t,rfl⟩:=r; rfl
 | byt _=>obtain ⟨t,rfl⟩:=r; rfl
 | flt _=>obtain ⟨t,rfl⟩:=r; rfl
 | ref _=>cases r; rfl
 | ty _=>cases r; rfl
theorem c3c {j pos'} (ha:PE X a ta):PC X .Is a (.Constant .none j pos') (tIsN ta):=by
 intro pins s σ H Q I h
 refine thn (ha pins s σ H _ I h) fun v s1 ⟨x,H1,I1,r1,q1⟩=>?_
 exact Constant_none (is_none_gen ⟨.bl _,H1,I1,by rw [r1.none_iff]; rfl,q1⟩)
theorem c5i {j pos'} (ha:PE X a ta):PC X .IsNot a (.Constant .none j pos') (d4b ta):=by
 intro pins s σ H Q I h
 refine thn (ha pins s σ H _ I h) fun v s1 ⟨x,H1,I1,r1,q1⟩=>?_
 exact Constant_none (isnot_none_gen ⟨.bl _,H1,I1,by rw [r1.none_iff]; rfl,q1⟩)
def tB (t:TE):TT:=fun σ H Q=>t σ H fun x H1=>∃ c,x=.bl c∧Q c H1
theorem c9e {op:CmpOp} {t:TE} (h:PC X op a b t) (h1:behindInMarks op b=false:=by first | exact a1h _ (by decide) (by decide) | rfl):PE X (.Compare a [op] [b] pos) t:=fun pins s σ H Q I hw=>wpAny_Compare1 (h pins s σ H Q I hw) h1
theorem c2x {op:CmpOp} {t:TE} (h:PC X op a b t) (h1:behindInMarks op b=false:=by first | exact a1h _ (by decide) (by decide) | rfl):PT X (.Compare a [op] [b] pos) (tB t):=by
 intro pins s σ H Q I hw
 refine wpAny_isTrue_Compare1 (thn (h pins s σ H _ I hw) fun v s1 h1=>thn h1 fun u s2 h2=>thn h2 fun c s3 ⟨x,H1,I1,r1,q1⟩=>?_) h1
 obtain ⟨d,rfl,q⟩:=q1
 cases r1
 exact wpAny_truthy_bool ⟨H1,I1,q⟩
variable {tA tB':TT} {rest:List Expr}
def tAnd (t u:TT):TT:=fun σ H Q=>t σ H fun c H1=>if c=true then u σ H1 Q else Q false H1
def tOr (t u:TT):TT:=fun σ H Q=>t σ H fun c H1=>if c=true then Q true H1 else u σ H1 Q
def tNot (t:TT):TT:=fun σ H Q=>t σ H fun c H1=>Q (!c) H1
theorem c4p (ha:PT X a tA):PW X (.BoolOp .And [a] pos) tA:=by
 intro wh pins s σ H Q I h
 refine isTrue_and (thn (ha pins s σ H Q I h) fun c s1 e=>?_)
 cases c with
 | true=>exact isTrue_and_nil e
 | false=>exact e
theorem c8o (ha:PT X a tA):PW X (.BoolOp .Or [a] pos) tA:=by
 intro wh pins s σ H Q I h
 refine isTrue_or (thn (ha pins s σ H Q I h) fun c s1 e=>?_)
 cases c with
 | false=>exact isTrue_or_nil e
 | true=>exact e
theorem c8p (ha:PT X a tA) (hb:PW X (.BoolOp .And (b :: rest) pos) tB'):PW X (.BoolOp .And (a :: b :: rest) pos) (tAnd tA tB'):=by
 intro wh pins s σ H Q I h
 refine isTrue_and (thn (ha pins s σ H _ I h) fun c s1 ⟨H1,I1,q1⟩=>?_)
 cases c with
 | true=>exact hb wh pins s1 σ H1 Q I1 q1
 | false=>exact ⟨H1,I1,q1⟩
theorem d5h (ha:PT X a tA) (hb:PW X (.BoolOp .Or (b :: rest) pos) tB'):PW X (.BoolOp .Or (a :: b :: rest) pos) (tOr tA tB'):=by
 intro wh pins s σ H Q I h
 refine isTrue_or (thn (ha pins s σ H _ I h) fun c s1 ⟨H1,I1,q1⟩=>?_)
 cases c with
 | true=>exact ⟨H1,I1,q1⟩
 | false=>exact hb wh pins s1 σ H1 Q I1 q1
theorem c8q (ha:PT X a tA):PT X (.UnaryOp .Not a pos) (tNot tA):=by
 intro pins s σ H Q I h
 exact isTrue_not (ha pins s σ H (fun c H1=>Q (!c) H1) I h)
def d4a (ta:TE):TE:=fun σ H Q=>ta σ H fun x H1=>∃ c,x=.bl c∧Q (.bl (!c)) H1
theorem c8z {op} {t:TE} (h:PE X a t):PE X (.BoolOp op [a] pos) t:=fun pins s σ H Q I hw=>BoolOp_one (h pins s σ H Q I hw)
theorem c9a (ha:PE X a ta):PE X (.UnaryOp .Not a pos) (d4a ta):=by
 intro pins s σ H Q I h
 refine UnaryOp_ (thn (ha pins s σ H _ I h) fun v s1 ⟨x,H1,I1,r1,q1⟩=>?_)
 obtain ⟨c,rfl,q1⟩:=q1
 cases r1
 exact not_of (wpAny_truthy_bool ⟨.bl (!c),H1,I1,rfl,q1⟩)
def tIf (t:TT) (ta tb:TE):TE:=fun σ H Q=>t σ H fun c H1=>if c=true then ta σ H1 Q else tb σ H1 Q
theorem c0u {c:Expr} (hc:PT X c tA) (ha:PE X a ta) (hb:PE X b tb):PE X (.IfExp c a b pos) (tIf tA ta tb):=by
 intro pins s σ H Q I h
 refine wpAny_IfExp (thn (hc pins s σ H _ I h) fun d s1 ⟨H1,I1,q1⟩=>?_)
 cases d with
 | true=>exact ha pins s1 σ H1 Q I1 q1
 | false=>exact hb pins s1 σ H1 Q I1 q1
end
end L2
namespace L2
open PySem PySem.Spec PyProof.Rows
def SqL (K:Γd) (H:Hp) (a:Addr) (xs:List V):Prop :=
 Rd H a (.lst xs) ∨
  ∃ (o:Obj) (its:Array Value) (n:Nat),K.lookup a=some o∧o.cls=.type "list"∧o.dict=none∧o.data=.seq its n∧its.size≤sizeLine∧Vals xs its.toList
def SqT (K:Γd) (H:Hp) (a:Addr) (xs:List V):Prop :=
 Rd H a (.tup xs) ∨
  ∃ (o:Obj) (its:Array Value) (n:Nat),K.lookup a=some o∧o.cls=.type "tuple"∧o.data=.seq its n∧its.size≤sizeLine∧Vals xs its.toList
def absV:Value→Option V
 | .none=>some .non
 | .bool b=>some (.bl b)
 | .int i _=>some (.int i)
 | .str x _=>some (.str x)
 | .bytes b _=>some (.byt b)
 | .float b _=>some (.flt b)
 | .ref a=>some (.ref a)
 | .type n=>some (.ty n)
 | _=>none
theorem RelV.abs {x:V} {u:Value} (r:RelV x u):absV u=some x:=by
 cases x with
 | non=>cases r; rfl
 | bl _=>cases r; rfl
 | int _=>obtain ⟨t,rfl⟩:=r; rfl
 | str _=>obtain ⟨t,rfl⟩:=r; rfl
 | byt _=>obtain ⟨t,rfl⟩:=r; rfl
 | flt _=>obtain ⟨t,rfl⟩:=r; rfl
 | ref _=>cases r; rfl
 | ty _=>cases r; rfl
theorem RelV.inj {x y:V} {u:Value} (r:RelV x u) (q:RelV y u):x=y:=Option.some.inj (r.abs.symm.trans q.abs)
theorem Vals.inj:∀ {xs ys:List V} {us:List Value},Vals xs us→Vals ys us→xs=ys
 | _,_,_,.nil,.nil=>rfl
 | _,_,_,.cons r t,.cons r' t'=>by rw [r.inj r',Vals.inj t t']
section
variable {X:Cx} {pins:List (Addr×Obj)} {σ:St} {H:Hp} {s:Shared} {a:Addr} {xs ys:List V}
theorem SqL.of {K:Γd} (h:H a=some (.lst xs)):SqL K H a xs:=.inl (.inl h)
theorem SqT.of {K:Γd} (h:H a=some (.tup xs)):SqT K H a xs:=.inl (.inl h)
theorem Inv.list (I:Inv X pins σ H s) (h:SqL X.K H a xs):∃ its:List Value,Vals xs its∧PlainL s.heap a its.toArray∧xs.length≤sizeLine:=by
 rcases h with h | ⟨o,its,n,hk,hc,hd,hs,hz,r⟩
 ·obtain ⟨z,its,n,r,e⟩:=h.ok I.hok
  exact ⟨its,r,⟨_,n,e,rfl,rfl,rfl⟩,z⟩
 ·refine ⟨its.toList,r,⟨o,n,I.kIn a o hk,hc,hd,by simpa using hs⟩,?_⟩
  have e:=r.length
  simp only [Array.length_toList] at e
  lia
theorem Inv.tuple (I:Inv X pins σ H s) (h:SqT X.K H a xs):∃ its:List Value,Vals xs its∧IsTup s.heap a its.toArray∧xs.length≤sizeLine:=by
 rcases h with h | ⟨o,its,n,hk,hc,hs,hz,r⟩
 ·obtain ⟨z,its,r,p⟩:=h.ok I.hok
  exact ⟨its,r,p,z⟩
 ·refine ⟨its.toList,r,⟨o,I.kIn a o hk,hc,n,by simpa using hs⟩,?_⟩
  have e:=r.length
  simp only [Array.length_toList] at e
  lia
theorem Inv.list_inj (I:Inv X pins σ H s) (h:SqL X.K H a xs) (h':SqL X.K H a ys):xs=ys:=by
 obtain ⟨its,r,⟨o,n,e,_,_,d⟩,_⟩:=I.list h
 obtain ⟨its',r',⟨o',n',e',_,_,d'⟩,_⟩:=I.list h'
 rw [e] at e'; cases e'
 rw [d] at d'
 injection d' with d1 _
 have:its=its':=by simpa using congrArg Array.toList d1
 subst this
 exact r.inj r'
theorem Inv.tuple_inj (I:Inv X pins σ H s) (h:SqT X.K H a xs) (h':SqT X.K H a ys):xs=ys:=by
 obtain ⟨its,r,⟨o,e,_,n,d⟩,_⟩:=I.tuple h
 obtain ⟨its',r',⟨o',e',_,n',d'⟩,_⟩:=I.tuple h'
 rw [e] at e'; cases e'
 rw [d] at d'
 injection d' with d1 _
 have:its=its':=by simpa using congrArg Array.toList d1
 subst this
 exact r.inj r'
end
abbrev Cx.wish (X:Cx) (E:Value→Shared→Prop):Cx:={ X with xe:=E }
abbrev Cx.nox (X:Cx):Cx:=X.wish fun _ _=>False
theorem Cx.Ok.wish {X:Cx} (ok:X.Ok) (E:Value→Shared→Prop):(X.wish E).Ok :=
 ⟨ok.mod,ok.kind,ok.glob,ok.blt,ok.above,ok.inj,ok.has,ok.cab,ok.hd,ok.frames,ok.stk,ok.exf,ok.bs,ok.bsz,ok.noex,ok.exfs,ok.funs,ok.frf⟩
theorem Cx.Ok.unwish {X:Cx} {E:Value→Shared→Prop} (ok:(X.wish E).Ok):X.Ok :=
 ⟨ok.mod,ok.kind,ok.glob,ok.blt,ok.above,ok.inj,ok.has,ok.cab,ok.hd,ok.frames,ok.stk,ok.exf,ok.bs,ok.bsz,ok.noex,ok.exfs,ok.funs,ok.frf⟩
section
variable {X:Cx} {pins:List (Addr×Obj)} {σ:St} {H:Hp} {s:Shared} {E:Value→Shared→Prop}
theorem Inv.wish (I:Inv X pins σ H s) (E:Value→Shared→Prop):Inv (X.wish E) pins σ H s:=⟨I.ok.wish E,I.os,I.bare,I.base,I.loc,I.cell,I.free,I.freeC,I.pin,I.hok,I.len⟩
theorem Inv.unwish (I:Inv (X.wish E) pins σ H s):Inv X pins σ H s:=⟨I.ok.unwish,I.os,I.bare,I.base,I.loc,I.cell,I.free,I.freeC,I.pin,I.hok,I.len⟩
theorem SP.unwish {D:Ends} {f:Flow} {s':Shared} (h:SP (X.wish E) pins D f s'):SP X pins D f s':=by
 cases f with
 | next=>obtain ⟨σ',H',I,q⟩:=h; exact ⟨σ',H',I.unwish,q⟩
 | brk=>obtain ⟨σ',H',I,q⟩:=h; exact ⟨σ',H',I.unwish,q⟩
 | cont=>obtain ⟨σ',H',I,q⟩:=h; exact ⟨σ',H',I.unwish,q⟩
 | ret u=>obtain ⟨v,σ',H',I,r,q⟩:=h; exact ⟨v,σ',H',I.unwish,r,q⟩
theorem PE.nox {e:Expr} {t:TE} (h:PE X.nox e t):PE X e t:=fun pins s σ H Q I hw =>
 wpAny_mono (h pins s σ H Q (I.wish _) hw) (fun _ _ ⟨v,H',I',r,q⟩=>⟨v,H',I'.unwish,r,q⟩) fun _ _ z=>False.elim z
theorem PT.nox {e:Expr} {t:TT} (h:PT X.nox e t):PT X e t:=fun pins s σ H Q I hw =>
 wpAny_mono (h pins s σ H Q (I.wish _) hw) (fun _ _ ⟨H',I',q⟩=>⟨H',I'.unwish,q⟩) fun _ _ z=>False.elim z
theorem PSs.nox {st:List Stmt} {t:TS} (h:PSs X.nox st t):PSs X st t:=fun pins s σ H D I hw =>
 wpAny_mono (h pins s σ H D (I.wish _) hw) (fun _ _ q=>q.unwish) fun _ _ z=>False.elim z
end
section
variable {X:Cx} {st:Stmt} {rest:List Stmt} {t u:TS} {e:Expr} {te:TE} {pos:Pos}
def d4c:TS:=fun D σ H=>D.nx σ H
def tSeq (t u:TS):TS:=fun D σ H=>t { D with nx:=u D } σ H
theorem c4s:PSs X [] d4c:=fun _ _ σ H _ I h=>wpAny_execs_nil ⟨σ,H,I,h⟩
theorem c0o (h1:PS X st t) (h2:PSs X rest u):PSs X (st :: rest) (tSeq t u):=by
 intro pins s σ H D I h
 refine wpAny_execs_cons (thn (h1 pins s σ H { D with nx:=u D } I h) fun f s1 q=>?_)
 cases f with
 | next =>
  obtain ⟨σ',H',I',q⟩:=q
  exact h2 pins s1 σ' H' D I' q
 | ret v=>exact q
 | brk=>exact q
 | cont=>exact q
theorem c4r (h1:PS X st t):PSs X [st] t:=by
 intro pins s σ H D I h
 refine wpAny_execs_cons (thn (h1 pins s σ H D I h) fun f s1 q=>?_)
 cases f with
 | next=>exact wpAny_execs_nil q
 | ret v=>exact q
 | brk=>exact q
 | cont=>exact q
theorem Inv.quiet {pins:List (Addr×Obj)} {σ:St} {H:Hp} {s:Shared} (I:Inv X pins σ H s):interactive X.env=false:=by simp [interactive,I.ok.kind]
def d4e (te:TE):TS:=fun D σ H=>te σ H fun _ H1=>D.nx σ H1
theorem c4u (he:PE X e te) (hs:swapsWith e none pos.line X.env=pure false:=by rfl):PS X (.Expr e pos) (d4e te):=by
 intro pins s σ H D I h
 exact wpAny_Expr_any (thn (he pins s σ H _ I h) fun v s1 ⟨x,H1,I1,r1,q1⟩=>⟨σ,H1,I1,q1⟩) I.quiet hs
def tRet (te:TE):TS:=fun D σ H=>te σ H D.rt
theorem b6j (he:PE X e te):PS X (.Return (some e) pos) (tRet te):=by
 intro pins s σ H D I h
 exact wpAny_Return_some (thn (he pins s σ H _ I h) fun v s1 ⟨x,H1,I1,r1,q1⟩=>⟨x,σ,H1,I1,r1,q1⟩)
def tIfS (c:TT) (t u:TS):TS:=fun D σ H=>c σ H fun b H1=>if b=true then t D σ H1 else u D σ H1
theorem d5i {c:Expr} {a b:List Stmt} {tc:TT} (hc:PT X c tc) (ha:PSs X a t) (hb:PSs X b u):PS X (.If c a b pos) (tIfS tc t u):=by
 intro pins s σ H D I h
 refine wpAny_If (thn (hc pins s σ H _ I h) fun d s1 ⟨H1,I1,q1⟩=>?_)
 cases d with
 | true=>exact ha pins s1 σ H1 D I1 q1
 | false=>exact hb pins s1 σ H1 D I1 q1
end
abbrev TG:=V→St→Hp→(St→Hp→Prop)→Prop
abbrev TGs:=List V→St→Hp→(St→Hp→Prop)→Prop
def PG (X:Cx) (target:Expr) (t:TG):Prop :=
 ∀ (pins:List (Addr×Obj)) (s:Shared) (σ:St) (H:Hp) (v:V) (u:Value) (Q:St→Hp→Prop),Inv X pins σ H s→RelV v u→t v σ H Q →
  wpAny (model X.prog X.w) X.A (assign target X.env u) (fun _ s'=>∃ σ' H',Inv X pins σ' H' s'∧Q σ' H') X.xe s
def PGs (X:Cx) (ts:List Expr) (t:TGs):Prop :=
 ∀ (pins:List (Addr×Obj)) (s:Shared) (σ:St) (H:Hp) (vs:List V) (us:List Value) (Q:St→Hp→Prop),Inv X pins σ H s→Vals vs us→t vs σ H Q →
  wpAny (model X.prog X.w) X.A (assignInOrder ((assignEach ts X.env).map (·.2)) us) (fun _ s'=>∃ σ' H',Inv X pins σ' H' s'∧Q σ' H') X.xe s
abbrev d9s:=V→V→V→Hp→(Hp→Prop)→Prop
def PSet (X:Cx) (t:d9s):Prop :=
 ∀ (pins:List (Addr×Obj)) (s:Shared) (σ:St) (H:Hp) (o i v:V) (ov iv u:Value) (Q:Hp→Prop),Inv X pins σ H s→RelV o ov→RelV i iv→RelV v u→t o i v H Q →
  wpAny (model X.prog X.w) X.A (setItem ov iv u) (fun _ s'=>∃ H',Inv X pins σ H' s'∧Q H') X.xe s
section
variable {X:Cx} {pos:Pos}
def a5u (i:Nat):TG:=fun v σ H Q=>Q (σ.set i (some v)) H
theorem c5b {i:Nat} {x:Str} (hN:X.N.Nodup) (hi:X.N[i]?=some x) (hx:Loc X.env.scope x) (hf:X.fn x=true ∨ X.env.scope.names.lookup x=some .local:=by first | exact .inl rfl | exact .inr rfl | assumption):PG X (.Name x pos) (a5u i):=by
 intro pins s σ H v u Q I r h
 exact wpAny_assign_Name (b2f I hN hi hx r (fun s' I'=>⟨_,H,I',h⟩) hf)
def d6p:TGs:=fun vs σ H Q=>vs=[]∧Q σ H
def c1s (t:TG) (u:TGs):TGs:=fun vs σ H Q=>∃ v r,vs=v :: r∧t v σ H fun σ' H'=>u r σ' H' Q
theorem c5a:PGs X [] d6p:=by
 intro pins s σ H vs us Q I r h
 obtain ⟨e,h⟩:=h
 subst e
 cases r
 exact assignInOrder_nil ⟨σ,H,I,h⟩
theorem c0s {e:Expr} {es:List Expr} {t:TG} {u:TGs} (h1:PG X e t) (h2:PGs X es u)
  (hs:(assignEach (e :: es) X.env).map (·.2)=assign e X.env :: (assignEach es X.env).map (·.2):=by rfl):PGs X (e :: es) (c1s t u):=by
 intro pins s σ H vs us Q I r h
 obtain ⟨v,vr,e1,h⟩:=h
 subst e1
 cases r with
 | cons r rr =>
  rw [hs]
  refine assignInOrder_cons (thn (h1 pins s σ H _ _ _ I r h) fun _ s1 ⟨σ1,H1,I1,q1⟩=>?_)
  exact h2 pins s1 σ1 H1 _ _ Q I1 rr q1
def d2x (K:Γd) (n:Nat) (t:TGs):TG:=fun v σ H Q=>∃ a xs,v=.ref a∧SqT K H a xs∧xs.length=n∧t xs σ H Q
theorem c8v {es:List Expr} {k:Nat} {t:TGs} {n:Nat} (hc:X.calm=true) (h:PGs X es t)
  (hn:(assignEach es X.env).length=n:=by rfl) (hst:(assignEach es X.env).findIdx? (·.1)=none:=by rfl):PG X (.Tuple es k pos) (d2x X.K n t):=by
 intro pins s σ H v u Q I r hw
 obtain ⟨a,xs,e1,hq,hl,hw⟩:=hw
 subst e1
 cases r
 obtain ⟨its,rv,ht,hz⟩:=I.tuple hq
 refine assign_Tuple_tuple (I.ok.hd hc) ht (by simp [hn,← hl,rv.length]) hst fun h' hx=>?_
 have I1:Inv X pins σ H { s with heap:=h' }:=I.kept (t':=s.toks) fun b o e=>hx b o (Γo (Γl e)) e
 exact h pins _ σ H xs _ Q I1 (by simpa using rv) hw
def gSub (to ti:TE) (t:d9s):TG:=fun v σ H Q=>to σ H fun o H1=>ti σ H1 fun i H2=>t o i v H2 fun H3=>Q σ H3
theorem c8w {o i:Expr} {to ti:TE} {t:d9s} (ho:PE X o to) (hi:PE X i ti) (hs:PSet X t)
  (ha:∀ v,assign (.Subscript o i pos) X.env v=(do
   let ov ← holding [v] (eval o X.env)
   let iv ← holding [v,ov] (eval i X.env)
   standAt pos
   holding [v,ov,iv] (setItem ov iv v)
   release [v,ov,iv] []):=by intro _; rfl):PG X (.Subscript o i pos) (gSub to ti t):=by
 intro pins s σ H v u Q I r h
 rw [ha]
 refine Γa (Γg (thn (ho pins s σ H _ I h) fun ov s1 ⟨x,H1,I1,r1,q1⟩=>?_))
 refine Γa (Γg (thn (hi pins s1 σ H1 _ I1 q1) fun iv s2 ⟨y,H2,I2,r2,q2⟩=>?_))
 refine Γa (wpAny_standAt (Γa (Γg (thn (hs pins s2 σ H2 x y v ov iv u _ I2 r1 r2 r q2) fun _ s3 ⟨H3,I3,q3⟩=>?_))))
 exact wpAny_release ⟨σ,H3,I3,q3⟩
def c2t (te:TE) (g:TG):TS:=fun D σ H=>te σ H fun x H1=>g x σ H1 D.nx
theorem c2y {tg e:Expr} {te:TE} {g:TG} (he:PE X e te) (hg:PG X tg g) (hs:swapsWithSole [tg] e pos.line X.env=pure false:=by rfl) (hw:swappedStores [tg] e X.env=pure none:=by rfl)
  (h1:(assignEach [tg] X.env).map (·.2)=[assign tg X.env]:=by rfl):PS X (.Assign [tg] e pos) (c2t te g):=by
 intro pins s σ H D I h
 refine wpAny_Assign_stores (thn (he pins s σ H _ I h) fun v s1 ⟨x,H1,I1,r1,q1⟩=>?_) hs hw
 rw [h1]
 exact thn (hg pins s1 σ H1 x v _ I1 r1 q1) fun _ s2 q=>q
theorem c8r {i:Nat} {x:Str} {e:Expr} {te:TE} {pos':Pos} (hN:X.N.Nodup) (hi:X.N[i]?=some x) (hx:Loc X.env.scope x) (he:PE X e te) (hs:swapsWith e (some (.Name x pos')) pos.line X.env=pure false:=by rfl) (hf:X.fn x=true ∨ X.env.scope.names.lookup x=some .local:=by first | exact .inl rfl | exact .inr rfl | assumption) :
  PS X (.Assign [.Name x pos'] e pos) (c2t te (a5u i)):=by
 intro pins s σ H D I h
 refine wpAny_Assign_Name (thn (he pins s σ H _ I h) fun v s1 ⟨y,H1,I1,r1,q1⟩=>?_) hs
 exact b2f I1 hN hi hx r1 (fun s2 I2=>⟨_,H1,I2,q1⟩) hf
end
section
variable {X:Cx} {pos:Pos}
def c2s (c:TT) (tb:TS):TS:=fun D σ H=>∃ W:Nat→St→Hp→Prop,(∃ m,W m σ H)∧∀ m σ H,W m σ H →
 c σ H fun b H1=>if b=true then ∃ N:St→Hp→Prop,(∀ σ' H',N σ' H'→∃ m',m' < m∧W m' σ' H')∧tb { D with nx:=N,ct:=N,bk:=D.nx } σ H1 else D.nx σ H1
theorem c0p {c:Expr} {body:List Stmt} {tc:TT} {tb:TS} (hp:PassesOwn (model X.prog X.w) X.A X.env X.xe) (hc:PT X c tc) (hb:PSs X body tb):PS X (.While c body [] pos) (c2s tc tb):=by
 intro pins s σ H D I h
 obtain ⟨W,⟨m0,w0⟩,turn⟩:=h
 refine wpAny_While (codeAny_whileLoop (fun n s'=>∃ σ' H',Inv X pins σ' H' s'∧W n σ' H') ?_ m0 ⟨σ,H,I,w0⟩)
 rintro n s1 ⟨σ1,H1,I1,w1⟩
 refine wpAny_passesOwn hp (thn (hc pins s1 σ1 H1 _ I1 (turn n σ1 H1 w1)) fun b s2 ⟨H2,I2,q2⟩=>?_)
 cases b with
 | true =>
  obtain ⟨N,hN,q2⟩:=q2
  rw [if_pos rfl]
  refine wpAny_passesOwn hp (thn (hb pins s2 σ1 H2 _ I2 q2) fun f s3 q3=>?_)
  cases f with
  | next =>
   obtain ⟨σ3,H3,I3,n3⟩:=q3
   obtain ⟨m',hm,w3⟩:=hN σ3 H3 n3
   exact ⟨m',hm,σ3,H3,I3,w3⟩
  | cont =>
   obtain ⟨σ3,H3,I3,n3⟩:=q3
   obtain ⟨m',hm,w3⟩:=hN σ3 H3 n3
   exact ⟨m',hm,σ3,H3,I3,w3⟩
  | brk=>exact q3
  | ret v=>exact q3
 | false =>
  rw [if_neg Γk]
  exact wpAny_execs_nil ⟨σ1,H2,I2,q2⟩
end
structure It where
 go:Nat→Hp→Prop
 yld:Nat→Hp→V→Hp→Prop
 stop:Nat→Hp→Prop
def b3t (X:Cx) (pins:List (Addr×Obj)) (H:Hp) (b:Addr):Prop :=
 H b=none∧b≠X.env.locals∧b ∉ X.fs∧(b∈X.ex ∨ X.s₀.heap.objs.size≤b)∧(∀ x c,X.env.cells.lookup x=some c→c≠b)∧∀ p∈X.pn++pins,p.1≠b
theorem Inv.fpOk {X:Cx} {pins:List (Addr×Obj)} {σ:St} {H H':Hp} {s:Shared} {b:Addr} (I:Inv X pins σ H s) (hb:s.heap.objs.size≤b) (hn:H' b=none):b3t X pins H' b:=by
 refine ⟨hn,Nat.ne_of_gt (Nat.lt_of_lt_of_le I.lt hb),I.nofs hb,.inr (Nat.le_trans I.sz hb),fun x c e z=>?_,fun p hp z=>?_⟩
 ·obtain ⟨v,q⟩:=I.cell x c e
  exact absurd (Nat.lt_of_lt_of_le q.lt (by rw [z]; exact hb)) (Nat.lt_irrefl _)
 ·exact absurd (Nat.lt_of_lt_of_le (Γl (I.pin p hp).1) (by rw [z]; exact hb)) (Nat.lt_irrefl _)
structure Turn (P:Program) (w:World) (K:Γd) (tg:Expr) (J:It) (fp:List Addr) (it:Addr) (tn:Nat→Heap→Prop):Prop where
 mem:it∈fp
 obj:∀ i h,tn i h→∀ b∈fp,∃ o,h.get? b=some o∧∀ v,o.data≠.cell v
 keep:∀ i h h',tn i h→(∀ b∈fp,∀ o,h.get? b=some o→h'.get? b=some o)→tn i h'
 item:∀ (X:Cx),X.prog=P→X.w=w→X.K=K→X.calm=true→∀ (i:Nat) (pins:List (Addr×Obj)) (s:Shared) (σ:St) (H:Hp) (E:Value→Shared→Prop),Inv X pins σ H s→(∀ b∈fp,b3t X pins H b)→tn i s.heap→J.go i H →
  wpAny (model P w) X.A (pyNext (.ref it)) (fun r s1=>∃ u,r=some u ∧
   wpAny (model P w) X.A (letOwnedTupleGo tg (.ref it) u) (fun _ s2=>∃ x H',Inv X pins σ H' s2∧RelV x u∧J.yld i H x H'∧tn (i + 1) s2.heap∧∀ b∈fp,H' b=none) E s1) E s
 done:∀ (X:Cx),X.prog=P→X.w=w→X.K=K→X.calm=true→∀ (i:Nat) (pins:List (Addr×Obj)) (s:Shared) (σ:St) (H:Hp) (E:Value→Shared→Prop),Inv X pins σ H s→(∀ b∈fp,b3t X pins H b)→tn i s.heap→J.stop i H →
  wpAny (model P w) X.A (pyNext (.ref it)) (fun r s1=>r=none∧Inv X pins σ H s1) E s
 self:∀ (A:Around) (i:Nat) (s:Shared) (Q:Value→Shared→Prop) (E:Value→Shared→Prop),tn i s.heap→Q (.ref it) s→wpAny (model P w) A (pyIter (.ref it)) Q E s
abbrev TI:=St→Hp→(It→Hp→Prop)→Prop
def PIE (X:Cx) (pins:List (Addr×Obj)) (σ:St) (tg:Expr) (R:It→Hp→Prop) (itv:Value) (s2:Shared):Prop :=
 ∃ (it:Addr) (fp:List Addr) (tn:Nat→Heap→Prop) (J:It) (H':Hp),itv=.ref it∧Inv X pins σ H' s2∧Turn X.prog X.w X.K tg J fp it tn∧tn 0 s2.heap∧(∀ b∈fp,b3t X pins H' b)∧R J H'
def PI (X:Cx) (tg iter:Expr) (wi:TI):Prop :=
 ∀ (pins:List (Addr×Obj)) (s:Shared) (σ:St) (H:Hp) (R:It→Hp→Prop),Inv X pins σ H s→wi σ H R →
  wpAny (model X.prog X.w) X.A (eval iter X.env) (fun v s1=>wpAny (model X.prog X.w) X.A (pyIter v) (PIE X pins σ tg R) X.xe s1) X.xe s
theorem b7z {M : Model} {A : Around} {E : Value → Shared → Prop} {s : Shared} {tg : Expr} {it : Addr} {u : Value} {o : Obj} {n : String} {vs : Array Value} {Q : Unit → Shared → Prop} (ho : s.heap.get? it = some o) (hc : o.cls = .type n) (hd : o.data = .fields vs)
    (hn : ["enumerate", "zip", "dict_itemiterator", "dict_reverseitemiterator", "odict_iterator", "itertools.zip_longest", "itertools.pairwise"].contains n = false) (hQ : Q () s) : wpAny M A (letOwnedTupleGo tg (.ref it) u) Q E s := by
  unfold letOwnedTupleGo
  cases tg <;> first
    | exact Γb hQ
    | (cases u <;> first
        | exact Γb hQ
        | (refine Γa (wpAny_load ho ?_)
           rw [hc, hd]
           show wpAny M A (if (["enumerate", "zip", "dict_itemiterator", "dict_reverseitemiterator", "odict_iterator", "itertools.zip_longest", "itertools.pairwise"].contains n && vs[0]? == some (rawInt _)) = true then _ else _) Q E s
           rw [if_neg (by intro h; rw [hn, Bool.false_and] at h; cases h)]
           exact Γb hQ))
def Itl (K:Γd) (a:Addr):It :=
 ⟨fun i H=>∃ xs x,SqL K H a xs∧xs[i]?=some x,fun i H x H'=>H'=H∧∀ xs,SqL K H a xs→xs[i]?=some x,fun i H=>∃ xs,SqL K H a xs∧xs.length≤i⟩
def Itt (K:Γd) (a:Addr):It :=
 ⟨fun i H=>∃ xs x,SqT K H a xs∧xs[i]?=some x,fun i H x H'=>H'=H∧∀ xs,SqT K H a xs→xs[i]?=some x,fun i H=>∃ xs,SqT K H a xs∧xs.length≤i⟩
def Itr (lo:Int) (n:Nat):It:=⟨fun i _=>i < n,fun i H x H'=>H'=H∧x=.int (lo + i),fun i _=>n≤i⟩
theorem b5q {P:Program} {w:World} {K:Γd} {tg:Expr} (a it:Addr):Turn P w K tg (Itl K a) [it] it (fun i h=>h.IsListIter it a i) where
 mem:=by simp
 obj:=fun i h st b hb=>by
  have e:b=it:=by simpa using hb
  subst e
  obtain ⟨o,e,c,d⟩:=st
  exact ⟨o,e,fun v z=>by rw [d] at z; cases z⟩
 keep:=fun i h h' st k=>st.at fun o e=>k it (by simp) o e
 item:=by
  intro X hP hw hK hc i pins s σ H E I hf st hg
  subst hP hw hK
  obtain ⟨xs,x,hq,hx⟩:=hg
  obtain ⟨its,rv,p,hz⟩:=I.list hq
  obtain ⟨u,hu,ru⟩:=rv.get hx
  obtain ⟨f0,f1,f2,f3,f4,f5⟩:=hf it (by simp)
  refine wpAny_pyNext_list_item st p.isList (x:=u) (by simpa using hu) fun h' st' sb=>?_
  have I1:Inv X pins σ H { s with heap:=h' }:=I.turned (t':=s.toks) (fun b o hb e=>(sb.2 b hb).trans e) f0 f1 f3 f4 f5
  obtain ⟨o,e,c,d⟩:=id st'
  exact ⟨u,rfl,b7z (s:={ s with heap:=h' }) e c d (by decide) ⟨x,H,I1,ru,⟨rfl,fun ys hy=>by rw [I.list_inj hy hq]; exact hx⟩,st',fun b hb=>(hf b hb).1⟩⟩
 done:=by
  intro X hP hw hK hc i pins s σ H E I hf st hg
  subst hP hw hK
  obtain ⟨xs,hq,hx⟩:=hg
  obtain ⟨its,rv,p,hz⟩:=I.list hq
  obtain ⟨f0,f1,f2,f3,f4,f5⟩:=hf it (by simp)
  have hl:=rv.length
  exact wpAny_pyNext_list_end (I.ok.hd hc) st p.isList (by simp; lia) fun h' eb=>⟨rfl,I.turned (t':=s.toks) (fun b o hb e=>eb b o hb e) f0 f1 f3 f4 f5⟩
 self:=fun _ _ _ _ _ st h=>wpAny_pyIter_listiter st h
theorem b3w {P:Program} {w:World} {K:Γd} {tg:Expr} (a it:Addr):Turn P w K tg (Itt K a) [it] it (fun i h=>h.IsTupleIter it a i) where
 mem:=by simp
 obj:=fun i h st b hb=>by
  have e:b=it:=by simpa using hb
  subst e
  obtain ⟨o,e,c,d⟩:=st
  exact ⟨o,e,fun v z=>by rw [d] at z; cases z⟩
 keep:=fun i h h' st k=>st.at fun o e=>k it (by simp) o e
 item:=by
  intro X hP hw hK hc i pins s σ H E I hf st hg
  subst hP hw hK
  obtain ⟨xs,x,hq,hx⟩:=hg
  obtain ⟨its,rv,p,hz⟩:=I.tuple hq
  obtain ⟨u,hu,ru⟩:=rv.get hx
  obtain ⟨f0,f1,f2,f3,f4,f5⟩:=hf it (by simp)
  refine wpAny_pyNext_tuple_item st (show s.heap.IsTuple a its.toArray from p) (x:=u) (by simpa using hu) fun h' st' sb=>?_
  have I1:Inv X pins σ H { s with heap:=h' }:=I.turned (t':=s.toks) (fun b o hb e=>(sb.2 b hb).trans e) f0 f1 f3 f4 f5
  obtain ⟨o,e,c,d⟩:=id st'
  exact ⟨u,rfl,b7z (s:={ s with heap:=h' }) e c d (by decide) ⟨x,H,I1,ru,⟨rfl,fun ys hy=>by rw [I.tuple_inj hy hq]; exact hx⟩,st',fun b hb=>(hf b hb).1⟩⟩
 done:=by
  intro X hP hw hK hc i pins s σ H E I hf st hg
  subst hP hw hK
  obtain ⟨xs,hq,hx⟩:=hg
  obtain ⟨its,rv,p,hz⟩:=I.tuple hq
  obtain ⟨f0,f1,f2,f3,f4,f5⟩:=hf it (by simp)
  have hl:=rv.length
  exact wpAny_pyNext_tuple_end (I.ok.hd hc) st (show s.heap.IsTuple a its.toArray from p) (by simp; lia) fun h' eb=>⟨rfl,I.turned (t':=s.toks) (fun b o hb e=>eb b o hb e) f0 f1 f3 f4 f5⟩
 self:=fun _ _ _ _ _ st h=>wpAny_pyIter_tupleiter st h
theorem b3x {P:Program} {w:World} {K:Γd} {tg:Expr} (it:Addr) (lo:Int) (n:Nat):Turn P w K tg (Itr lo n) [it] it (fun i h=>IsRangeIter h it (lo + (i:Nat) * 1) ((n:Int) - (i:Nat)) 1) where
 mem:=by simp
 obj:=fun i h st b hb=>by
  have e:b=it:=by simpa using hb
  subst e
  exact ⟨_,st,fun v z=>by
   have z':Data.fields _=Data.cell v:=z
   cases z'⟩
 keep:=fun i h h' st k=>k it (by simp) _ st
 item:=by
  intro X hP hw hK hc i pins s σ H E I hf st hg
  subst hP hw hK
  obtain ⟨f0,f1,f2,f3,f4,f5⟩:=hf it (by simp)
  have W:=Walks.range (prog:=X.prog) (w:=X.w) (I.ok.hd hc) it lo 1 n
  refine W.item i s _ _ hg st fun v h' tk hv st' kk=>?_
  obtain ⟨t,rfl⟩:=hv
  have I1:Inv X pins σ H { s with heap:=h',toks:=tk }:=I.turned (fun b o hb e=>kk b o (by simpa using hb) e) f0 f1 f3 f4 f5
  refine ⟨_,rfl,b7z (s:={ s with heap:=h',toks:=tk }) (n:="range_iterator") st' rfl rfl (by decide) ⟨.int (lo + i),H,I1,⟨t,?_⟩,⟨rfl,rfl⟩,st',fun b hb=>(hf b hb).1⟩⟩
  rw [Int.mul_one]
 done:=by
  intro X hP hw hK hc i pins s σ H E I hf st hg
  subst hP hw hK
  obtain ⟨f0,f1,f2,f3,f4,f5⟩:=hf it (by simp)
  exact wpAny_pyNext_range_end (I.ok.hd hc) st (by have:n≤i:=hg; lia) fun h' eb=>⟨rfl,I.turned (t':=s.toks) (fun b o hb e=>eb b o hb e) f0 f1 f3 f4 f5⟩
 self:=fun _ _ _ _ _ st h=>wpAny_pyIter_rangeiter st h
end L2
namespace L2
open PySem PySem.Spec PyProof.Rows
section
variable {X:Cx} {tg:Expr}
theorem b2k {pins:List (Addr×Obj)} {σ:St} {H:Hp} {s:Shared} {R:It→Hp→Prop} {E:Value→Shared→Prop} {lo hi:Int} {t u v:Tok} {tk:Nat} (I:Inv X pins σ H s) (h1:-(2 ^ 62)≤lo) (h2:lo < 2 ^ 62) (h3:-(2 ^ 62)≤hi) (h4:hi < 2 ^ 62)
  (q:R (Itr lo (hi - lo).toNat) H):wpAny (model X.prog X.w) X.A (pyIter (.ref s.heap.objs.size)) (PIE X pins σ tg R) E { s with heap:=s.heap.push { cls:=.type "range",data:=.fields #[.int lo t,.int hi u,.int 1 v] },toks:=tk }:=by
 refine wpAny_pyIter_range (IsRange.new ..) (small_one h1 h2 h3 h4) ?_
 have I1:Inv X pins σ H { s with heap:=s.heap.push { cls:=.type "range",data:=.fields #[.int lo t,.int hi u,.int 1 v] },toks:=tk }:=I.kept fun b o e=>Γc _ e
 refine ⟨(s.heap.push { cls:=.type "range",data:=.fields #[.int lo t,.int hi u,.int 1 v] }).objs.size,[(s.heap.push { cls:=.type "range",data:=.fields #[.int lo t,.int hi u,.int 1 v] }).objs.size],_,_,H,rfl,
  I1.kept (t':=tk) fun b o e=>Γc _ e,b3x _ lo (hi - lo).toNat,?_,fun b hb=>?_,q⟩
 ·have e1:lo + ((0:Nat):Int) * 1=lo:=by simp
  have e2:(((hi - lo).toNat:Nat):Int) - ((0:Nat):Int)=Builtin.Range.rangeSize lo hi 1:=by rw [rangeSize_one]; split <;> lia
  show IsRangeIter _ _ (lo + ((0:Nat):Int) * 1) ((((hi - lo).toNat:Nat):Int) - ((0:Nat):Int)) 1
  rw [e1,e2]
  exact Γm _ rfl
 ·have e:b=(s.heap.push { cls:=.type "range",data:=.fields #[.int lo t,.int hi u,.int 1 v] }).objs.size:=by simpa using hb
  subst e
  exact I1.fpOk (Γi _) (I1.hok.fresh (Γi _))
def d6o (ta:TA):TI:=fun σ H R=>ta σ H fun vs H1=>∃ j:Int,vs=[.int j]∧-(2 ^ 62)≤j∧j < 2 ^ 62∧R (Itr 0 j.toNat) H1
def iRng2 (ta:TA):TI:=fun σ H R=>ta σ H fun vs H1=>∃ i j:Int,vs=[.int i,.int j]∧(-(2 ^ 62)≤i∧i < 2 ^ 62∧-(2 ^ 62)≤j∧j < 2 ^ 62)∧R (Itr i (j - i).toNat) H1
theorem b6q {a:Expr} {ta:TA} {p pos:Pos} (hg:Gl X "range") (hm:X.mg "range" = none) (ha:PA X [a] ta) (hs:starEach [a] X.env=[(false,eval a X.env)]:=by rfl):PI X tg (.Call (.Name "range" p) [a] [] pos) (d6o ta):=by
 intro pins s σ H R I h
 refine Call_ (a2y I hg hm boot_range (PyProof.Rows.callWith_type1 (thn (ha pos pins s σ H _ I h) fun us s1 ⟨vs,H1,I1,r1,q1⟩=>?_) hs rfl))
 obtain ⟨j,e,q1,q2,q⟩:=q1
 subst e
 cases r1 with
 | cons r rr =>
  cases rr
  obtain ⟨t,rfl⟩:=r
  exact call_range_1 (b2k I1 (by lia) (by lia) q1 q2 (by simpa using q))
theorem b6p {a b:Expr} {ta:TA} {p pos:Pos} (hg:Gl X "range") (hm:X.mg "range" = none) (ha:PA X [a,b] ta) (hs:starEach [a,b] X.env=[(false,eval a X.env),(false,eval b X.env)]:=by rfl) (hs2:starEach [b] X.env=[(false,eval b X.env)]:=by rfl) :
  PI X tg (.Call (.Name "range" p) [a,b] [] pos) (iRng2 ta):=by
 intro pins s σ H R I h
 refine Call_ (a2y I hg hm boot_range (PyProof.Rows.callWith_type1 (thn (ha pos pins s σ H _ I h) fun us s1 ⟨vs,H1,I1,r1,q1⟩=>?_) (by rw [hs,hs2]) (by rw [hs2]; rfl)))
 obtain ⟨i,j,e,⟨q1,q2,q3,q4⟩,q⟩:=q1
 subst e
 cases r1 with
 | cons r rr =>
  cases rr with
  | cons r' rr =>
   cases rr
   obtain ⟨t,rfl⟩:=r
   obtain ⟨t',rfl⟩:=r'
   exact call_range_2 (b2k I1 q1 q2 q3 q4 q)
def tFor (wi:TI) (g:TG) (tb:TS):TS:=fun D σ H=>wi σ H fun J H1=>∃ W:Nat→Nat→St→Hp→Prop,(∃ m,W 0 m σ H1)∧∀ i m σ H,W i m σ H →
 (J.stop i H∧D.nx σ H) ∨ (J.go i H∧∃ N:St→Hp→Prop,(∀ σ' H',N σ' H'→∃ m',m' < m∧W (i + 1) m' σ' H')∧∀ x H',J.yld i H x H'→g x σ H' fun σ2 H2=>tb { D with nx:=N,ct:=N,bk:=D.nx } σ2 H2)
def a9n (fp:List Addr) (h:Heap):List (Addr×Obj):=fp.filterMap fun b=>(h.get? b).map fun o=>(b,o)
theorem a3e {fp:List Addr} {h:Heap} {b:Addr} {o:Obj} (hb:b∈fp) (e:h.get? b=some o):(b,o)∈a9n fp h:=List.mem_filterMap.mpr ⟨b,hb,by rw [e]; rfl⟩
theorem b6z {fp:List Addr} {h:Heap} {p:Addr×Obj} (hp:p∈a9n fp h):p.1∈fp∧h.get? p.1=some p.2:=by
 obtain ⟨b,hb,e⟩:=List.mem_filterMap.mp hp
 cases q:h.get? b with
 | none=>rw [q] at e; cases e
 | some o =>
  rw [q] at e
  have e':(b,o)=p:=Option.some.inj e
  subst e'
  exact ⟨hb,q⟩
theorem Inv.pinned {pins:List (Addr×Obj)} {σ:St} {H:Hp} {s:Shared} {fp:List Addr} (I:Inv X pins σ H s) (hf:∀ b∈fp,b3t X pins H b) (ho:∀ b∈fp,∃ o,s.heap.get? b=some o∧∀ v,o.data≠.cell v):Inv X (pins++a9n fp s.heap) σ H s :=
 I.pins_of fun p hp=>(List.mem_append.mp hp).elim (fun z=>I.pin p (List.mem_append_right _ z)) fun z=>by
  obtain ⟨hb,e⟩:=b6z z
  obtain ⟨f0,f1,f2,_⟩:=hf p.1 hb
  obtain ⟨o,e',d⟩:=ho p.1 hb
  rw [e] at e'; cases e'
  exact ⟨e,f0,f1,f2,d⟩
theorem Inv.unpinned {pins pl:List (Addr×Obj)} {σ:St} {H:Hp} {s:Shared} (I:Inv X (pins++pl) σ H s):Inv X pins σ H s:=I.pins_of fun p hp=>I.pin p (List.mem_append_right _ (List.mem_append_left _ hp))
theorem c8s {iter:Expr} {body:List Stmt} {wi:TI} {g:TG} {tb:TS} {pos:Pos} (hp:PassesOwn (model X.prog X.w) X.A X.env X.xe) (hc:X.calm=true) (hi:PI X tg iter wi) (hg:PG X tg g) (hb:PSs X body tb)
  (hs:∀ x,foldedSetIterable iter X.env x=pure x:=by intro _; rfl):PS X (.For tg iter body [] pos) (tFor wi g tb):=by
 intro pins s σ H D I h
 refine wpAny_For (thn (hi pins s σ H _ I h) fun v s1 h1=>thn h1 fun itv s2 h2=>?_) hs
 obtain ⟨it,fp,tn,J,H2,e,I2,T,st2,f2,W,⟨m0,w0⟩,turn⟩:=h2
 subst e
 -- what stays true of the iterator's objects through the loop
 have stat:∀ {H':Hp},(∀ b∈fp,H' b=none)→∀ b∈fp,b3t X pins H' b:=fun hn b hb=>⟨hn b hb,(f2 b hb).2⟩
 refine codeAny_forLoop_any (fun n s'=>∃ i σ' H',Inv X pins σ' H' s'∧tn i s'.heap∧(∀ b∈fp,H' b=none)∧W i n σ' H') ?_ m0 ⟨0,σ,H2,I2,st2,fun b hb=>(f2 b hb).1,w0⟩
 rintro n s3 ⟨i,σ3,H3,I3,st3,fr3,w3⟩
 rcases turn i n σ3 H3 w3 with ⟨stop,qn⟩ | ⟨go,N,hN,step⟩
 ·refine wpAny_passesOwn hp (thn (T.done X rfl rfl rfl hc i pins s3 σ3 H3 X.xe I3 (stat fr3) st3 stop) fun r s4 ⟨hr,I4⟩=>?_)
  subst hr
  exact wpAny_execs_nil ⟨σ3,H3,I4,qn⟩
 ·refine wpAny_passesOwn hp (thn (T.item X rfl rfl rfl hc i pins s3 σ3 H3 X.xe I3 (stat fr3) st3 go) fun r s4 ⟨u,hr,h4⟩=>?_)
  subst hr
  refine wpAny_passesOwn hp (thn h4 fun _ s5 ⟨x,H5,I5,r5,y5,st5,fr5⟩=>?_)
  have I5':=I5.pinned (stat fr5) (T.obj _ _ st5)
  refine wpAny_passesOwn hp (thn (hg _ s5 σ3 H5 x u _ I5' r5 (step x H5 y5)) fun _ s6 ⟨σ6,H6,I6,q6⟩=>?_)
  refine wpAny_passesOwn hp (thn (hb _ s6 σ6 H6 _ I6 q6) fun f s7 q7=>?_)
  have again:∀ {σ7:St} {H7:Hp},Inv X (pins++a9n fp s5.heap) σ7 H7 s7→N σ7 H7→∃ m,m < n∧∃ i σ' H',Inv X pins σ' H' s7∧tn i s7.heap∧(∀ b∈fp,H' b=none)∧W i m σ' H':=fun {σ7 H7} I7 n7=>by
   obtain ⟨m',hm,w7⟩:=hN σ7 H7 n7
   refine ⟨m',hm,i + 1,σ7,H7,I7.unpinned,T.keep _ _ _ st5 fun b hb o e=>(I7.pin (b,o) (List.mem_append_right _ (List.mem_append_right _ (a3e hb e)))).1,fun b hb=>?_,w7⟩
   obtain ⟨o,e,d⟩:=T.obj _ _ st5 b hb
   exact (I7.pin (b,o) (List.mem_append_right _ (List.mem_append_right _ (a3e hb e)))).2.1
  cases f with
  | next=>obtain ⟨σ7,H7,I7,n7⟩:=q7; exact again I7 n7
  | cont=>obtain ⟨σ7,H7,I7,n7⟩:=q7; exact again I7 n7
  | brk=>obtain ⟨σ7,H7,I7,q7⟩:=q7; exact ⟨σ7,H7,I7.unpinned,q7⟩
  | ret v=>obtain ⟨x7,σ7,H7,I7,r7,q7⟩:=q7; exact ⟨x7,σ7,H7,I7.unpinned,r7,q7⟩
end
theorem while_by {c:TT} {tb:TS} {D:Ends} {σ:St} {H:Hp} (Pv:St→Hp→Prop) (μ:St→Hp→Nat) (h0:Pv σ H)
  (hs:∀ σ H,Pv σ H→c σ H fun b H1=>if b=true then tb { D with nx:=fun σ' H'=>Pv σ' H'∧μ σ' H' < μ σ H,ct:=fun σ' H'=>Pv σ' H'∧μ σ' H' < μ σ H,bk:=D.nx } σ H1 else D.nx σ H1)
  (mono:∀ σ H Q Q',(∀ b H1,Q b H1→Q' b H1)→c σ H Q→c σ H Q'):c2s c tb D σ H:=by
 refine ⟨fun m σ H=>m=μ σ H∧Pv σ H,⟨_,rfl,h0⟩,?_⟩
 rintro m σ H ⟨rfl,p⟩
 refine mono σ H _ _ (fun b H1 q=>?_) (hs σ H p)
 cases b with
 | true=>exact ⟨_,fun σ' H' ⟨p',l⟩=>⟨_,l,rfl,p'⟩,q⟩
 | false=>exact q
end L2
namespace L2
open PySem PySem.Spec PyProof.Rows
abbrev R2:=V→V→Hp→VK→Prop
def OpR (X:Cx) (f:Value→Value→Sem Value) (r:R2):Prop :=
 ∀ (pins:List (Addr×Obj)) (s:Shared) (σ:St) (H:Hp) (x y:V) (v u:Value) (Q:VK),Inv X pins σ H s→RelV x v→RelV y u→r x y H Q →
  wpAny (model X.prog X.w) X.A (f v u) (EP X pins σ Q) X.xe s
def UnR (X:Cx) (f:Value→Sem Value) (r:V→Hp→VK→Prop):Prop :=
 ∀ (pins:List (Addr×Obj)) (s:Shared) (σ:St) (H:Hp) (x:V) (v:Value) (Q:VK),Inv X pins σ H s→RelV x v→r x H Q →
  wpAny (model X.prog X.w) X.A (f v) (EP X pins σ Q) X.xe s
def a1b (X:Cx) (f:Value) (r:List V→Hp→VK→Prop):Prop :=
 ∀ (pins:List (Addr×Obj)) (s:Shared) (σ:St) (H:Hp) (xs:List V) (us:List Value) (Q:VK),Inv X pins σ H s→Vals xs us→r xs H Q →
  wpAny (model X.prog X.w) X.A (call f us) (EP X pins σ Q) X.xe s
def TruR (X:Cx) (r:V→Hp→(Bool→Hp→Prop)→Prop):Prop :=
 ∀ (pins:List (Addr×Obj)) (s:Shared) (σ:St) (H:Hp) (x:V) (v:Value) (Q:Bool→Hp→Prop),Inv X pins σ H s→RelV x v→r x H Q →
  wpAny (model X.prog X.w) X.A (truthy v) (TP X pins σ Q) X.xe s
def tOp (r:R2) (ta tb:TE):TE:=fun σ H Q=>ta σ H fun x H1=>tb σ H1 fun y H2=>r x y H2 Q
def tUn (r:V→Hp→VK→Prop) (ta:TE):TE:=fun σ H Q=>ta σ H fun x H1=>r x H1 Q
def rI (C:Int→Int→Prop) (g:Int→Int→V):R2:=fun x y H Q=>∃ i j,x=.int i∧y=.int j∧C i j∧Q (g i j) H
def rI0 (g:Int→Int→V):R2:=fun x y H Q=>∃ i j,x=.int i∧y=.int j∧Q (g i j) H
def rU (g:Int→V):V→Hp→VK→Prop:=fun x H Q=>∃ i,x=.int i∧Q (g i) H
section
variable {X:Cx} {a b c:Expr} {ta tb tc:TE} {pos:Pos}
theorem d9c (ha:PE X a ta) (hb:PE X b tb) {pins:List (Addr×Obj)} {s:Shared} {σ:St} {H:Hp} {R:V→V→Hp→Prop} (I:Inv X pins σ H s)
  (h:ta σ H fun x H1=>tb σ H1 fun y H2=>R x y H2) {Q:Value→Shared→Prop} {f:Value→Value→Sem Value}
  (hf:∀ v u s2 x y H2,Inv X pins σ H2 s2→RelV x v→RelV y u→R x y H2→wpAny (model X.prog X.w) X.A (f v u) Q X.xe s2) :
  wpAny (model X.prog X.w) X.A (eval a X.env) (fun v s₁=>wpAny (model X.prog X.w) X.A (eval b X.env) (fun u s₂=>wpAny (model X.prog X.w) X.A (f v u) Q X.xe s₂) X.xe s₁) X.xe s:=by
 refine thn (ha pins s σ H _ I h) fun v s1 ⟨x,H1,I1,r1,q1⟩=>?_
 refine thn (hb pins s1 σ H1 _ I1 q1) fun u s2 ⟨y,H2,I2,r2,q2⟩=>?_
 exact hf v u s2 x y H2 I2 r1 r2 q2
theorem c8y {op:Operator} {r:R2} (ho:OpR X (binaryOp op) r) (ha:PE X a ta) (hb:PE X b tb):PE X (.BinOp a op b pos) (tOp r ta tb):=by
 intro pins s σ H Q I h
 exact wpAny_BinOp (d9c ha hb I h fun v u s2 x y H2 I2 rx ry q=>ho pins s2 σ H2 x y v u Q I2 rx ry q)
theorem d5k {op:UnaryOp} {r:V→Hp→VK→Prop} (ho:UnR X (unaryOp op) r) (ha:PE X a ta):PE X (.UnaryOp op a pos) (tUn r ta):=by
 intro pins s σ H Q I h
 exact UnaryOp_ (thn (ha pins s σ H _ I h) fun v s1 ⟨x,H1,I1,r1,q1⟩=>ho pins s1 σ H1 x v Q I1 r1 q1)
theorem opI {f:Value→Value→Sem Value} {C:Int→Int→Prop} {g:Int→Int→Int}
  (rule:∀ (i j:Int) (t u:Tok) (s:Shared) (Q:Value→Shared→Prop) (E:Value→Shared→Prop),C i j→Q (.int (g i j) s.toks) { s with toks:=s.toks + 1 }→wpAny (model X.prog X.w) X.A (f (.int i t) (.int j u)) Q E s) :
  OpR X f (rI C fun i j=>.int (g i j)):=by
 intro pins s σ H x y v u Q I rx ry h
 obtain ⟨i,j,rfl,rfl,hc,q⟩:=h
 obtain ⟨t,rfl⟩:=rx
 obtain ⟨t',rfl⟩:=ry
 exact rule i j t t' s _ _ hc ⟨.int (g i j),H,I.tok _,⟨_,rfl⟩,q⟩
theorem opI0 {f:Value→Value→Sem Value} {g:Int→Int→Int}
  (rule:∀ (i j:Int) (t u:Tok) (s:Shared) (Q:Value→Shared→Prop) (E:Value→Shared→Prop),Q (.int (g i j) s.toks) { s with toks:=s.toks + 1 }→wpAny (model X.prog X.w) X.A (f (.int i t) (.int j u)) Q E s) :
  OpR X f (rI0 fun i j=>.int (g i j)):=by
 intro pins s σ H x y v u Q I rx ry h
 obtain ⟨i,j,rfl,rfl,q⟩:=h
 obtain ⟨t,rfl⟩:=rx
 obtain ⟨t',rfl⟩:=ry
 exact rule i j t t' s _ _ ⟨.int (g i j),H,I.tok _,⟨_,rfl⟩,q⟩
theorem d2n {f:Value→Value→Sem Value} {g:Int→Int→Bool}
  (rule:∀ (i j:Int) (t u:Tok) (s:Shared) (Q:Value→Shared→Prop) (E:Value→Shared→Prop),Q (.bool (g i j)) s→wpAny (model X.prog X.w) X.A (f (.int i t) (.int j u)) Q E s) :
  OpR X f (rI0 fun i j=>.bl (g i j)):=by
 intro pins s σ H x y v u Q I rx ry h
 obtain ⟨i,j,rfl,rfl,q⟩:=h
 obtain ⟨t,rfl⟩:=rx
 obtain ⟨t',rfl⟩:=ry
 exact rule i j t t' s _ _ ⟨.bl (g i j),H,I,rfl,q⟩
def CDiv (i j:Int):Prop:=0 < j∧j < 1073741824
def CPow (i j:Int):Prop:=0≤j∧j≤1000000∧i.natAbs < 2 ^ 64
def CMul (i j:Int):Prop:=(-(2 ^ 64) < i∧i < 2 ^ 64) ∨ (-(2 ^ 64) < j∧j < 2 ^ 64)
theorem CMul.ok {i j:Int} (h:CMul i j):IntMulOk i j:=by
 rcases h with ⟨h1,h2⟩ | ⟨h1,h2⟩
 ·exact .of_left (intBits_le_64 h1 h2)
 ·exact .of_right (intBits_le_64 h1 h2)
theorem c9q:OpR X (binaryOp .Add) (rI0 fun i j=>.int (i + j)):=opI0 fun _ _ _ _ _ _ _ q=>add_int q
theorem c9i:OpR X (binaryOp .Sub) (rI0 fun i j=>.int (i - j)):=opI0 fun _ _ _ _ _ _ _ q=>sub_int q
theorem c9l:OpR X (binaryOp .Mult) (rI CMul fun i j=>.int (i * j)):=opI fun _ _ _ _ _ _ _ hc q=>mul_int q hc.ok
theorem c5k:OpR X (binaryOp .FloorDiv) (rI CDiv fun i j=>.int (i / j)):=opI fun i j _ _ _ _ _ hc q=>by
 have h1:(0:Int) < j:=hc.1
 have h2:j < 1073741824:=hc.2
 exact floordiv_int (by lia) (by rw [Int.fdiv_eq_ediv_of_nonneg i (by lia)]; exact q) (.inl (PyProof.noPylong_small (by lia)))
theorem c9m:OpR X (binaryOp .Mod) (rI (fun _ j=>0 < j) fun i j=>.int (i % j)):=opI fun i j _ _ _ _ _ hc q=>by
 have h1:(0:Int) < j:=hc
 exact mod_int' (by lia) (by rw [Int.fmod_eq_emod_of_nonneg i (by lia)]; exact q)
theorem c9k:OpR X (binaryOp .Pow) (rI CPow fun i j=>.int (i ^ j.toNat)):=opI fun _ _ _ _ _ _ _ hc q=>pow_int_small hc.1 hc.2.1 hc.2.2 q
theorem unI {f:Value→Sem Value} {g:Int→Int}
  (rule:∀ (i:Int) (t:Tok) (s:Shared) (Q:Value→Shared→Prop) (E:Value→Shared→Prop),Q (.int (g i) s.toks) { s with toks:=s.toks + 1 }→wpAny (model X.prog X.w) X.A (f (.int i t)) Q E s) :
  UnR X f (rU fun i=>.int (g i)):=by
 intro pins s σ H x v Q I rx h
 obtain ⟨i,rfl,q⟩:=h
 obtain ⟨t,rfl⟩:=rx
 exact rule i t s _ _ ⟨.int (g i),H,I.tok _,⟨_,rfl⟩,q⟩
theorem c7o:UnR X (unaryOp .USub) (rU fun i=>.int (-i)):=unI fun _ _ _ _ _ q=>neg_int q
end
def scal:V→V→Bool
 | .non,.non=>true | .non,.int _=>true | .int _,.non=>true | .non,.bl _=>true | .bl _,.non=>true | .non,.str _=>true | .str _,.non=>true
 | .int _,.int _=>true | .bl _,.bl _=>true | .str _,.str _=>true | .byt _,.byt _=>true
 | .int _,.str _=>true | .str _,.int _=>true | .bl _,.str _=>true | .str _,.bl _=>true
 | _,_=>false
def rEq:R2:=fun x y H Q=>scal x y=true∧Q (.bl (decide (x=y))) H
def rNe:R2:=fun x y H Q=>scal x y=true∧Q (.bl (!decide (x=y))) H
theorem b8u {i j:Int}:decide (V.int i=V.int j)=(i == j):=by
 rw [Bool.eq_iff_iff]
 simp
theorem c3u {i j:Bool}:decide (V.bl i=V.bl j)=(i == j):=by
 rw [Bool.eq_iff_iff]
 simp
theorem b8t {i j:Str}:decide (V.str i=V.str j)=(i == j):=by
 rw [Bool.eq_iff_iff]
 simp
theorem b8v {i j:Array UInt8}:decide (V.byt i=V.byt j)=(i.toList == j.toList):=by
 rw [Bool.eq_iff_iff]
 cases i
 cases j
 simp
section
variable {X:Cx} {a b c:Expr} {ta tb tc:TE} {pos:Pos}
theorem a0m {pins:List (Addr×Obj)} {σ:St} {H:Hp} {s:Shared} {Q:VK} {k k':Bool} (I:Inv X pins σ H s) (q:Q (.bl k) H) (e:k=k'):EP X pins σ Q (.bool k') s:=by
 subst e
 exact ⟨.bl k,H,I,rfl,q⟩
theorem d5w:OpR X (compareOp .Eq) rEq:=by
 intro pins s σ H x y v u Q I rx ry h
 obtain ⟨hs,q⟩:=h
 cases x with
 | non =>
  cases rx
  cases y with
  | non=>cases ry; exact PySem.EqNone.eq_none_none (a0m I q (by simp))
  | bl j=>cases ry; exact PySem.EqNone.eq_none_bool (a0m I q (by simp))
  | int j=>obtain ⟨t',rfl⟩:=ry; exact PySem.EqNone.eq_none_int (a0m I q (by simp))
  | str j=>obtain ⟨t',rfl⟩:=ry; exact PySem.EqNone.eq_none_str (a0m I q (by simp))
  | _=>exact absurd (show false=true from hs) Γk
 | bl i =>
  cases rx
  cases y with
  | non=>cases ry; exact PySem.EqNone.eq_bool_none (a0m I q (by simp))
  | bl j=>cases ry; exact eq_bool (a0m I q c3u)
  | str j=>obtain ⟨t',rfl⟩:=ry; exact PySem.EqMixed.eq_bool_str (a0m I q (by simp))
  | _=>exact absurd (show false=true from hs) Γk
 | int i =>
  obtain ⟨t,rfl⟩:=rx
  cases y with
  | non=>cases ry; exact PySem.EqNone.eq_int_none (a0m I q (by simp))
  | int j=>obtain ⟨t',rfl⟩:=ry; exact eq_int (a0m I q b8u)
  | str j=>obtain ⟨t',rfl⟩:=ry; exact PySem.EqMixed.eq_int_str (a0m I q (by simp))
  | _=>exact absurd (show false=true from hs) Γk
 | str i =>
  obtain ⟨t,rfl⟩:=rx
  cases y with
  | non=>cases ry; exact PySem.EqNone.eq_str_none (a0m I q (by simp))
  | bl j=>cases ry; exact PySem.EqMixed.eq_str_bool (a0m I q (by simp))
  | int j=>obtain ⟨t',rfl⟩:=ry; exact PySem.EqMixed.eq_str_int (a0m I q (by simp))
  | str j=>obtain ⟨t',rfl⟩:=ry; exact eq_str (a0m I q b8t)
  | _=>exact absurd (show false=true from hs) Γk
 | byt i =>
  obtain ⟨t,rfl⟩:=rx
  cases y with
  | byt j=>obtain ⟨t',rfl⟩:=ry; exact PySem.W.eq_bytes (a0m I q b8v)
  | _=>exact absurd (show false=true from hs) Γk
 | _=>cases y <;> exact absurd (show false=true from hs) Γk
theorem d5r:OpR X (compareOp .NotEq) rNe:=by
 intro pins s σ H x y v u Q I rx ry h
 obtain ⟨hs,q⟩:=h
 cases x with
 | non =>
  cases rx
  cases y with
  | non=>cases ry; exact PySem.EqNone.ne_none_none (a0m I q (by simp))
  | bl j=>cases ry; exact PySem.EqNone.ne_none_bool (a0m I q (by simp))
  | int j=>obtain ⟨t',rfl⟩:=ry; exact PySem.EqNone.ne_none_int (a0m I q (by simp))
  | str j=>obtain ⟨t',rfl⟩:=ry; exact PySem.EqNone.ne_none_str (a0m I q (by simp))
  | _=>exact absurd (show false=true from hs) Γk
 | bl i =>
  cases rx
  cases y with
  | non=>cases ry; exact PySem.EqNone.ne_bool_none (a0m I q (by simp))
  | bl j=>cases ry; exact ne_bool (a0m I q (congrArg not c3u))
  | str j=>obtain ⟨t',rfl⟩:=ry; exact PySem.EqMixed.ne_bool_str (a0m I q (by simp))
  | _=>exact absurd (show false=true from hs) Γk
 | int i =>
  obtain ⟨t,rfl⟩:=rx
  cases y with
  | non=>cases ry; exact PySem.EqNone.ne_int_none (a0m I q (by simp))
  | int j=>obtain ⟨t',rfl⟩:=ry; exact ne_int (a0m I q (congrArg not b8u))
  | str j=>obtain ⟨t',rfl⟩:=ry; exact PySem.EqMixed.ne_int_str (a0m I q (by simp))
  | _=>exact absurd (show false=true from hs) Γk
 | str i =>
  obtain ⟨t,rfl⟩:=rx
  cases y with
  | non=>cases ry; exact PySem.EqNone.ne_str_none (a0m I q (by simp))
  | bl j=>cases ry; exact PySem.EqMixed.ne_str_bool (a0m I q (by simp))
  | int j=>obtain ⟨t',rfl⟩:=ry; exact PySem.EqMixed.ne_str_int (a0m I q (by simp))
  | str j=>obtain ⟨t',rfl⟩:=ry; exact ne_str (a0m I q (congrArg not b8t))
  | _=>exact absurd (show false=true from hs) Γk
 | byt i =>
  obtain ⟨t,rfl⟩:=rx
  cases y with
  | byt j=>obtain ⟨t',rfl⟩:=ry; exact PySem.W.ne_bytes (a0m I q (congrArg not b8v))
  | _=>exact absurd (show false=true from hs) Γk
 | _=>cases y <;> exact absurd (show false=true from hs) Γk
theorem d5s:OpR X (compareOp .Lt) (rI0 fun i j=>.bl (decide (i < j))):=d2n fun _ _ _ _ _ _ _ q=>lt_int q
theorem d5t:OpR X (compareOp .LtE) (rI0 fun i j=>.bl (decide (i≤j))):=d2n fun _ _ _ _ _ _ _ q=>le_int q
theorem d5u:OpR X (compareOp .Gt) (rI0 fun i j=>.bl (decide (j < i))):=d2n fun _ _ _ _ _ _ _ q=>gt_int q
theorem d5v:OpR X (compareOp .GtE) (rI0 fun i j=>.bl (decide (j≤i))):=d2n fun _ _ _ _ _ _ _ q=>ge_int q
theorem nomark (b:Expr) {op:CmpOp} (h:op≠.In:=by decide) (h2:op≠.NotIn:=by decide):behindInMarks op b=false:=by
 have e1:(op == CmpOp.In)=false:=by cases op <;> first | rfl | exact absurd rfl h
 have e2:(op == CmpOp.NotIn)=false:=by cases op <;> first | rfl | exact absurd rfl h2
 cases b <;> simp [behindInMarks,e1,e2]
theorem c5f {op:CmpOp} {r:R2} (ho:OpR X (compareOp op) r) (ha:PE X a ta) (hb:PE X b tb) (hm:behindInMarks op b=false):PE X (.Compare a [op] [b] pos) (tOp r ta tb):=by
 intro pins s σ H Q I h
 exact wpAny_Compare1 (d9c ha hb I h fun v u s2 x y H2 I2 rx ry q=>ho pins s2 σ H2 x y v u Q I2 rx ry q) hm
def d3y (t:TE):TT:=fun σ H Q=>t σ H fun x H'=>∃ k,x=.bl k∧Q k H'
theorem b6i {op:CmpOp} {r:R2} (ho:OpR X (compareOp op) r) (ha:PE X a ta) (hb:PE X b tb) (hm:behindInMarks op b=false):PT X (.Compare a [op] [b] pos) (d3y (tOp r ta tb)):=by
 intro pins s σ H Q I h
 refine wpAny_isTrue_Compare1 (thn (ha pins s σ H _ I h) fun v s1 ⟨x,H1,I1,r1,q1⟩=>thn (hb pins s1 σ H1 _ I1 q1) fun u s2 ⟨y,H2,I2,r2,q2⟩ =>
  thn (ho pins s2 σ H2 x y v u _ I2 r1 r2 q2) fun c s3 ⟨z,H3,I3,r3,k,e,q3⟩=>?_) hm
 subst e
 cases r3
 exact wpAny_truthy_bool ⟨H3,I3,q3⟩
def d2i (K:Γd) (x:V) (H:Hp) (k:Bool):Prop :=
 match x with
 | .non=>k=false
 | .bl b=>k=b
 | .int i=>k=(i != 0)
 | .str y=>y.length≤sizeLine∧k=((y.length:Int) != 0)
 | .byt y=>y.size≤sizeLine∧k=((y.size:Int) != 0)
 | .ref p=>(∃ xs,SqL K H p xs∧k = !xs.isEmpty) ∨ (∃ xs,SqT K H p xs∧k = !xs.isEmpty) ∨ ∃ kvs,H p=some (.dK kvs)∧k = !kvs.isEmpty
 | _=>False
theorem b4s {κ:Type} {kvs:List (κ×V)} {vs:List (κ×Value)} (r:KV kvs vs):(!vs.isEmpty) = !kvs.isEmpty:=by
 cases r <;> rfl
theorem a7b {xs:List V} {its:List Value} (r:Vals xs its):(!its.toArray.isEmpty) = !xs.isEmpty:=by
 cases r <;> simp
theorem a9x:(sizeLine:Nat) < 2 ^ 63:=by rw [sizeLine_eq]; decide
theorem b5s:TruR X (fun x H Q=>∃ k,d2i X.K x H k∧Q k H):=by
 intro pins s σ H x v Q I rx h
 obtain ⟨k,e,q⟩:=h
 have hl:=a9x
 have hs:sizeLine=16777216:=sizeLine_eq
 cases x with
 | non =>
  cases rx
  have e':k=false:=e
  subst e'
  exact truthy_none ⟨H,I,q⟩
 | bl b =>
  cases rx
  have e':k=b:=e
  subst e'
  exact wpAny_truthy_bool ⟨H,I,q⟩
 | int i =>
  obtain ⟨t,rfl⟩:=rx
  have e':k=(i != 0):=e
  subst e'
  exact PySem.P.truthy_int ⟨H,I,q⟩
 | str y =>
  obtain ⟨t,rfl⟩:=rx
  obtain ⟨hy,e'⟩:y.length≤sizeLine∧k=((y.length:Int) != 0):=e
  subst e'
  exact PySem.P.truthy_str (by lia) ⟨H,I.tok _,q⟩
 | byt y =>
  obtain ⟨t,rfl⟩:=rx
  obtain ⟨hy,e'⟩:y.size≤sizeLine∧k=((y.size:Int) != 0):=e
  subst e'
  exact PySem.W.truthy_bytes (by lia) ⟨H,I.tok _,q⟩
 | ref p =>
  cases rx
  have e':(∃ xs,SqL X.K H p xs∧k = !xs.isEmpty) ∨ (∃ xs,SqT X.K H p xs∧k = !xs.isEmpty) ∨ ∃ kvs,H p=some (.dK kvs)∧k = !kvs.isEmpty:=e
  rcases e' with ⟨xs,hx,e'⟩ | ⟨xs,hx,e'⟩ | ⟨kvs,hx,e'⟩
  ·subst e'
   obtain ⟨its,r,pl,hz⟩:=I.list hx
   have hlen:=r.length
   exact wpAny_truthy_list pl.isList (by simp only [List.size_toArray]; lia) ⟨H,I.tok _,by rw [a7b r]; exact q⟩
  ·subst e'
   obtain ⟨its,r,pl,hz⟩:=I.tuple hx
   have hlen:=r.length
   exact truthy_tuple pl (by simp only [List.size_toArray]; lia) ⟨H,I.tok _,by rw [a7b r]; exact q⟩
  ·subst e'
   obtain ⟨hz,hS,vs,r,m⟩:kvs.length≤sizeLine∧(p == sysModules)=false∧∃ vs,KV kvs vs∧s.heap.DictOf (a0r X.prog X.w) p vs:=I.hok p _ hx
   have hlen:kvs.length=vs.length:=Paired.length r
   exact wpAny_truthy_dict hS m (by lia) ⟨H,I.tok _,by rw [b4s r]; exact q⟩
 | _=>exact (show False from e).elim
theorem c0n (ha:PE X a ta) (he:∀ whole,isTrue a X.env whole=(do let v ← whole; standAt a.pos; holding [v] (truthy v))) :
  PT X a (fun σ H Q=>ta σ H fun x H'=>∃ k,d2i X.K x H' k∧Q k H'):=by
 intro pins s σ H Q I h
 exact isTrue_plain (thn (ha pins s σ H _ I h) fun v s1 ⟨x,H1,I1,r1,q1⟩=>b5s pins s1 σ H1 x v Q I1 r1 q1) (he _)
theorem a3k {x:V} {us:List Value} (r:Vals [x] us):∃ u,us=[u]∧RelV x u:=by
 cases r with
 | cons r1 r2=>cases r2; exact ⟨_,rfl,r1⟩
theorem b3v {x y:V} {us:List Value} (r:Vals [x,y] us):∃ u w',us=[u,w']∧RelV x u∧RelV y w':=by
 cases r with
 | cons r1 r2 =>
  cases r2 with
  | cons r3 r4=>cases r4; exact ⟨_,_,rfl,r1,r3⟩
theorem c2h:a1b X (.builtin "abs") (fun xs H Q=>∃ i,xs=[.int i]∧Q (.int (if i < 0 then -i else i)) H):=by
 intro pins s σ H xs us Q I r h
 obtain ⟨i,rfl,q⟩:=h
 obtain ⟨u,rfl,t,rfl⟩:=a3k r
 exact call_abs_int fun u tk=>⟨.int (if i < 0 then -i else i),H,I.tok _,⟨_,rfl⟩,q⟩
theorem b9j (hc:X.calm=true):a1b X (.builtin "min") (fun xs H Q=>∃ i j,xs=[.int i,.int j]∧Q (.int (if j < i then j else i)) H):=by
 intro pins s σ H xs us Q I r h
 obtain ⟨i,j,rfl,q⟩:=h
 obtain ⟨u,w',rfl,⟨t,rfl⟩,⟨t',rfl⟩⟩:=b3v r
 refine min_two_ints (I.ok.hd hc) fun h' tk k=>⟨_,H,I.kept k,?_,q⟩
 by_cases hj:j < i
 ·rw [if_pos hj,if_pos hj]; exact ⟨_,rfl⟩
 ·rw [if_neg hj,if_neg hj]; exact ⟨_,rfl⟩
theorem b0q:a1b X (.type "int") (fun xs H Q=>(∃ i,xs=[.int i]∧Q (.int i) H) ∨ ∃ k,xs=[.bl k]∧Q (.int (if k then 1 else 0)) H):=by
 intro pins s σ H xs us Q I r h
 rcases h with ⟨i,rfl,q⟩ | ⟨k,rfl,q⟩
 ·obtain ⟨u,rfl,t,rfl⟩:=a3k r
  exact call_int_int ⟨.int i,H,I,⟨_,rfl⟩,q⟩
 ·obtain ⟨u,rfl,r1⟩:=a3k r
  cases r1
  exact call_int_bool ⟨.int (if k then 1 else 0),H,I.tok _,⟨_,rfl⟩,q⟩
theorem b0n:a1b X (.type "str") (fun xs H Q=>∃ i,xs=[.int i]∧i.natAbs.log2 < 1920∧Q (.str (toString i)) H):=by
 intro pins s σ H xs us Q I r h
 obtain ⟨i,rfl,hz,q⟩:=h
 obtain ⟨u,rfl,t,rfl⟩:=a3k r
 exact PySem.P.str_of_int hz ⟨.str _,H,I.tok _,⟨_,rfl⟩,q⟩
end
end L2
namespace L2
open PySem PySem.Spec PyProof.Rows
structure ObjM (h:Heap) (x dx C:Addr) (mA:Str→Option Value):Prop where
 obj:h.get? x=some (PySem.W.instObj C dx)
 ns:h.Ns1 dx mA
 ne:dx≠x
theorem b7i {h:Heap} {dx:Addr} {mA:Str→Option Value} (n:h.Ns1 dx mA):∃ od,h.get? dx=some od∧∀ name,PySem.W.lookIn name od=some (mA name):=by
 obtain ⟨o,es,ep,ho,hd,hk,_,hm⟩:=n
 refine ⟨o,ho,fun name=>?_⟩
 have e:=hm name
 unfold nsFind findBy at e
 rw [← Array.find?_toList] at e
 unfold PySem.W.lookIn
 rw [hd]
 dsimp only
 split
 ·rename_i y q
  rw [q] at e
  exact congrArg some e
 ·rename_i q
  rw [q] at e
  have a:es.toList.any (·.refKey)=false:=by
   rw [List.any_eq_false]
   intro y hy
   obtain ⟨z,t,hkey⟩:=hk y (Array.mem_toList_iff.mp hy)
   simp [DictEntry.refKey,hkey]
  have a':¬ es.toList.any (·.refKey)=true:=by rw [a]; exact Γk
  rw [if_neg a']
  exact congrArg some e
theorem ObjM.look {h:Heap} {x dx C:Addr} {mA:Str→Option Value} (I:ObjM h x dx C mA):∃ od,PySem.W.InstAt h x (PySem.W.instObj C dx) C (some od)∧∀ name,PySem.W.lookIn name od=some (mA name) :=
 let ⟨od,ho,hl⟩:=b7i I.ns
 ⟨od,⟨I.obj,rfl,rfl,ho⟩,hl⟩
section
variable {prog:Program} {w:World} {A:Around} {E:Value→Shared→Prop} {s:Shared} {K:Γd} {x dx C f:Addr} {mA:Str→Option Value} {name:Str} {v:Value}
end
theorem RelO.some_of {v:V} {o:Option Value} (r:RelO (some v) o):∃ u,o=some u∧RelV v u:=by
 cases o with
 | none=>exact (show False from r).elim
 | some u=>exact ⟨u,rfl,r⟩
section
variable {P:Program} {w:World} {H H':Hp} {h h':Heap} {a C dx:Addr} {fs fs':List (Str×V)}
theorem c5t (hok:HOk P w H h) (e:H a=some (.ins C dx fs)):∃ mA,ObjM h a dx C mA∧(∀ f,RelO (fs.lookup f) (mA f))∧PySem.Within mA (fs.map (·.1))∧fs.length≤1000∧H dx=some (.own a):=by
 obtain ⟨d,z,ne,ob,mA,n,r,q⟩:=(show ObjOk P w H h a (.ins C dx fs) from hok a _ e)
 exact ⟨mA,⟨ob,n,ne⟩,r,q,z,d⟩
end
structure Cls (K:Γd) (C:Addr):Prop where
 pg:PySem.W.plainGet K C Str.empty=true
 hd:PySem.W.hasDictIn K C=true
 po:PySem.W.plainOver K C=true
 sa:PySem.W.findIn K (.ref C) "__setattr__" = some (some (.builtin "object.__setattr__"))
theorem Cls.get {K:Γd} {C:Addr} (c:Cls K C) (f:Str):PySem.W.plainGet K C f=true:=c.pg
structure Con (K:Γd) (C:Addr) (f:Str) (v:V) (u:Value):Prop where
 at_:PySem.W.findIn K (.ref C) f=some (some u)
 rel:RelV v u
 get:PySem.W.specialIn K u "__get__" = some none
 cp:PySem.W.copiedNames.contains f=false
structure Meth (K:Γd) (C:Addr) (m:Str) (f:Addr):Prop where
 at_:PySem.W.findIn K (.ref C) m=some (some (.ref f))
 fn:PySem.W.isFn K (.ref f)=true
 kp:PySem.W.keepIn K (.ref f)=true
section
variable {X:Cx} {pins:List (Addr×Obj)} {σ:St} {H:Hp} {s:Shared} {a C dx:Addr} {fs:List (Str×V)} {f:Str} {v:V} {A:Around} {E:Value→Shared→Prop}
end
section
variable {X:Cx} {o e value:Expr} {f:Str} {pos pos' tpos:Pos} {ta tv:TE}
end
section
variable {X:Cx} {pins:List (Addr×Obj)} {σ:St} {H:Hp} {s:Shared} {A:Around} {E:Value→Shared→Prop} {Q:Value→Shared→Prop} {c:Value} {b:Bool}
inductive TyOf (K:Γd) (H:Hp):V→Value→Prop where
 | non:TyOf K H .non (.type "NoneType")
 | bl (x:Bool):TyOf K H (.bl x) (.type "bool")
 | int (i:Int):TyOf K H (.int i) (.type "int")
 | str (x:Str):TyOf K H (.str x) (.type "str")
 | flt (x:UInt64):TyOf K H (.flt x) (.type "float")
 | lst {a:Addr} {xs:List V} (e:H a=some (.lst xs)):TyOf K H (.ref a) (.type "list")
 | frz {a:Addr} {o:Obj} {xs:List V} (e:H a=some (.frz o (.lst xs))):TyOf K H (.ref a) (.type "list")
 | tup {a:Addr} {xs:List V} (e:H a=some (.tup xs)):TyOf K H (.ref a) (.type "tuple")
 | dK {a:Addr} {kvs:List (Key×V)} (e:H a=some (.dK kvs)):TyOf K H (.ref a) (.type "dict")
 | dT {a:Addr} {kvs:List (List Key×V)} (e:H a=some (.dT kvs)):TyOf K H (.ref a) (.type "dict")
 | ins {a C dx:Addr} {fs:List (Str×V)} (e:H a=some (.ins C dx fs)) (cl:Cls K C) (ha:PySem.W.findIn K (.ref C) "__class__" = some (some (.builtin "object.__class__")))
   (hn:PySem.W.specialIn K (.builtin "object.__class__") "__get__" = some (some (.builtin "getset_descriptor.__get__"))) (htk:PySem.W.takesIn K (.builtin "object.__class__")=some true)
   (hm:PySem.W.mroIn K C (.type "object")=some true):TyOf K H (.ref a) (.ref C)
theorem b7s {x:V} {u t:Value} (I:Inv X pins σ H s) (rx:RelV x u) (ty:TyOf X.K H x t) (e:PySem.W.kitOne X.K t c=some b) (h:∀ tk,Q (.bool b) { s with toks:=tk }) :
  wpAny (model X.prog X.w) A (call (.builtin "isinstance") [u,c]) Q E s:=by
 cases ty with
 | non=>cases (show u=Value.none from rx); exact PySem.W.kia_one PySem.W.kitx_none I.kIn True.intro e (fun z=>nomatch z) h
 | bl y=>cases (show u=Value.bool y from rx); exact PySem.W.kia_one PySem.W.kitx_bool I.kIn True.intro e (fun z=>nomatch z) h
 | int i=>obtain ⟨t,q⟩:=(show ∃ t,u=Value.int i t from rx); cases q; exact PySem.W.kia_one PySem.W.kitx_int I.kIn True.intro e (fun z=>nomatch z) h
 | str y=>obtain ⟨t,q⟩:=(show ∃ t,u=Value.str y t from rx); cases q; exact PySem.W.kia_one PySem.W.kitx_str I.kIn True.intro e (fun z=>nomatch z) h
 | flt y=>obtain ⟨t,q⟩:=(show ∃ t,u=Value.float y t from rx); cases q; exact PySem.W.kia_one PySem.W.kitx_float I.kIn True.intro e (fun z=>nomatch z) h
 | @lst a xs ea =>
  cases (show u=Value.ref a from rx)
  obtain ⟨_,_,n,_,h1⟩:=(show ObjOk X.prog X.w H s.heap a (.lst xs) from I.hok a _ ea)
  exact PySem.W.kia_one PySem.W.kitx_list I.kIn ⟨_,h1,rfl⟩ e (fun z=>nomatch z) h
 | @frz a ob xs ea =>
  cases (show u=Value.ref a from rx)
  obtain ⟨_,_,_,n,_,h1⟩:=(show ObjOk X.prog X.w H s.heap a (.frz ob (.lst xs)) from I.hok a _ ea)
  exact PySem.W.kia_one PySem.W.kitx_list I.kIn ⟨_,h1,rfl⟩ e (fun z=>nomatch z) h
 | @tup a xs ea =>
  cases (show u=Value.ref a from rx)
  obtain ⟨_,_,_,p⟩:=(show ObjOk X.prog X.w H s.heap a (.tup xs) from I.hok a _ ea)
  obtain ⟨o,h1,h2,_⟩:=p
  exact PySem.W.kia_one PySem.W.kitx_tuple I.kIn ⟨o,h1,h2⟩ e (fun z=>nomatch z) h
 | @dK a kvs ea =>
  cases (show u=Value.ref a from rx)
  obtain ⟨_,_,vs,_,p⟩:=(show ObjOk X.prog X.w H s.heap a (.dK kvs) from I.hok a _ ea)
  obtain ⟨o,es,ep,h1,h2,_⟩:=p
  exact PySem.W.kia_one PySem.W.kitx_dict I.kIn ⟨o,h1,h2.1⟩ e (fun z=>nomatch z) h
 | @dT a kvs ea =>
  cases (show u=Value.ref a from rx)
  obtain ⟨_,_,xs,_,o,es,ep,h1,h2,_⟩:=(show ObjOk X.prog X.w H s.heap a (.dT kvs) from I.hok a _ ea)
  exact PySem.W.kia_one PySem.W.kitx_dict I.kIn ⟨o,h1,h2.1⟩ e (fun z=>nomatch z) h
 | @ins a C dx fs ea cl ha hn htk hm =>
  cases (show u=Value.ref a from rx)
  obtain ⟨mA,O,_⟩:=c5t I.hok ea
  obtain ⟨od,J,_⟩:=O.look
  exact PySem.W.kia_one (PySem.W.kitx_own (cl.get _) cl.hd ha hn htk hm) I.kIn J e (fun z=>nomatch z) h
end
end L2
namespace L2
open PySem PySem.Spec PyProof.Rows
structure Room (k:Nat) (A:Around):Prop where
 hd:A.handled=none
 dp:A.depth + 3 * k + 5 < recursionLimit
 un:A.units + 16 * k + 200 < cLine
 gd:A.guards=some []
theorem Room.mono {j k:Nat} {A:Around} (r:Room k A) (h:j≤k):Room j A:=⟨r.hd,by have:=r.dp; lia,by have:=r.un; lia,r.gd⟩
theorem Room.deeper {k:Nat} {A:Around} (r:Room (k + 1) A) (env:Env):Room k (A.deeper env) :=
 ⟨r.hd,by have:=r.dp; show A.depth + 1 + 3 * k + 5 < _; lia,by have:=r.un; show A.units + 3 + 16 * k + 200 < _; lia,r.gd⟩
theorem Room.in1 {k:Nat} {A:Around} (r:Room (k + 1) A):Room k A.in1 :=
 ⟨r.hd,by have:=r.dp; show A.depth + 3 * k + 5 < _; lia,by have:=r.un; show A.units + 1 + 16 * k + 200 < _; lia,r.gd⟩
theorem Room.depth {k:Nat} {A:Around} (r:Room k A):A.depth < recursionLimit:=by have:=r.dp; lia
theorem Room.units {k:Nat} {A:Around} (r:Room k A):A.units + 64 < cLine:=by have:=r.un; lia
def tNil:TA:=fun _ H Q=>Q [] H
def c0c (ta:TE) (tr:TA):TA:=fun σ H Q=>ta σ H fun x H1=>tr σ H1 fun xs H2=>Q (x :: xs) H2
section
variable {X:Cx} {e:Expr} {es:List Expr} {te:TE} {t:TA} {pos:Pos}
theorem a1u:PA X [] tNil:=fun _ _ _ _ H Q I h=>Calls.spliced_nil ⟨[],H,I,.nil,h⟩
theorem a0h (ha:PE X e te) (hr:PA X es t) (hs:starEach (e :: es) X.env=(false,eval e X.env) :: starEach es X.env:=by rfl):PA X (e :: es) (c0c te t):=by
 intro pos pins s σ H Q I h
 rw [hs]
 show wpAny _ _ (spliced ((false,eval e X.env) :: backTo pos (starEach es X.env))) _ _ s
 refine Calls.spliced_cons (thn (ha pins s σ H _ I h) fun u s1 ⟨x,H1,I1,r1,q1⟩=>?_)
 exact thn (hr pos pins s1 σ H1 _ I1 q1) fun us s2 ⟨xs,H2,I2,r2,q2⟩=>⟨x :: xs,H2,I2,.cons r1 r2,q2⟩
def tTup (t:TA):TE:=fun σ H Q=>t σ H fun xs H1=>xs.length≤sizeLine∧∀ p,H1 p=none→Q (.ref p) (upd H1 p (.tup xs))
def tLst (t:TA):TE:=fun σ H Q=>t σ H fun xs H1=>xs.length≤sizeLine∧∀ p,H1 p=none→Q (.ref p) (upd H1 p (.lst xs))
theorem c3a {x1} (h:PA X es t):PE X (.Tuple es x1 pos) (tTup t):=by
 intro pins s σ H Q I hq
 refine wpAny_Tuple_spliced (thn (h pos pins s σ H _ I hq) fun us s1 ⟨xs,H1,I1,r,z,q⟩=>⟨by rw [← r.length]; exact z,?_⟩)
 have hf:H1 s1.heap.objs.size=none:=I1.hok.fresh (Γi _)
 refine ⟨.ref s1.heap.objs.size,upd H1 s1.heap.objs.size (.tup xs),I1.laid (t':=s1.toks) (fun b u e=>Γc _ e) (Γi _) ?_,rfl,q _ hf⟩
 exact ⟨z,us,r,⟨_,Γm _ rfl,rfl,_,rfl⟩⟩
theorem c3b (h:PA X es t):PE X (.List es pos) (tLst t):=by
 intro pins s σ H Q I hq
 refine wpAny_List_spliced (thn (h pos pins s σ H _ I hq) fun us s1 ⟨xs,H1,I1,r,z,q⟩=>⟨by rw [← r.length]; exact z,?_⟩)
 have hf:H1 s1.heap.objs.size=none:=I1.hok.fresh (Γi _)
 refine ⟨.ref s1.heap.objs.size,upd H1 s1.heap.objs.size (.lst xs),I1.laid (t':=s1.toks) (fun b u e=>Γc _ e) (Γi _) ?_,rfl,q _ hf⟩
 exact ⟨z,us,0,r,Γm _ rfl⟩
end
abbrev Sp:=List V→Hp→VK→XK→Prop
abbrev CXT:=List Env→Hp→Shared→XK→Value→Shared→Prop
structure Env0 (P:Program) (w:World) (K:Γd) (mg:Str→Option Value) (base:Heap) (A:Around) (outer:List Env) (s:Shared) (H:Hp):Prop where
 frames:A.frames=some outer
 mod:Mod K mg base
 bs:∀ b o,base.get? b=some o→s.heap.get? b=some o∧H b=none
 bsz:base.objs.size≤s.heap.objs.size
 funs:s.heap.FunFrames base outer
 frf:∀ b∈frs outer,H b=none
 hok:HOk P w H s.heap
 bare:AllBare s.gens
def CE (outer:List Env) (P:Program) (w:World) (H:Hp) (s:Shared) (Q:VK) (u:Value) (s':Shared):Prop :=
 ∃ v H',s'.os=s.os∧AllBare s'.gens∧Un (frs outer) [] H H' s.heap s'.heap∧HOk P w H' s'.heap∧RelV v u∧Q v H'
def CR (CX:CXT) (outer:List Env) (P:Program) (w:World) (H:Hp) (s:Shared) (Q:VK) (E:XK) (r:Result) (s':Shared):Prop :=
 match r with
 | .ok (.ret u)=>CE outer P w H s Q u s'
 | .ok _=>False
 | .error e=>CX outer H s E e s'
structure FnOk (P:Program) (w:World) (K:Γd) (mg:Str→Option Value) (base:Heap) (CX:CXT) (k:Nat) (f:Addr) (fd:FuncData) (ps:List Str) (sp:Sp):Prop where
 len:∀ vs H Q E,sp vs H Q E→vs.length=ps.length
 run:∀ (A:Around) (outer:List Env) (s:Shared) (H:Hp) (args:Args) (us:List Value) (vs:List V) (Q:VK) (E:XK),Room k A→Env0 P w K mg base A outer s H→BindsTo s fd args (ps.zip us)→Vals vs us→sp vs H Q E →
  codeAny (model P w) A (.call (.ref f) args) (CR CX outer P w H s Q E) s
theorem FnOk.mono {P:Program} {w:World} {K:Γd} {mg:Str→Option Value} {base:Heap} {CX:CXT} {j k:Nat} {f:Addr} {fd:FuncData} {ps:List Str} {sp:Sp} (F:FnOk P w K mg base CX j f fd ps sp) (h:j≤k) :
  FnOk P w K mg base CX k f fd ps sp:=⟨F.len,fun A outer s H args us vs Q E hr=>F.run A outer s H args us vs Q E (hr.mono h)⟩
theorem Env0.in1 {P:Program} {w:World} {K:Γd} {mg:Str→Option Value} {base:Heap} {A:Around} {outer:List Env} {s:Shared} {H:Hp} (e:Env0 P w K mg base A outer s H) :
  Env0 P w K mg base A.in1 outer s H:=⟨e.frames,e.mod,e.bs,e.bsz,e.funs,e.frf,e.hok,e.bare⟩
section
variable {X:Cx} {pins:List (Addr×Obj)} {σ:St} {H:Hp} {s s':Shared}
theorem Inv.env0 (I:Inv X pins σ H s):Env0 X.prog X.w X.K X.mg X.base X.A X.stack s H :=
 ⟨I.ok.frames,I.ok.mod,I.bs,Nat.le_trans I.ok.bsz I.sz,I.stack,I.stkFree,I.hok,I.bare⟩
theorem Inv.after {Q:VK} {u:Value} (I:Inv X pins σ H s) (h:CE X.stack X.prog X.w H s Q u s'):EP X pins σ Q u s':=by
 obtain ⟨v,H',os,bare,un,hok,r,q⟩:=h
 obtain ⟨hh,g,d,t,os'⟩:=s'
 obtain rfl:os'=s.os:=os
 exact ⟨v,H',I.call (h':=hh) (g':=g) (d':=d) (t':=t) (ch:=[]) un hok bare (fun b z=>absurd z (by simp)),r,q⟩
end
def d4h (sp:Sp) (dvs:List V) (E:XK) (t:TA):TE:=fun σ H Q=>t σ H fun vs H1=>sp (vs++dvs) H1 Q E
def Binds (K:Γd) (fd:FuncData) (ps:List Str) (ds:List Value):Prop :=
 ∀ (s:Shared) (us:List Value),K.In s.heap→(us++ds).length=ps.length→BindsTo s fd ⟨us,[]⟩ (ps.zip (us++ds))
theorem Binds.all {K:Γd} {fd:FuncData} {ps:List Str} (h:∀ us:List Value,us.length=ps.length→bindArgs fd ⟨us,[]⟩=pure (ps.zip us)):Binds K fd ps []:=fun s us _ hl=>by
 rw [List.append_nil] at hl ⊢
 exact .of_eq (h us hl)
def b9t (CX:CXT) (X:Cx) (E:XK):Prop:=∀ (pins:List (Addr×Obj)) (σ:St) (H:Hp) (s:Shared) (e:Value) (s':Shared),Inv X pins σ H s→CX X.stack H s E e s'→X.xe e s'
section
variable {X:Cx} {CX:CXT} {k:Nat} {f C:Addr} {fd:FuncData} {ps:List Str} {sp:Sp} {dvs:List V} {ds:List Value} {E:XK} {x m:Str} {p pos apos:Pos} {e o:Expr} {es:List Expr} {ta:TE} {t:TA}
theorem c8e {pins:List (Addr×Obj)} {σ:St} {H:Hp} {s:Shared} {Q:VK} {us:List Value} {vs:List V} (F:FnOk X.prog X.w X.K X.mg X.base CX k f fd ps sp) (hr:Room k X.A) (hb:Binds X.K fd ps ds) (hd:Vals dvs ds) (hx:b9t CX X E)
  (I:Inv X pins σ H s) (r:Vals vs us) (h:sp (vs++dvs) H Q E):wpAny (model X.prog X.w) X.A (call (.ref f) us) (EP X pins σ Q) X.xe s:=by
 have r2:Vals (vs++dvs) (us++ds):=r.append hd
 have hl:(us++ds).length=ps.length:=by rw [← r2.length]; exact F.len _ _ _ _ h
 refine wpAny_call (codeAny_mono (F.run X.A X.stack s H ⟨us,[]⟩ (us++ds) (vs++dvs) Q E hr I.env0 (hb s us I.kIn hl) r2 h) fun r s' hq=>?_)
 cases r with
 | error e=>exact hx pins σ H s e s' I hq
 | ok fl =>
  cases fl with
  | ret u=>exact I.after hq
  | next=>exact False.elim hq
  | brk=>exact False.elim hq
  | cont=>exact False.elim hq
theorem c5g (F:FnOk X.prog X.w X.K X.mg X.base CX k f fd ps sp) (hr:Room k X.A) (hg:Gl X x) (hm:X.mg x=some (.ref f)) (hk:PySem.W.keepIn X.K (.ref f)=true) (hb:Binds X.K fd ps ds) (hd:Vals dvs ds) (hx:b9t CX X E)
  (ha:PA X (e :: es) t) (hdb:(x == ("__debug__":Str))=false:=by decide) (he:starEach (e :: es) X.env=(false,eval e X.env) :: starEach es X.env:=by rfl) (hpl:(backTo pos (starEach es X.env)).any (·.1)=false:=by rfl) :
  PE X (.Call (.Name x p) (e :: es) [] pos) (d4h sp dvs E t):=by
 intro pins s σ H Q I h
 refine wpAny_Call_Name_kw (c5q I hg hm ?_ hdb)
 refine PySem.W.callWith_K (h₀:=X.base) I.ok.mod.kin hk (thn (ha pos pins s σ H _ I h) fun us s1 ⟨vs,H1,I1,r,q⟩=>⟨I1.kIn,?_⟩) he hpl
 exact c8e F hr hb hd hx I1 r q
structure Mk (K:Γd) (C f:Addr):Prop where
 makes:PySem.W.makesIn K C=true
 init:PySem.W.findIn K (.ref C) "__init__" = some (some (.ref f))
 fn:PySem.W.isFn K (.ref f)=true
 kp:PySem.W.keepIn K (.ref C)=true
end
section
variable {X:Cx} {CX:CXT} {k:Nat} {f C:Addr} {fd:FuncData} {ps ks:List Str} {sp:Sp} {E:XK} {x m:Str} {p pos apos kpos:Pos} {e o:Expr} {es:List Expr} {kws:List Keyword} {te ta:TE} {t tk:TA} {nm:Option Str}
structure KBinds (K:Γd) (fd:FuncData) (ps ks:List Str) (g:List Value→List Value→List Value) (gV:List V→List V→List V):Prop where
 to:∀ (s:Shared) (us ws:List Value),K.In s.heap→(g us ws).length=ps.length→BindsTo s fd ⟨us,ks.zip ws⟩ (ps.zip (g us ws))
 rel:∀ {vs:List V} {us:List Value} {zs:List V} {ws:List Value},Vals vs us→Vals zs ws→Vals (gV vs zs) (g us ws)
variable {g:List Value→List Value→List Value} {gV:List V→List V→List V}
end
structure FnScope (N P:List Str) (sc:Scope):Prop where
 kind:sc.kind=.function
 co:sc.isCoroutine=false
 gen:sc.isGenerator=false
 nd:N.Nodup
 pre:N.take P.length=P
 par:∀ x∈P,sc.names.lookup x=some .local ∨ sc.names.lookup x=some .cell
 nofree:∀ y∈sc.names,y.2≠.free
theorem b0r {kindOf:Str→Option NameKind} {x:Str}:∀ {binds:List (Str×Value)} {m:Str→Option Value},(∀ v,(x,v) ∉ binds)→bindL kindOf binds m x=m x
 | [],_,_=>rfl
 | (n,v) :: r,m,h=>by
  unfold bindL
  rw [b0r fun w hw=>h w (Γh _ hw)]
  split
  ·have:x≠n:=by rintro rfl; exact h v Γn
   simp [this]
  ·rfl
theorem b0t {kindOf:Str→Option NameKind} {x:Str}:∀ {binds:List (Str×Value)} {m:Str→Option Value},(∀ v,(x,v) ∉ binds)→bindC kindOf binds m x=m x
 | [],_,_=>rfl
 | (n,v) :: r,m,h=>by
  unfold bindC
  rw [b0t fun w hw=>h w (Γh _ hw)]
  split
  ·rfl
  ·have:x≠n:=by rintro rfl; exact h v Γn
   simp [this]
theorem b0s {kindOf:Str→Option NameKind} {x:Str} {v:Value}:∀ {P:List Str} {vs:List Value} {i:Nat} {m:Str→Option Value},P.Nodup→P[i]?=some x→vs[i]?=some v→kindOf x=some .local →
  bindL kindOf (P.zip vs) m x=some v
 | [],_,_,_,_,h,_,_=>by simp at h
 | _ :: _,[],_,_,_,_,h,_=>by simp at h
 | p :: P,w :: vs,0,m,nd,h1,h2,hk=>by
  simp at h1 h2; subst h1; subst h2
  show bindL kindOf ((p,w) :: P.zip vs) m p=_
  unfold bindL
  rw [b0r fun v hv=>(List.nodup_cons.mp nd).1 (List.of_mem_zip hv).1,if_pos hk]
  simp
 | p :: P,w :: vs,i + 1,m,nd,h1,h2,hk=>by
  show bindL kindOf ((p,w) :: P.zip vs) m x=_
  unfold bindL
  exact b0s (i:=i) (List.nodup_cons.mp nd).2 (by simpa using h1) (by simpa using h2) hk
theorem b0u {kindOf:Str→Option NameKind} {x:Str} {v:Value}:∀ {P:List Str} {vs:List Value} {i:Nat} {m:Str→Option Value},P.Nodup→P[i]?=some x→vs[i]?=some v→kindOf x≠some .local →
  bindC kindOf (P.zip vs) m x=some v
 | [],_,_,_,_,h,_,_=>by simp at h
 | _ :: _,[],_,_,_,_,h,_=>by simp at h
 | p :: P,w :: vs,0,m,nd,h1,h2,hk=>by
  simp at h1 h2; subst h1; subst h2
  show bindC kindOf ((p,w) :: P.zip vs) m p=_
  unfold bindC
  rw [b0t fun v hv=>(List.nodup_cons.mp nd).1 (List.of_mem_zip hv).1,if_neg hk]
  simp
 | p :: P,w :: vs,i + 1,m,nd,h1,h2,hk=>by
  show bindC kindOf ((p,w) :: P.zip vs) m x=_
  unfold bindC
  exact b0u (i:=i) (List.nodup_cons.mp nd).2 (by simpa using h1) (by simpa using h2) hk
def start (N:List Str) (vs:List V):St:=vs.map some++Γj (N.length - vs.length) none
def c6r (CX:CXT) (P:Program) (w:World) (K:Γd) (mg:Str→Option Value) (base:Heap) (N:List Str) (qual:Str) (scope:Scope) (f:Addr) (cd:Value) (A:Around) (outer:List Env) (s:Shared) (H:Hp) (E:XK):Cx where
 prog:=P
 w:=w
 K:=K
 mg:=mg
 base:=base
 A:=A.deeper (envOfC qual scope s.heap.objs.size f cd)
 N:=N
 s₀:=s
 H₀:=H
 env:=envOfC qual scope s.heap.objs.size f cd
 outer:=outer
 stack:=envOfC qual scope s.heap.objs.size f cd :: outer
 ex:=[]
 calm:=true
 fn:=fun _=>true
 pn:=[]
 xe:=fun e s'=>wpAny (model P w) (A.deeper (envOfC qual scope s.heap.objs.size f cd)) (leaving (envOfC qual scope s.heap.objs.size f cd) e) (fun _ s''=>CX outer H s E e s'') (fun e' s''=>CX outer H s E e' s'') s'
theorem b3p {sc:Scope} {n:Nat} {x:Str} (h:sc.names.lookup x=some .cell):∃ c,(cellsFrom n sc.names []).lookup x=some c:=by
 have q:=PySem.W.cellsFrom_some sc.names n [] (.inl h)
 exact Option.isSome_iff_exists.mp q
theorem b7u {CX:CXT} {P:Program} {w:World} {K:Γd} {mg:Str→Option Value} {base:Heap} {N ps:List Str} {qual:Str} {scope:Scope} {f:Addr} {cd:Value} {A:Around} {outer:List Env} {s s1:Shared} {H:Hp} {E:XK} {us:List Value} {vs:List V}
  (S:FnScope N ps scope) (hd:A.handled=none) (e0:Env0 P w K mg base A outer s H) (hl:vs.length=ps.length) (r:Vals vs us)
  (x:InCallC s s.heap.objs.size (bindL (envOfC qual scope s.heap.objs.size f cd).kindOf (ps.zip us) fun _=>none) (cellsFrom (s.heap.objs.size + 1) scope.names []) (bindC (envOfC qual scope s.heap.objs.size f cd).kindOf (ps.zip us) fun _=>none) s1) :
  Inv (c6r CX P w K mg base N qual scope f cd A outer s H E) [] (start N vs) H s1:=by
 have hpl:ps.length≤N.length:=by have:=congrArg List.length S.pre; rw [List.length_take] at this; lia
 obtain ⟨h1,tk,rfl,hk⟩:=x.done
 have noA:∀ b:Addr,b ∉ (c6r CX P w K mg base N qual scope f cd A outer s H E).ex:=fun b z=>absurd (show b∈([]:List Addr) from z) (by simp)
 refine ⟨⟨e0.mod,S.kind,rfl,rfl,Γi _,fun y z c h1 h2=>?_,fun y hy=>?_,fun y c _ h=>?_,fun _=>hd,Around.frames_deeper e0.frames,.inr ⟨rfl,rfl⟩,fun b z=>absurd z (noA b),e0.bs,e0.bsz,fun b _ _=>noA b,fun b z=>absurd z (noA b),e0.funs,e0.frf⟩,
  rfl,e0.bare,Un.kept hk,⟨_,x.toInCall.ns,fun i y v h1 h2 h3=>?_⟩,fun y c h=>⟨_,x.cell y c h⟩,e0.hok.fresh (Γi _),fun y c h=>?_,fun p hp=>absurd (show p∈([]:List (Addr×Obj)) from hp) (by simp),e0.hok.kept hk,?_⟩
 ·exact name_of_addr x.apart (PySem.mem_of_lookup h1) (PySem.mem_of_lookup h2)
 ·have hy:scope.names.lookup y=some .cell ∨ scope.names.lookup y=some .free:=hy
  rcases hy with hy | hy
  ·exact b3p hy
  ·exact absurd rfl (S.nofree _ (PySem.mem_of_lookup hy))
 ·exact Nat.le_of_lt (x.above y c (PySem.mem_of_lookup h))
 ·have hi:i < vs.length:=by
   unfold start at h2
   by_cases hi:i < vs.length
   ·exact hi
   ·rw [List.getElem?_append_right (by simpa using hi)] at h2
    rw [List.getElem?_replicate] at h2
    split at h2 <;> cases h2
  have ha:vs[i]?=some v:=by
   unfold start at h2
   rw [List.getElem?_append_left (by simpa using hi),List.getElem?_map] at h2
   cases e:vs[i]? with
   | none=>rw [e] at h2; cases h2
   | some a=>rw [e] at h2; cases h2; rfl
  obtain ⟨u,hu,rv⟩:=r.get ha
  have hp:ps[i]?=some y:=by
   rw [← S.pre,List.getElem?_take_of_lt (by lia)]; exact h1
  have ndP:ps.Nodup:=by rw [← S.pre]; exact S.nd.sublist (List.take_sublist _ _)
  refine ⟨u,rv,?_⟩
  rcases S.par y (List.mem_of_getElem? hp) with k | k
  ·exact .inl ⟨k,b0s ndP hp hu k⟩
  ·obtain ⟨c,e⟩:=b3p (n:=s.heap.objs.size + 1) k
   refine .inr ⟨.inl k,c,e,?_⟩
   have q:=x.cell y c e
   rw [b0u ndP hp hu (by show scope.names.lookup y≠_; rw [k]; decide)] at q
   exact q
 ·exact e0.hok.fresh (Nat.le_of_lt (x.above y c (PySem.mem_of_lookup h)))
 ·unfold start
  show _=N.length
  rw [List.length_append,List.length_map,List.length_replicate]
  lia
theorem d7a {CX:CXT} {P:Program} {w:World} {K:Γd} {mg:Str→Option Value} {base:Heap} {k:Nat} {f:Addr} {name qual:Str} {params:Arguments} {body:List Stmt} {scope:Scope} {dV kV doc pm cdv ct oc:Value} {an od:Option Addr}
  {osl:Array (Option Value)} {N ps:List Str} {sp:Sp} (lk:K.lookup f=some ⟨oc,od,.func (PySem.W.fnOf name qual params body scope dV kV doc pm an cdv ct),osl⟩) (hcd:PySem.W.codeIn K cdv qual=true) (S:FnScope N ps scope)
  (len:∀ vs H Q E,sp vs H Q E→vs.length=ps.length)
  (hbody:∀ (A:Around) (outer:List Env) (s:Shared) (H:Hp) (vs:List V) (Q:VK) (E:XK),Room k (A.deeper (envOfC qual scope s.heap.objs.size f cdv))→sp vs H Q E →
   ∃ t,PSs (c6r CX P w K mg base N qual scope f cdv A outer s H E) body t∧t { nx:=fun _ H'=>Q .non H',rt:=Q } (start N vs) H) :
  FnOk P w K mg base CX (k + 1) f (PySem.W.fnOf name qual params body scope dV kV doc pm an cdv ct) ps sp:=by
 refine ⟨len,fun A outer s H args us vs Q E hr e0 hb r hsp=>?_⟩
 have hl:=len _ _ _ _ hsp
 have KX:K.In s.heap:=e0.mod.kin.keeps fun b o e=>(e0.bs b o e).1
 have lim:s.heap.NoLimit:=e0.mod.nolimit.keeps fun b o e=>(e0.bs b o e).1
 have hkind:∀ y∈ps.zip us,scope.names.lookup y.1=some .local ∨ (scope.names.lookup y.1=some .cell∧((cellsFrom (s.heap.objs.size + 1) scope.names []).lookup y.1).isSome=true):=fun ⟨n,v⟩ hy=>by
  rcases S.par n (List.of_mem_zip hy).1 with q | q
  ·exact .inl q
  ·exact .inr ⟨q,PySem.W.cellsFrom_some _ _ _ (.inl q)⟩
 refine codeAny_call_function hr.depth (KX _ _ lk) rfl S.co S.gen rfl (PySem.W.codeRec_of KX hcd) (hb _ _ _ _ ?_)
 refine wpAny_newFunctionEnv_cells S.kind hkind fun env he s1 x=>?_
 subst he
 refine ⟨lim.keeps x.toInCall.keep,codeAny_func ?_⟩
 obtain ⟨t,ht,hq⟩:=hbody A outer s H vs Q E (hr.deeper _) hsp
 have I:Inv (c6r CX P w K mg base N qual scope f cdv A outer s H E) [] (start N vs) H s1:=b7u S hr.hd e0 hl r x
 refine wpAny_mono (ht [] s1 (start N vs) H _ I hq) (fun fl s' hs=>?_) fun e s' hs=>hs
 have fin:∀ {σ':St} {H':Hp} {v:V} {u:Value},Inv (c6r CX P w K mg base N qual scope f cdv A outer s H E) [] σ' H' s'→RelV v u→Q v H'→CE outer P w H s Q u s' :=
  fun {σ' H' v u} J rv q=>⟨v,H',J.os,J.bare,J.base,J.hok,rv,q⟩
 cases fl with
 | ret u =>
  obtain ⟨v,σ',H',J,rv,q⟩:=hs
  exact fin J rv q
 | next =>
  obtain ⟨σ',H',J,q⟩:=hs
  exact fin (v:=V.non) (u:=Value.none) J rfl q
 | brk =>
  obtain ⟨_,_,_,q⟩:=hs
  exact False.elim q
 | cont =>
  obtain ⟨_,_,_,q⟩:=hs
  exact False.elim q
end L2
namespace L2
open PySem PySem.Spec PyProof.Rows
section
variable {X:Cx} {x:Str} {p pos:Pos} {e:Expr} {es:List Expr} {t:TA} {id T:String} {r:List V→Hp→VK→Prop}
def tCB (r:List V→Hp→VK→Prop) (t:TA):TE:=fun σ H Q=>t σ H fun vs H1=>r vs H1 Q
theorem a4f (hc:a1b X (.builtin id) r) (hg:Gl X x) (hm:X.mg x=none) (hv:bootBuiltins x=some (.builtin id)) (ha:PA X (e :: es) t) (hn:x≠"__name__":=by decide) (hdb:(x == ("__debug__":Str))=false:=by decide)
  (he:starEach (e :: es) X.env=(false,eval e X.env) :: starEach es X.env:=by rfl) (hpl:(backTo pos (starEach es X.env)).any (·.1)=false:=by rfl):PE X (.Call (.Name x p) (e :: es) [] pos) (tCB r t):=by
 intro pins s σ H Q I h
 refine wpAny_Call_Name_kw (a2y I hg hm hv ?_ hn hdb)
 exact PyProof.Rows.callWith_builtin1 (thn (ha pos pins s σ H _ I h) fun us s1 ⟨vs,H1,I1,r1,q1⟩=>hc pins s1 σ H1 vs us Q I1 r1 q1) he hpl
theorem b6u (hc:a1b X (.type T) r) (hg:Gl X x) (hm:X.mg x=none) (hv:bootBuiltins x=some (.type T)) (ha:PA X (e :: es) t) (hn:x≠"__name__":=by decide) (hdb:(x == ("__debug__":Str))=false:=by decide)
  (he:starEach (e :: es) X.env=(false,eval e X.env) :: starEach es X.env:=by rfl) (hpl:(backTo pos (starEach es X.env)).any (·.1)=false:=by rfl):PE X (.Call (.Name x p) (e :: es) [] pos) (tCB r t):=by
 intro pins s σ H Q I h
 refine wpAny_Call_Name_kw (a2y I hg hm hv ?_ hn hdb)
 exact PyProof.Rows.callWith_type1 (thn (ha pos pins s σ H _ I h) fun us s1 ⟨vs,H1,I1,r1,q1⟩=>hc pins s1 σ H1 vs us Q I1 r1 q1) he hpl
end
end L2
namespace HT
open PySem PyProof.Rows
def lexLt:List Int→List Int→Bool
 | [],[]=>false
 | [],_ :: _=>true
 | _ :: _,[]=>false
 | x :: xs,y :: ys=>if x=y then lexLt xs ys else decide (x < y)
theorem b4m (x y:Int) (xs ys:List Int):lexLt (x :: xs) (y :: ys)=if x=y then lexLt xs ys else decide (x < y):=rfl
theorem a8k:lexLt [] []=false:=rfl
theorem a6i (y:Int) (ys:List Int):lexLt [] (y :: ys)=true:=rfl
theorem a6j (x:Int) (xs:List Int):lexLt (x :: xs) []=false:=rfl
theorem c1v (A:Around) (s:Shared) (a:Int) (t:Tok) (c:Int) (u:Tok):∃ e,SeqAt.EqAt A s (.int a t) (.int c u) e∧(e=true↔a=c) :=
 ⟨(a == c),SeqAt.EqAt.int_int a t c u,by simp⟩
theorem c0i (A:Around) (s:Shared) (a:Int) (t:Tok) (c:Int) (u:Tok) (prog:Program) (w:World) (E:Value→Shared→Prop) (Q:Value→Shared→Prop) (h:Q (.bool (decide (a < c))) s) :
  wpAny (model prog w) A (richCompare .Lt (.int a t) (.int c u)) Q E s :=
 (PyProof.Rows.lt_int h:wpAny (model prog w) A (compareOp .Lt (.int a t) (.int c u)) Q E s)
section
open PySem.SeqAt
open PySem.AutoSeq1 (wpAny_loadPart')
open PySem.MeetsSeq PySem.MeetsSeq2 PySem.MeetsSeq3
theorem a7n (l b:Addr) (items items2:Array Value) (n n2:Nat) (dd dd2:Option Addr) (sl sl2:Array (Option Value)) (ns ms:List Int) (hi:IntsAre items.toList ns) (hj:IntsAre items2.toList ms) :
  Meets (Builtin.«tuple.__lt__» ⟨[.ref l,.ref b],[]⟩)
   (fun _ R s=>s.heap.get? l=some { cls:=.type "tuple",dict:=dd,data:=.seq items n,slots:=sl }∧s.heap.get? b=some { cls:=.type "tuple",dict:=dd2,data:=.seq items2 n2,slots:=sl2 } ∧
    R (.ok (.ret (.bool (lexLt ns ms)))) s) :=
 .of_wp fun prog w A R s h=>by
  obtain ⟨hp,g,d,tk,os⟩:=s; obtain ⟨hl,hb,h⟩:=h
  have f2:=AutoSeq1.sub_tuple_tuple
  have z1:items.size=ns.length:=by rw [← hi.length]; simp
  have z2:items2.size=ms.length:=by rw [← hj.length]; simp
  wp_walk using wpAny_loadPart' hl,wpAny_loadPart' hb,wpAny_forIn_list _ (fun rest b s'=>b.1=none∧s'=⟨hp,g,d,tk,os⟩∧∃ (vs ws:List Value) (ns' ms':List Int),rest=vs.zip ws ∧
   IntsAre vs ns'∧IntsAre ws ms'∧ns'.length + items2.size=ms'.length + items.size∧R (.ok (.ret (.bool (lexLt ns' ms')))) ⟨hp,g,d,tk,os⟩) _
  case turn =>
   rintro ⟨y,x⟩ rest b s' ⟨hb',rfl,vs,ws,ns',ms',hz,hvi,hwi,hlen,hR⟩
   cases hvi with
   | nil=>rw [List.zip_nil_left] at hz; cases hz
   | cons a t hvi' =>
    cases hwi with
    | nil=>rw [List.zip_nil_right] at hz; cases hz
    | cons c u hwi' =>
     rw [List.zip_cons_cons] at hz
     injection hz with hyx hrest
     injection hyx with hy hx
     subst hy hx
     rw [b4m] at hR
     simp only [List.length_cons] at hlen
     obtain ⟨e,he,hiff⟩:=c1v A.in1 ⟨hp,g,d,tk,os⟩ a t c u
     refine Γa (he prog w _ _ ?_)
     cases e with
     | true =>
      rw [if_pos (hiff.mp rfl)] at hR
      wp_walk
      exact ⟨rfl,rfl,_,_,_,_,hrest,hvi',hwi',by lia,hR⟩
     | false =>
      rw [if_neg (fun q=>absurd (hiff.mpr q) Γk)] at hR
      have hri:=c0i A.in1 ⟨hp,g,d,tk,os⟩ a t c u prog w
      wp_walk using hri
      exact ⟨_,rfl,by simpa using hR⟩
  case fin =>
   rintro ⟨b1,b2⟩ s' ⟨hb',rfl,vs,ws,ns',ms',hz,hvi,hwi,hlen,hR⟩
   simp only at hb'
   subst hb'
   have hv:lexLt ns' ms'=decide (items.size < items2.size):=by
    cases hvi with
    | nil =>
     cases hwi with
     | nil =>
      simp only [List.length_nil] at hlen
      rw [a8k]
      exact (decide_eq_false (by lia)).symm
     | cons c u hw =>
      simp only [List.length_nil,List.length_cons] at hlen
      rw [a6i]
      exact (decide_eq_true (by lia)).symm
    | cons a t hv =>
     cases hwi with
     | nil =>
      simp only [List.length_nil,List.length_cons] at hlen
      rw [a6j]
      exact (decide_eq_false (by lia)).symm
     | cons c u hw =>
      rw [List.zip_cons_cons] at hz
      cases hz
   rw [hv] at hR
   wp_walk
   exact ⟨_,rfl,by simpa [Builtin.Tuple.tupleCompareSizes] using hR⟩
  case h =>
   exact ⟨rfl,rfl,items.toList,items2.toList,ns,ms,rfl,hi,hj,by lia,h⟩
end
section
variable {prog:Program} {w:World} {A:Around} {E:Value→Shared→Prop} {s:Shared}
theorem lt_tupInts {l b:Addr} {items items2:Array Value} {ns ms:List Int} {Q:Value→Shared→Prop} (hl:IsTup s.heap l items) (hb:IsTup s.heap b items2) (hi:IntsAre items.toList ns) (hj:IntsAre items2.toList ms)
  (hu:A.units < cLine) (h:Q (.bool (lexLt ns ms)) s):wpAny (model prog w) A (compareOp .Lt (.ref l) (.ref b)) Q E s:=by
 obtain ⟨⟨cls,dd,data,sl⟩,ho,hc,n,hd⟩:=id hl
 obtain ⟨⟨cls2,dd2,data2,sl2⟩,ho2,hc2,n2,hd2⟩:=id hb
 simp only at hc hd hc2 hd2
 subst hc hd hc2 hd2
 exact richCompare_meets_room (op:=.Lt) ⟨_,ho,rfl⟩ ⟨_,ho2,rfl⟩ PySem.F.slot_tuple_lt PySem.F.entry_tuple_lt (PySem.F.args_tuple_lt_2 _ _) (a7n l b items items2 n n2 dd dd2 sl sl2 ns ms hi hj)
  ⟨ho,ho2,show Value.bool (lexLt ns ms)≠Value.notImplemented∧Q (.bool (lexLt ns ms)) s from ⟨(fun x=>nomatch x),h⟩⟩ hu
theorem cat_tup {t b:Addr} {vs ws:List Value} {Q:Value→Shared→Prop} (ht:IsTup s.heap t vs.toArray) (hb:IsTup s.heap b ws.toArray) (hv:vs≠[])
  (h1:ws=[]→Q (.ref t) s) (h2:ws≠[]→Q (.ref s.heap.objs.size) { s with heap:=s.heap.push { cls:=.type "tuple",data:=.seq (vs++ws).toArray } })
  (hsz:vs.length + ws.length≤sizeLine):wpAny (model prog w) A (binaryOp .Add (.ref t) (.ref b)) Q E s:=by
 obtain ⟨⟨cls,dd,data,sl⟩,ho,hc,n,hd⟩:=id ht
 obtain ⟨⟨cls2,dd2,data2,sl2⟩,ho2,hc2,n2,hd2⟩:=id hb
 simp only at hc hd hc2 hd2
 subst hc hd hc2 hd2
 have e:vs.toArray++ws.toArray=(vs++ws).toArray:=by simp
 by_cases hw:ws=[]
 ·exact concat_meets ⟨_,ho,rfl⟩ ⟨_,ho2,rfl⟩ noFill_tuple_add seq_tuple_add PySem.F.slot_tuple_add PySem.F.entry_tuple_add (PySem.F.args_tuple_add_2 _ _)
   (tuple_addW1 t b vs.toArray ws.toArray n n2 dd dd2 sl sl2 (by simpa using hv) (by simp [hw])) ⟨ho,ho2,h1 hw⟩
 ·refine concat_meets ⟨_,ho,rfl⟩ ⟨_,ho2,rfl⟩ noFill_tuple_add seq_tuple_add PySem.F.slot_tuple_add PySem.F.entry_tuple_add (PySem.F.args_tuple_add_2 _ _)
   (tuple_addW2 t b vs.toArray ws.toArray n n2 dd dd2 sl sl2 (by simpa using hv) (by simpa using hw) (by rw [List.size_toArray,List.size_toArray]; exact hsz)) ⟨ho,ho2,?_⟩
  rw [e]
  exact h2 hw
def sIx (n d:Nat):Option Int→Nat
 | none=>d
 | some v=>if v < 0 then (v + (n:Int)).toNat else min v.toNat n
theorem c8c (n d:Nat) (hd:d≤n) (o:Option Int):sIx n d o≤n:=by
 cases o with
 | none=>exact hd
 | some v =>
  show (if v < 0 then (v + (n:Int)).toNat else min v.toNat n)≤n
  by_cases hv:v < 0
  ·rw [if_pos hv]; lia
  ·rw [if_neg hv]; exact Nat.min_le_right _ _
theorem b9i (v:Int) (n d:Nat):(if v < 0 then max (v + (n:Int)) 0 else min v (n:Int))=((sIx n d (some v):Nat):Int):=by
 show (if v < 0 then max (v + (n:Int)) 0 else min v (n:Int))=(((if v < 0 then (v + (n:Int)).toNat else min v.toNat n):Nat):Int)
 by_cases hv:v < 0
 ·simp only [if_pos hv]; lia
 ·simp only [if_neg hv]; lia
theorem b5e (lo hi:Option Int) (n:Nat):Builtin.Slice.sliceAdjust lo hi 1 (n:Int)=(((sIx n 0 lo:Nat):Int),((sIx n n hi:Nat):Int)):=by
 have h1:¬ ((1:Int) < 0):=by lia
 unfold Builtin.Slice.sliceAdjust
 simp only [h1,if_false]
 refine Prod.ext ?_ ?_
 ·cases lo with
  | none=>rfl
  | some v=>exact b9i v n 0
 ·cases hi with
  | none=>rfl
  | some v=>exact b9i v n n
theorem b4e (i j:Nat):Builtin.Slice.slicePlaces (i:Int) (j:Int) 1=j - i:=by
 unfold Builtin.Slice.slicePlaces
 have h1:(1:Int) > 0:=by lia
 simp only [h1,if_true,Int.ediv_one]
 split <;> lia
theorem a6s {v:Value} {o:Option Int} {Q:Option Int→Shared→Prop} (p:IsPart v o) (h:Q o s):wpAny (model prog w) A (Builtin.Slice.slicePartIndex v) Q E s:=by
 cases p with
 | none=>exact slicePart_none h
 | int i t=>exact slicePart_int h
theorem sliceApplied_gen {sl:Addr} {vl vu:Value} {lo hi:Option Int} {n:Nat} {Q:Int×Int×Nat→Shared→Prop} (hs:s.heap.IsSliceOf sl vl vu .none) (pl:IsPart vl lo) (pu:IsPart vu hi)
  (h:Q (((sIx n 0 lo:Nat):Int),1,sIx n n hi - sIx n 0 lo) s):wpAny (model prog w) A (Builtin.Slice.sliceApplied (.ref sl) (pure (n:Int))) Q E s:=by
 obtain ⟨os,hos,hcs,hds⟩:=id hs
 unfold Builtin.Slice.sliceApplied Builtin.Slice.sliceFields
 refine Γa (Γa (wpAny_field hos hds (x:=vl) rfl (Γa (wpAny_field hos hds (x:=vu) rfl (Γa (wpAny_field hos hds (x:=.none) rfl (Γb ?_)))))))
 refine Γa (slicePart_none ?_)
 show wpAny _ _ (if ((1:Int) == 0)=true then _ else _) _ _ s
 rw [if_neg (by decide)]
 refine Γa (a6s pl (Γa (a6s pu (Γa (Γb ?_)))))
 show wpAny _ _ (match Builtin.Slice.sliceAdjust lo hi 1 (n:Int) with | (lo,hi)=>pure (lo,(1:Int),Builtin.Slice.slicePlaces lo hi 1)) _ _ s
 rw [b5e lo hi n]
 show wpAny _ _ (pure (((sIx n 0 lo:Nat):Int),(1:Int),Builtin.Slice.slicePlaces ((sIx n 0 lo:Nat):Int) ((sIx n n hi:Nat):Int) 1)) _ _ s
 rw [b4e]
 exact Γb h
theorem c0r (xs:Array Value) (i k:Nat):((List.range k).filterMap fun (m:Nat)=>xs[((i:Int) + (m:Int) * 1).toNat]?).toArray=((xs.toList.drop i).take k).toArray:=by
 have e:(fun (m:Nat)=>xs[((i:Int) + (m:Int) * 1).toNat]?)=fun m=>xs[i + m]?:=by
  funext m
  have:((i:Int) + (m:Int) * 1).toNat=i + m:=by lia
  rw [this]
 rw [e]
 have:=pick_run xs i k
 rw [List.filterMap_map] at this
 have e2:((fun x=>xs[x]?) ∘ fun x=>i + x)=fun m=>xs[i + m]?:=rfl
 rw [e2] at this
 rw [this]
theorem getItem_tuple_cut {t sl:Addr} {items:Array Value} {vl vu:Value} {lo hi:Option Int} {Q:Value→Shared→Prop} (ht:IsTup s.heap t items) (hs:s.heap.IsSliceOf sl vl vu .none) (pl:IsPart vl lo) (pu:IsPart vu hi)
  (hw:¬ (sIx items.size 0 lo=0∧sIx items.size items.size hi=items.size))
  (h:Q (.ref s.heap.objs.size) { s with heap:=s.heap.push { cls:=.type "tuple",data:=.seq ((items.toList.drop (sIx items.size 0 lo)).take (sIx items.size items.size hi - sIx items.size 0 lo)).toArray } })
  (hsz:items.size≤sizeLine):wpAny (model prog w) A (getItem (.ref t) (.ref sl)) Q E s:=by
 have htake:sizeOk (.seq ((items.toList.drop (sIx items.size 0 lo)).take (sIx items.size items.size hi - sIx items.size 0 lo)).toArray):=by
  show ((items.toList.drop (sIx items.size 0 lo)).take (sIx items.size items.size hi - sIx items.size 0 lo)).toArray.size≤sizeLine
  rw [List.size_toArray,List.length_take,List.length_drop,Array.length_toList]
  lia
 have hj:sIx items.size items.size hi≤items.size:=c8c _ _ (Γi _) hi
 obtain ⟨os,hos,hcs,hds⟩:=id hs
 have hTs:s.TypeIs (.ref sl) "slice":=⟨os,hos,hcs⟩
 unfold getItem
 try with_reducible refine Γg ?_
 first | refine Γa (Γb ?_) | skip
 refine Γa (wpAny_sequenceKey ht.typeIs (by decide) ?_)
 refine Γa (wpAny_callSpecial?_slot (name:=Γe "__getitem__") ht.typeIs PyProof.Rows.slot_tuple_getitem
  (wpAny_call_entry PyProof.Rows.slot_tuple_getitem ht.typeIs entry_tuple_getitem ?_ (args_tuple_getitem _ _)))
 show wpAny _ _ (Builtin.Tuple.tupleItemsOf (.ref t) >>= _) _ _ s
 refine Γa (tupleItemsOf_ ht ?_)
 refine Γa (wpAny_typeOf hTs ?_)
 rw [if_pos (by decide)]
 refine Γa (sliceApplied_gen hs pl pu ?_)
 have hno:¬ ((((sIx items.size 0 lo:Nat):Int) == 0 && (1:Int) == 1 && (sIx items.size items.size hi - sIx items.size 0 lo) == items.size)=true):=by
  intro q
  rw [Bool.and_eq_true,Bool.and_eq_true] at q
  have q1:((sIx items.size 0 lo:Nat):Int)=0:=eq_of_beq q.1.1
  have q2:sIx items.size items.size hi - sIx items.size 0 lo=items.size:=eq_of_beq q.2
  exact hw ⟨by lia,by lia⟩
 show wpAny _ _ (if (((sIx items.size 0 lo:Nat):Int) == 0 && (1:Int) == 1 && (sIx items.size items.size hi - sIx items.size 0 lo) == items.size)=true then _ else _) _ _ s
 rw [if_neg hno,c0r]
 first
  | exact Γa (m:=Builtin.Tuple.tupleExact _) (wpAny_newObj_type (Γb ⟨_,rfl,Γb h⟩) htake)
  | exact Γa (m:=Builtin.Tuple.tupleExact _) (wpAny_newObj_type (Γa (Γb (Γb ⟨_,rfl,Γb h⟩))) htake)
  | exact Γa (Γa (m:=Builtin.Tuple.tupleExact _) (wpAny_newObj_type (Γb (Γb ⟨_,rfl,Γb h⟩)) htake))
  | exact Γa (Γa (m:=Builtin.Tuple.tupleExact _) (wpAny_newObj_type (Γb ⟨_,rfl,Γb h⟩) htake))
end
end HT
namespace L2
open PySem PySem.Spec PyProof.Rows
abbrev TO:=St→Hp→(Option Int→Hp→Prop)→Prop
def PO (X:Cx) (e:Option Expr) (t:TO):Prop :=
 ∀ (pins:List (Addr×Obj)) (s:Shared) (σ:St) (H:Hp) (Q:Option Int→Hp→Prop),Inv X pins σ H s→t σ H Q →
  wpAny (model X.prog X.w) X.A (evalPart e X.env) (fun u s'=>∃ o H',Inv X pins σ H' s'∧IsPart u o∧Q o H') X.xe s
def c4c:TO:=fun _ H Q=>Q none H
def d3z (t:TE):TO:=fun σ H Q=>t σ H fun x H1=>∃ i,x=.int i∧Q (some i) H1
theorem a3h {ns:List Int}:∀ {us:List Value},Vals (ns.map V.int) us→IntsAre us ns:=by
 induction ns with
 | nil=>intro us r; rw [List.map_nil] at r; cases r; exact .nil
 | cons n ns ih =>
  intro us r
  rw [List.map_cons] at r
  cases r with
  | cons r1 r2 =>
   obtain ⟨t,e⟩:=r1
   subst e
   exact .cons n t (ih r2)
section
variable {X:Cx} {e:Expr} {te:TE} {lo hi:Option Expr} {tl th:TO} {pos p2:Pos}
theorem c4y:PO X none c4c:=by
 intro pins s σ H Q I h
 rw [evalPart_none]
 exact Γb ⟨none,H,I,.none,h⟩
theorem c4x (h:PE X e te):PO X (some e) (d3z te):=by
 intro pins s σ H Q I hw
 rw [evalPart_some]
 refine thn (h pins s σ H _ I hw) fun u s1 ⟨x,H1,I1,r1,q1⟩=>?_
 obtain ⟨i,rfl,q⟩:=q1
 obtain ⟨t,rfl⟩:=r1
 exact ⟨some i,H1,I1,.int i t,q⟩
def SlR (X:Cx) (r:V→Option Int→Option Int→Hp→VK→Prop):Prop :=
 ∀ (pins:List (Addr×Obj)) (s:Shared) (σ:St) (H:Hp) (x:V) (v vl vu:Value) (lo hi:Option Int) (sl:Addr) (Q:VK),Inv X pins σ H s→RelV x v→s.heap.IsSliceOf sl vl vu .none→IsPart vl lo→IsPart vu hi→r x lo hi H Q →
  ∃ T id,typeLookup (.type T) "__getitem__" = pure (some (.builtin id))∧s.TypeIs v T∧wpAny (model X.prog X.w) X.A (getItem v (.ref sl)) (EP X pins σ Q) X.xe s
def tSl (r:V→Option Int→Option Int→Hp→VK→Prop) (te:TE) (tl th:TO):TE:=fun σ H Q=>te σ H fun x H1=>tl σ H1 fun l H2=>th σ H2 fun u H3=>r x l u H3 Q
theorem b2m {r:V→Option Int→Option Int→Hp→VK→Prop} (hr:SlR X r) (he:PE X e te) (hl:PO X lo tl) (hu:PO X hi th):PE X (.Subscript e (.Slice lo hi none p2) pos) (tSl r te tl th):=by
 intro pins s σ H Q I h
 refine Subscript_ (thn (he pins s σ H _ I h) fun v s1 ⟨x,H1,I1,r1,q1⟩=>?_)
 refine wpAny_Slice (thn (hl pins s1 σ H1 _ I1 q1) fun vl s2 ⟨l,H2,I2,pl,q2⟩=>thn (hu pins s2 σ H2 _ I2 q2) fun vu s3 ⟨u,H3,I3,pu,q3⟩=>?_)
 rw [evalPart_none]
 refine Γb ?_
 have I4:Inv X pins σ H3 { s3 with heap:=s3.heap.push { cls:=.type "slice",data:=.fields #[vl,vu,.none] } }:=I3.kept (t':=s3.toks) fun b ob q=>Γc _ q
 obtain ⟨T,id,hT,ht,hg⟩:=hr pins { s3 with heap:=s3.heap.push { cls:=.type "slice",data:=.fields #[vl,vu,.none] } } σ H3 x v vl vu l u s3.heap.objs.size Q I4 r1 (Heap.IsSliceOf.new ..) pl pu q3
 show wpAny (model X.prog X.w) X.A (subscriptTail e (.Slice lo hi none p2) v (.ref s3.heap.objs.size)) (EP X pins σ Q) X.xe { s3 with heap:=s3.heap.push { cls:=.type "slice",data:=.fields #[vl,vu,.none] } }
 exact tail_any (ops:=[.ref s3.heap.objs.size,v]) ht hT hg (by with_unfolding_all rfl)
def c3v (xs:List V) (lo hi:Option Int):List V:=(xs.drop (HT.sIx xs.length 0 lo)).take (HT.sIx xs.length xs.length hi - HT.sIx xs.length 0 lo)
theorem a6b (xs:List V) (lo hi:Option Int):(c3v xs lo hi).length≤xs.length:=by
 unfold c3v
 rw [List.length_take,List.length_drop]
 lia
def rSlT (K:Γd):V→Option Int→Option Int→Hp→VK→Prop:=fun x lo hi H Q=>∃ a xs,x=.ref a∧SqT K H a xs ∧
 ¬ (HT.sIx xs.length 0 lo=0∧HT.sIx xs.length xs.length hi=xs.length)∧∀ p,H p=none→Q (.ref p) (upd H p (.tup (c3v xs lo hi)))
theorem c7z:SlR X (rSlT X.K):=by
 intro pins s σ H x v vl vu lo hi sl Q I rx hs pl pu h
 obtain ⟨a,xs,rfl,hx,hw,q⟩:=h
 cases rx
 obtain ⟨its,r,ht,hz⟩:=I.tuple hx
 have hlen:its.toArray.size=xs.length:=by rw [List.size_toArray]; exact r.length.symm
 refine ⟨"tuple",_,PyProof.Rows.slot_tuple_getitem.lookup,ht.typeIs,?_⟩
 refine HT.getItem_tuple_cut ht hs pl pu (by rw [hlen]; exact hw) ?_ (by rw [hlen]; exact hz)
 rw [hlen]
 refine ⟨.ref s.heap.objs.size,_,I.laid (t':=s.toks) (o:=.tup (c3v xs lo hi)) (fun b ob q=>Γc _ q) (Γi _) ?_,rfl,q _ (I.hok.fresh (Γi _))⟩
 exact ⟨Nat.le_trans (a6b xs lo hi) hz,_,(r.drop (HT.sIx xs.length 0 lo)).take (HT.sIx xs.length xs.length hi - HT.sIx xs.length 0 lo),IsTup.new _ _⟩
def rLtT (K:Γd):R2:=fun x y H Q=>∃ a b ns ms,x=.ref a∧y=.ref b∧SqT K H a (ns.map V.int)∧SqT K H b (ms.map V.int)∧Q (.bl (HT.lexLt ns ms)) H
theorem c9n (hu:X.A.units < cLine):OpR X (compareOp .Lt) (rLtT X.K):=by
 intro pins s σ H x y v u Q I rx ry h
 obtain ⟨a,b,ns,ms,rfl,rfl,ha,hb,q⟩:=h
 cases rx
 cases ry
 obtain ⟨its,r1,p1,_⟩:=I.tuple ha
 obtain ⟨its2,r2,p2,_⟩:=I.tuple hb
 have i1:IntsAre its.toArray.toList ns:=a3h r1
 have i2:IntsAre its2.toArray.toList ms:=a3h r2
 exact HT.lt_tupInts p1 p2 i1 i2 hu ⟨.bl (HT.lexLt ns ms),H,I,rfl,q⟩
def d4x (K:Γd):R2:=fun x y H Q=>∃ a b xs ys,x=.ref a∧y=.ref b∧SqT K H a xs∧SqT K H b ys∧xs≠[]∧xs.length + ys.length≤sizeLine ∧
 (ys=[]→Q (.ref a) H)∧(ys≠[]→∀ p,H p=none→Q (.ref p) (upd H p (.tup (xs++ys))))
theorem Vals.nil_iff {xs:List V} {us:List Value} (r:Vals xs us):us=[]↔xs=[]:=by
 cases r with
 | nil=>simp
 | cons _ _=>simp
theorem c5l:OpR X (binaryOp .Add) (d4x X.K):=by
 intro pins s σ H x y v u Q I rx ry h
 obtain ⟨a,b,xs,ys,rfl,rfl,ha,hb,hx,hz,q1,q2⟩:=h
 cases rx
 cases ry
 obtain ⟨its,r1,p1,_⟩:=I.tuple ha
 obtain ⟨its2,r2,p2,_⟩:=I.tuple hb
 refine HT.cat_tup p1 p2 (fun z=>hx (r1.nil_iff.mp z)) (fun z=>⟨.ref a,H,I,rfl,q1 (r2.nil_iff.mp z)⟩) (fun z=>?_) (by rw [← r1.length,← r2.length]; exact hz)
 refine ⟨.ref s.heap.objs.size,_,I.laid (t':=s.toks) (o:=.tup (xs++ys)) (fun b ob q=>Γc _ q) (Γi _) ?_,rfl,q2 (fun w=>z (r2.nil_iff.mpr w)) _ (I.hok.fresh (Γi _))⟩
 exact ⟨by rw [List.length_append]; exact hz,_,r1.append r2,IsTup.new _ _⟩
end
end L2
namespace L2
open PySem PySem.Spec PyProof.Rows
def ixN (n:Nat) (i:Int):Option Nat:=if 0≤i then (if i < n then some i.toNat else none) else if -(n:Int)≤i then some (i + n).toNat else none
def atI {α:Type} (xs:List α) (i:Int):Option α:=(ixN xs.length i).bind fun j=>xs[j]?
theorem b7q {n:Nat} {i:Int} {j:Nat} (h:ixN n i=some j):seqIndex? i n=some j∧j < n∧-(n:Int)≤i∧i < n:=by
 unfold ixN at h
 by_cases h0:0≤i
 ·rw [if_pos h0] at h
  by_cases h1:i < n
  ·rw [if_pos h1] at h
   have e:i.toNat=j:=Option.some.inj h
   exact ⟨by rw [seqIndex_of h0 h1,e],by lia,by lia,h1⟩
  ·rw [if_neg h1] at h; cases h
 ·rw [if_neg h0] at h
  by_cases h1:-(n:Int)≤i
  ·rw [if_pos h1] at h
   have e:(i + n).toNat=j:=Option.some.inj h
   exact ⟨by rw [seqIndex_neg (by lia) h1,e],by lia,h1,by lia⟩
  ·rw [if_neg h1] at h; cases h
theorem b9p {α:Type} {xs:List α} {i:Int} {v:α} (h:atI xs i=some v):∃ j,seqIndex? i xs.length=some j∧xs[j]?=some v∧j < xs.length∧-(xs.length:Int)≤i∧i < xs.length:=by
 unfold atI at h
 cases e:ixN xs.length i with
 | none=>rw [e] at h; cases h
 | some j =>
  rw [e] at h
  obtain ⟨h1,h2,h3,h4⟩:=b7q e
  exact ⟨j,h1,h,h2,h3,h4⟩
def b9s (b:Expr):Prop:=∀ o i,subscripted b false o i=operate [o,i] (getItem o i)
def IxR (X:Cx) (r:R2):Prop :=
 ∀ (value slice:Expr) (pins:List (Addr×Obj)) (s:Shared) (σ:St) (H:Hp) (x y:V) (v u:Value) (Q:VK),Inv X pins σ H s→RelV x v→RelV y u→r x y H Q →
  subscripted slice false v u=operate [v,u] (getItem v u)→wpAny (model X.prog X.w) X.A (subscriptTail value slice v u) (EP X pins σ Q) X.xe s
def MtR (X:Cx) (id:String) (r:V→List V→Hp→VK→Prop):Prop :=
 ∀ (pins:List (Addr×Obj)) (s:Shared) (σ:St) (H:Hp) (x:V) (xs:List V) (v:Value) (us:List Value) (Q:VK),Inv X pins σ H s→RelV x v→Vals xs us→r x xs H Q →
  wpAny (model X.prog X.w) X.A (call (.builtin id) (v :: us)) (EP X pins σ Q) X.xe s
section
variable {X:Cx} {a b:Expr} {ta tb:TE} {pos:Pos}
theorem c9c {r:R2} (hr:IxR X r) (ha:PE X a ta) (hb:PE X b tb) (hs:b9s b):PE X (.Subscript a b pos) (tOp r ta tb):=by
 intro pins s σ H Q I h
 exact Subscript_ (d9c ha hb I h fun v u s2 x y H2 I2 rx ry q=>hr a b pins s2 σ H2 x y v u Q I2 rx ry q (hs _ _))
def rIxL (K:Γd):R2:=fun x y H Q=>∃ p xs i v,x=.ref p∧y=.int i∧SqL K H p xs∧atI xs i=some v∧Q v H
def rIxT (K:Γd):R2:=fun x y H Q=>∃ p xs i v,x=.ref p∧y=.int i∧SqT K H p xs∧atI xs i=some v∧Q v H
theorem c5r:IxR X (rIxL X.K):=by
 intro value slice pins s σ H x y v u Q I rx ry h hs
 obtain ⟨p,xs,i,z,rfl,rfl,hq,he,q⟩:=h
 cases rx
 obtain ⟨t,rfl⟩:=ry
 obtain ⟨its,r,pl,hz⟩:=I.list hq
 obtain ⟨j,h1,h2,h3,h4,h5⟩:=b9p he
 obtain ⟨w,ew,rw'⟩:=r.get h2
 have hl:=r.length
 have hn:=a9x
 have fin:EP X pins σ Q w s:=⟨z,H,I,rw',q⟩
 by_cases h0:0≤i
 ·have hj:i.toNat=j:=by
   rw [seqIndex_of h0 h5] at h1
   exact Option.some.inj h1
  exact item_listR pl.isList h0 (by lia) (by rw [hj]; simpa using ew) fin hs
 ·have hj:(i + (its.toArray.size:Int)).toNat=j:=by
   rw [seqIndex_neg (by lia) h4] at h1
   rw [List.size_toArray,← hl]
   exact Option.some.inj h1
  exact subscriptTail_builtinR (x:=w) pl.isList.typeIs slot_list_getitem.lookup
   (wpAny_getItem_list_neg (Q:=fun r s'=>r=w∧EP X pins σ Q r s') pl.isList (by lia) (by rw [List.size_toArray] <;> lia) (by lia) (by rw [hj]; simpa using ew) ⟨rfl,fin⟩) hs
theorem d0i:IxR X (rIxT X.K):=by
 intro value slice pins s σ H x y v u Q I rx ry h hs
 obtain ⟨p,xs,i,z,rfl,rfl,hq,he,q⟩:=h
 cases rx
 obtain ⟨t,rfl⟩:=ry
 obtain ⟨its,r,pl,hz⟩:=I.tuple hq
 obtain ⟨j,h1,h2,h3,h4,h5⟩:=b9p he
 obtain ⟨w,ew,rw'⟩:=r.get h2
 have hl:=r.length
 have hn:=a9x
 have fin:EP X pins σ Q w s:=⟨z,H,I,rw',q⟩
 exact subscriptTail_builtinR (x:=w) pl.typeIs slot_tuple_getitem.lookup
  (getItem_tuple (j:=j) (Q:=fun r s'=>r=w∧EP X pins σ Q r s') pl (by lia) (by lia) (by rw [List.size_toArray,← hl]; exact h1) (by simpa using ew) ⟨rfl,fin⟩) hs
theorem b4l (its:List Value) (n j:Nat) (u:Value):Obj.mapSeq (·.setIfInBounds j u) { cls:=.type "list",data:=.seq its.toArray n } = { cls:=.type "list",data:=.seq (its.set j u).toArray n }:=by
 simp [Obj.mapSeq]
theorem Inv.lst {pins:List (Addr×Obj)} {σ:St} {H:Hp} {s:Shared} {p:Addr} {xs:List V} (I:Inv X pins σ H s) (h:H p=some (.lst xs)) :
  ∃ (its:List Value) (n:Nat),Vals xs its∧s.heap.get? p=some { cls:=.type "list",data:=.seq its.toArray n }∧xs.length≤sizeLine:=by
 obtain ⟨z,its,n,r,e⟩:=I.hok p _ h
 exact ⟨its,n,r,e,z⟩
theorem Inv.lstUpd {pins:List (Addr×Obj)} {σ:St} {H:Hp} {s:Shared} {p:Addr} {xs ys:List V} {its its':List Value} {n n':Nat} {f:Obj→Obj} (I:Inv X pins σ H s) (h:H p=some (.lst xs))
  (ho:s.heap.get? p=some { cls:=.type "list",data:=.seq its.toArray n }) (hf:f { cls:=.type "list",data:=.seq its.toArray n } = { cls:=.type "list",data:=.seq its'.toArray n' }) (r:Vals ys its') (hz:ys.length≤sizeLine) (t:Nat) :
  Inv X pins σ (upd H p (.lst ys)) { s with heap:=s.heap.update p f,toks:=t }:=by
 have e:(s.heap.update p f).get? p=some { cls:=.type "list",data:=.seq its'.toArray n' }:=by
  rw [Heap.get?_update_self f ho (by rw [hf] <;> rfl),hf]
 refine I.write (x:=p) (e:=p) (by rw [h]; trivial) (.inl rfl) (fun b u hb q=>(Γf _ _ (Ne.symm hb)).trans q) ⟨_,e⟩ ?_
 exact ⟨hz,its',n',r,e⟩
def d4w:V→V→V→Hp→(Hp→Prop)→Prop:=fun o i v H Q=>∃ p xs k j,o=.ref p∧i=.int k∧H p=some (.lst xs)∧ixN xs.length k=some j∧Q (upd H p (.lst (xs.set j v)))
theorem c0g:PSet X d4w:=by
 intro pins s σ H o i v ov iv u Q I ro ri rv h
 obtain ⟨p,xs,k,j,rfl,rfl,hp,hj,q⟩:=h
 cases ro
 obtain ⟨t,rfl⟩:=ri
 obtain ⟨its,n,r,ho,hz⟩:=I.lst hp
 obtain ⟨h1,h2,h3,h4⟩:=b7q hj
 have hl:=r.length
 have hn:=a9x
 have I':Inv X pins σ (upd H p (.lst (xs.set j v))) { s with heap:=s.heap.update p (Obj.mapSeq (·.setIfInBounds j u)) } :=
  I.lstUpd hp ho (b4l its n j u) (r.set rv j) (by rw [List.length_set]; exact hz) s.toks
 by_cases h0:0≤k
 ·have hk:k.toNat=j:=by
   rw [seqIndex_of h0 h4] at h1
   exact Option.some.inj h1
  exact PySem.W.ki_setAt ho h0 (by lia) (by rw [List.size_toArray,← hl]; exact h4) (by rw [hk]; exact ⟨_,I',q⟩)
 ·have hk:(k + (its.toArray.size:Int)).toNat=j:=by
   rw [seqIndex_neg (by lia) h3] at h1
   rw [List.size_toArray,← hl]
   exact Option.some.inj h1
  exact PySem.W.ki_setBack ho (by lia) (by rw [List.size_toArray,← hl]; exact h3) (by lia) (by rw [hk]; exact ⟨_,I',q⟩)
theorem a9j (lo hi:Option Int) (n:Nat):(sliceBounds lo hi none n).1=((HT.sIx n 0 lo:Nat):Int)∧(sliceBounds lo hi none n).2.1=((HT.sIx n n hi:Nat):Int)∧(sliceBounds lo hi none n).2.2=1:=by
 refine ⟨?_,?_,rfl⟩
 ·cases lo with
  | none=>simp [sliceBounds,HT.sIx]
  | some i =>
   simp only [sliceBounds,HT.sIx,Option.getD_none,show (1:Int) > 0 by decide,if_true]
   by_cases h:i < 0
   ·simp only [h,if_true] <;> lia
   ·simp only [h,if_false] <;> lia
 ·cases hi with
  | none=>simp [sliceBounds,HT.sIx]
  | some i =>
   simp only [sliceBounds,HT.sIx,Option.getD_none,show (1:Int) > 0 by decide,if_true]
   by_cases h:i < 0
   ·simp only [h,if_true] <;> lia
   ·simp only [h,if_false] <;> lia
theorem a7r (its:List Value) (lo hi:Option Int):slicePick its.toArray lo hi none=((its.drop (HT.sIx its.length 0 lo)).take (HT.sIx its.length its.length hi - HT.sIx its.length 0 lo)).toArray:=by
 obtain ⟨h1,h2,h3⟩:=a9j lo hi its.toArray.size
 unfold slicePick
 rw [h1,h2,h3]
 simp only [sliceRange_one,pick_run,List.size_toArray] <;> rfl
def rSlL (K:Γd):V→Option Int→Option Int→Hp→VK→Prop:=fun x lo hi H Q=>∃ a xs,x=.ref a∧SqL K H a xs∧∀ p,H p=none→Q (.ref p) (upd H p (.lst (c3v xs lo hi)))
theorem c4j:SlR X (rSlL X.K):=by
 intro pins s σ H x v vl vu lo hi sl Q I rx hs pl pu h
 obtain ⟨a,xs,rfl,hx,q⟩:=h
 cases rx
 obtain ⟨its,r,ht,hz⟩:=I.list hx
 have hlen:=r.length
 refine ⟨"list",_,slot_list_getitem.lookup,ht.isList.typeIs,?_⟩
 refine wpAny_getItem_list_slice ht.isList hs pl pu .none (by simp) ?_ (by rw [List.size_toArray] <;> lia)
 rw [a7r,← hlen]
 refine ⟨.ref s.heap.objs.size,_,I.laid (t':=s.toks) (o:=.lst (c3v xs lo hi)) (fun b ob q=>Γc _ q) (Γi _) ?_,rfl,q _ (I.hok.fresh (Γi _))⟩
 exact ⟨Nat.le_trans (a6b xs lo hi) hz,_,0,(r.drop (HT.sIx xs.length 0 lo)).take (HT.sIx xs.length xs.length hi - HT.sIx xs.length 0 lo),Γm _ rfl⟩
theorem b0p:a1b X (.builtin "len") (fun xs H Q=>∃ p ys,xs=[.ref p]∧(SqL X.K H p ys ∨ SqT X.K H p ys)∧Q (.int ys.length) H):=by
 intro pins s σ H xs us Q I r h
 obtain ⟨p,ys,rfl,hq,q⟩:=h
 obtain ⟨u,rfl,rx⟩:=a3k r
 cases rx
 have hn:=a9x
 rcases hq with hq | hq
 ·obtain ⟨its,r',pl,hz⟩:=I.list hq
  have hlen:=r'.length
  exact Calls.call_len_list pl.isList (by simp only [List.size_toArray] <;> lia) ⟨.int ys.length,H,I.tok _,⟨s.toks + 1,by rw [List.size_toArray,hlen]⟩,q⟩
 ·obtain ⟨its,r',pl,hz⟩:=I.tuple hq
  have hlen:=r'.length
  exact len_tuple pl (by simp only [List.size_toArray] <;> lia) ⟨.int ys.length,H,I.tok _,⟨s.toks + 1,by rw [List.size_toArray,hlen]⟩,q⟩
theorem b0o:a1b X (.type "list") (fun xs H Q=>∃ p ys,xs=[.ref p]∧(SqL X.K H p ys ∨ SqT X.K H p ys)∧∀ l,H l=none→Q (.ref l) (upd H l (.lst ys))):=by
 intro pins s σ H xs us Q I r h
 obtain ⟨p,ys,rfl,hq,q⟩:=h
 obtain ⟨u,rfl,rx⟩:=a3k r
 cases rx
 have fin:∀ (its:List Value),Vals ys its→ys.length≤sizeLine→∀ (h':Heap) (c':Nat),(∀ b o',s.heap.get? b=some o'→h'.get? b=some o') →
   h'.get? s.heap.objs.size=some { cls:=.type "list",dict:=none,data:=.seq its.toArray c',slots:=#[] }→EP X pins σ Q (.ref s.heap.objs.size) { s with heap:=h' }:=fun its r' hz h' c' kp e =>
  ⟨.ref s.heap.objs.size,_,I.laid (t':=s.toks) kp (Γi _) (show ObjOk X.prog X.w _ h' _ (.lst ys) from ⟨hz,its,c',r',e⟩),rfl,q _ (I.hok.fresh (Γi _))⟩
 rcases hq with hq | hq
 ·obtain ⟨its,r',pl,hz⟩:=I.list hq
  have hlen:=r'.length
  obtain ⟨o,ho,hc,n,hd⟩:=pl.isList
  exact call_list_seq p (.inl rfl) ho hc hd (fun h' c' kp e=>fin its r' hz h' c' kp e) (by simp only [List.size_toArray] <;> lia)
 ·obtain ⟨its,r',pl,hz⟩:=I.tuple hq
  have hlen:=r'.length
  obtain ⟨o,ho,hc,n,hd⟩:=pl
  exact call_list_seq p (.inr rfl) ho hc hd (fun h' c' kp e=>fin its r' hz h' c' kp e) (by simp only [List.size_toArray] <;> lia)
theorem a2p:a1b X (.type "tuple") (fun xs H Q=>∃ p ys,xs=[.ref p]∧((SqL X.K H p ys∧∀ l,H l=none→Q (.ref l) (upd H l (.tup ys))) ∨ (SqT X.K H p ys∧Q (.ref p) H))):=by
 intro pins s σ H xs us Q I r h
 obtain ⟨p,ys,rfl,h⟩:=h
 obtain ⟨u,rfl,rx⟩:=a3k r
 cases rx
 rcases h with ⟨hq,q⟩ | ⟨hq,q⟩
 ·obtain ⟨its,r',pl,hz⟩:=I.list hq
  have hlen:=r'.length
  refine call_tuple_list pl.isList (fun h' kp=>?_) (by simp only [List.size_toArray] <;> lia)
  have I1:Inv X pins σ H { s with heap:=h' }:=I.kept (t':=s.toks) kp
  have I2:Inv X pins σ (upd H h'.objs.size (.tup ys)) { s with heap:=h'.push { cls:=.type "tuple",data:=.seq its.toArray } } :=
   I1.laid (t':=s.toks) (fun b o e=>Γc _ e) (Γi _) (show ObjOk X.prog X.w _ _ _ (.tup ys) from ⟨hz,its,r',IsTup.new _ _⟩)
  exact ⟨.ref h'.objs.size,_,I2,rfl,q _ (I1.hok.fresh (Γi _))⟩
 ·obtain ⟨its,r',pl,hz⟩:=I.tuple hq
  exact call_tuple_same pl ⟨.ref p,H,I,rfl,q⟩
def tyV (K:Γd) (T:String) (x:V) (H:Hp):Prop:=match x with
 | .str _=>T = "str"
 | .int _=>T = "int"
 | .ref p=>(T = "list"∧∃ xs,SqL K H p xs) ∨ (T = "tuple"∧∃ o,K.lookup p=some o∧o.cls=.type "tuple"∧o.dict=none) ∨
   (T = "dict"∧((∃ kvs,H p=some (.dK kvs)) ∨ ∃ kvs,H p=some (.dT kvs))) ∨ (T = "set"∧∃ S n,H p=some (.set S n))
 | _=>False
theorem c2p {pins:List (Addr×Obj)} {σ:St} {H:Hp} {s:Shared} {T:String} {x:V} {v:Value} (I:Inv X pins σ H s) (r:RelV x v) (ty:tyV X.K T x H) :
  s.TypeIs v T∧∀ a,v=.ref a→∃ ob,s.heap.get? a=some ob∧ob.dict=none:=by
 cases x with
 | str z =>
  obtain ⟨t,rfl⟩:=r
  cases (show T = "str" from ty)
  exact ⟨typeIs_str s z t,fun _ e=>nomatch e⟩
 | int i =>
  obtain ⟨t,rfl⟩:=r
  cases (show T = "int" from ty)
  exact ⟨typeIs_int s i t,fun _ e=>nomatch e⟩
 | ref p =>
  cases r
  rcases ty with ⟨rfl,xs,hq⟩ | ⟨rfl,o,hk,hc,hd⟩ | ⟨rfl,hk⟩ | ⟨rfl,S,n,hk⟩
  ·obtain ⟨its,_,pl,_⟩:=I.list hq
   refine ⟨pl.isList.typeIs,fun a e=>?_⟩
   cases e
   obtain ⟨o,n,e,c,hd,_⟩:=pl
   exact ⟨o,e,hd⟩
  ·refine ⟨⟨o,I.kIn p o hk,hc⟩,fun a e=>?_⟩
   cases e
   exact ⟨o,I.kIn _ o hk,hd⟩
  ·have z:∃ o,s.heap.get? p=some o∧o.ExactDict:=by
    rcases hk with ⟨kvs,hk⟩ | ⟨kvs,hk⟩
    ·obtain ⟨_,_,_,_,o,_,_,e,ex,_⟩:=I.hok p _ hk
     exact ⟨o,e,ex⟩
    ·obtain ⟨_,_,_,_,o,_,_,e,ex,_⟩:=I.hok p _ hk
     exact ⟨o,e,ex⟩
   obtain ⟨o,e,ex⟩:=z
   refine ⟨⟨o,e,ex.1⟩,fun a e2=>?_⟩
   cases e2
   exact ⟨o,e,ex.2.1⟩
  ·obtain ⟨o,_,_,_,e,ex,_⟩:=I.hok p _ hk
   refine ⟨⟨o,e,ex.1⟩,fun a e2=>?_⟩
   cases e2
   exact ⟨o,e,ex.2.1⟩
 | _=>exact False.elim ty
def tBM0 (K:Γd) (T:String) (r:V→List V→Hp→VK→Prop) (to:TE):TE:=fun σ H Q=>to σ H fun x H1=>tyV K T x H1∧r x [] H1 Q
def tBM (K:Γd) (T:String) (r:V→List V→Hp→VK→Prop) (to:TE) (t:TA):TE:=fun σ H Q=>to σ H fun x H1=>tyV K T x H1∧t σ H1 fun xs H2=>r x xs H2 Q
variable {o e:Expr} {es:List Expr} {to:TE} {t:TA} {name:Str} {apos cpos:Pos} {T id:String} {r:V→List V→Hp→VK→Prop}
theorem c9f (pa:PlainAttrs T) (slot:Slot T name id) (hty:typeOf (.builtin id)=pure (.type "method_descriptor")) (hm:MtR X id r) (ho:PE X o to)
  (hbase:attributeBase o name X.env (eval o X.env)=eval o X.env:=by rfl) (hline:(apos.endLine == cpos.line)=true:=by rfl):PE X (.Call (.Attribute o name apos) [] [] cpos) (tBM0 X.K T r to):=by
 intro pins s σ H Q I h
 refine wpAny_Call_method0_late hbase hline (thn (ho pins s σ H _ I h) fun v s1 ⟨x,H1,I1,r1,ty,q1⟩=>?_)
 obtain ⟨h1,h2⟩:=c2p I1 r1 ty
 exact ⟨T,id,pa,slot,hty,h1,h2,Calls.callWith_builtin rfl (PySem.evalArgs_none (hm pins s1 σ H1 x [] v [] Q I1 r1 .nil q1))⟩
theorem d5l (pa:PlainAttrs T) (slot:Slot T name id) (hty:typeOf (.builtin id)=pure (.type "method_descriptor")) (hm:MtR X id r) (ho:PE X o to) (ha:PA X (e :: es) t)
  (hbase:attributeBase o name X.env (eval o X.env)=eval o X.env:=by rfl)
  (hfew:((backTo cpos (starEach (e :: es) X.env)).all (fun x=>!x.1) && (backToKw cpos (keywordEach [] X.env)).all (fun x=>x.1.isSome)
   && decide ((e :: es).length + ([]:List Keyword).length + (if ([]:List Keyword).isEmpty then 0 else 1) < 30))=true:=by rfl)
  (hline:(apos.endLine == cpos.line)=true:=by rfl) (hs:starEach (e :: es) X.env=(false,eval e X.env) :: starEach es X.env:=by rfl) (hplain:(backTo cpos (starEach es X.env)).any (·.1)=false:=by rfl) :
  PE X (.Call (.Attribute o name apos) (e :: es) [] cpos) (tBM X.K T r to t):=by
 intro pins s σ H Q I h
 refine wpAny_Call_method_late hbase hfew hline rfl (thn (ho pins s σ H _ I h) fun v s1 ⟨x,H1,I1,r1,ty,q1⟩=>?_)
 obtain ⟨h1,h2⟩:=c2p I1 r1 ty
 refine ⟨T,id,pa,slot,hty,h1,h2,?_⟩
 have hA:=ha cpos pins s1 σ H1 _ I1 q1
 rw [hs] at hA ⊢
 refine Calls.callWith_builtin (by show (false || (backTo cpos (starEach es X.env)).any (·.1))=false; rw [hplain] <;> rfl) (Calls.evalArgs_plain ?_)
 exact thn hA fun us s2 ⟨vs,H2,I2,r2,q2⟩=>hm pins s2 σ H2 x vs v us Q I2 r1 r2 q2
/- xs.append(e),list.index on a module's tuple .. are MtR facts of 06m -/
end
end L2
namespace L2
open PySem PySem.Spec PyProof.Rows
def MtM (X:Cx) (id:String) (r:V→List V→Hp→VK→Prop):Prop :=
 ∀ (pins:List (Addr×Obj)) (s:Shared) (σ:St) (H:Hp) (x:V) (xs:List V) (v:Value) (us:List Value) (Q:VK),Inv X pins σ H s→RelV x v→Vals xs us→r x xs H Q →
  wpAny (model X.prog X.w) X.A (call (.builtin id) (v :: us)) (EP X pins σ Q) X.xe s
theorem Vals.one:∀ {x:V} {us:List Value},Vals [x] us→∃ u,us=[u]∧RelV x u
 | _,_,.cons r .nil=>⟨_,rfl,r⟩
theorem Vals.zero:∀ {us:List Value},Vals [] us→us=[]
 | _,.nil=>rfl
theorem Vals.dropLast {xs:List V} {us:List Value} (h:Vals xs us):Vals xs.dropLast us.dropLast:=by
 induction h with
 | nil=>exact .nil
 | cons r t ih =>
  cases t with
  | nil=>exact .nil
  | cons q t'=>exact .cons r ih
theorem Vals.eraseIdx:∀ {xs:List V} {us:List Value} (i:Nat),Vals xs us→Vals (xs.eraseIdx i) (us.eraseIdx i)
 | _,_,_,.nil=>.nil
 | _,_,0,.cons _ t=>t
 | _,_,i + 1,.cons r t=>.cons r (Vals.eraseIdx i t)
theorem Vals.reverse {xs:List V} {us:List Value} (h:Vals xs us):Vals xs.reverse us.reverse:=by
 induction h with
 | nil=>exact .nil
 | cons r t ih=>rw [List.reverse_cons,List.reverse_cons]; exact Vals.append ih (.cons r .nil)
theorem Vals.rep {xs:List V} {us:List Value} (h:Vals xs us):∀ k:Nat,Vals (Γj k xs).flatten (Γj k us).flatten
 | 0=>.nil
 | k + 1=>by
  rw [List.replicate_succ,List.replicate_succ,List.flatten_cons,List.flatten_cons]
  exact Vals.append h (Vals.rep h k)
theorem b0e (its:List Value):∀ (k:Nat) (acc:List Value),
  List.foldl (fun x1 x2=>x1++x2) acc.toArray (Γj k its.toArray)=(acc++(Γj k its).flatten).toArray
 | 0,acc=>by simp
 | k + 1,acc=>by
  have e:acc.toArray++its.toArray=(acc++its).toArray:=by simp
  have e2:(acc++its)++(Γj k its).flatten=acc++(Γj (k + 1) its).flatten:=by
   rw [List.replicate_succ,List.flatten_cons,List.append_assoc]
  rw [← e2,← b0e its k (acc++its),← e,List.replicate_succ,List.foldl_cons]
section
variable {X:Cx} {pins:List (Addr×Obj)} {σ:St} {H:Hp} {s:Shared} {l b:Addr} {xs ys zs:List V}
theorem Inv.lset {its its':List Value} {n:Nat} {f:Array Value→Array Value} {t':Nat} (I:Inv X pins σ H s) (hH:H l=some (.lst xs))
  (e:s.heap.get? l=some { cls:=.type "list",data:=.seq its.toArray n }) (hf:f its.toArray=its'.toArray) (hv:Vals ys its') (hz:ys.length≤sizeLine) :
  Inv X pins σ (upd H l (.lst ys)) { s with heap:=s.heap.update l (Obj.mapSeq f),toks:=t' }:=by
 have q:=PySem.IsL.update e f
 rw [hf] at q
 refine I.write (x:=l) (e:=l) (by rw [hH]; exact trivial) (.inl rfl) (fun b' u hb hu=>(Γf s.heap (Obj.mapSeq f) (Ne.symm hb)).trans hu) ⟨_,q⟩ ?_
 exact ⟨hz,its',_,hv,q⟩
theorem Inv.lnew {its:List Value} {t':Nat} (I:Inv X pins σ H s) (hv:Vals ys its) (hz:ys.length≤sizeLine) :
  Inv X pins σ (upd H s.heap.objs.size (.lst ys)) { s with heap:=s.heap.push { cls:=.type "list",data:=.seq its.toArray },toks:=t' } :=
 I.laid (fun _ _ q=>Γc _ q) (Γi _) ⟨hz,its,0,hv,Γm _ rfl⟩
theorem Inv.fresh (I:Inv X pins σ H s):H s.heap.objs.size=none:=I.hok.fresh (Γi _)
theorem Inv.lstM (I:Inv X pins σ H s) (hH:H l=some (.lst xs)):xs.length≤sizeLine∧∃ (its:List Value) (n:Nat),Vals xs its∧xs.length=its.length∧s.heap.get? l=some { cls:=.type "list",data:=.seq its.toArray n }:=by
 obtain ⟨z,its,n,r,e⟩:=I.hok l _ hH
 exact ⟨z,its,n,r,r.length,e⟩
theorem c1a {n:Nat} (h:n≤sizeLine):Builtin.List.listTooLong n=false:=by
 unfold Builtin.List.listTooLong
 exact decide_eq_false (by lia)
end
section
variable {X:Cx}
def c4o:V→List V→Hp→VK→Prop:=fun x vs H Q=>∃ l xs y,x=.ref l∧vs=[y]∧H l=some (.lst xs)∧xs.length < sizeLine∧Q .non (upd H l (.lst (xs++[y])))
theorem a9s:MtM X "list.append" c4o:=by
 intro pins s σ H x vs v us Q I rx rv h
 obtain ⟨l,xs,y,rfl,rfl,hH,hz,q⟩:=h
 cases rx
 obtain ⟨u,rfl,ru⟩:=rv.one
 obtain ⟨z,its,n,r,hl,e⟩:=I.lstM hH
 refine call_meets F.slot_list_append ⟨_,e,rfl⟩ F.entry_list_append (F.args_list_append_2 _ _) (PySem.list_append l its.toArray n u (by rw [List.size_toArray]; lia)) ⟨e,?_⟩
 refine ⟨.non,_,I.lset (its':=its++[u]) hH e (by simp) (r.append (.cons ru .nil)) ?_,rfl,q⟩
 rw [List.length_append,List.length_singleton]
 lia
def c0k:V→List V→Hp→VK→Prop:=fun x vs H Q=>∃ l xs,x=.ref l∧vs=[]∧H l=some (.lst xs)∧Q .non (upd H l (.lst xs.reverse))
theorem b4g:MtM X "list.reverse" c0k:=by
 intro pins s σ H x vs v us Q I rx rv h
 obtain ⟨l,xs,rfl,rfl,hH,q⟩:=h
 cases rx
 have hus:=rv.zero
 subst hus
 obtain ⟨z,its,n,r,hl,e⟩:=I.lstM hH
 refine call_meets F.slot_list_reverse ⟨_,e,rfl⟩ F.entry_list_reverse (F.args_list_reverse_1 _) (AutoSeq1.list_reverse_list_0 l its.toArray n (by rw [List.size_toArray]; lia)) ⟨e,?_⟩
 refine ⟨.non,_,I.lset (its':=its.reverse) hH e (by simp) r.reverse ?_,rfl,q⟩
 rw [List.length_reverse]
 lia
def rCat:R2:=fun x y H Q=>∃ l b xs zs,x=.ref l∧y=.ref b∧H l=some (.lst xs)∧H b=some (.lst zs)∧xs.length + zs.length≤sizeLine∧∀ p,H p=none→Q (.ref p) (upd H p (.lst (xs++zs)))
theorem c9p:OpR X (binaryOp .Add) rCat:=by
 intro pins s σ H x y v u Q I rx ry h
 obtain ⟨l,b,xs,zs,rfl,rfl,hH,hB,hz,q⟩:=h
 cases rx
 cases ry
 obtain ⟨z,its,n,r,hl,e⟩:=I.lstM hH
 obtain ⟨z2,its2,n2,r2,hl2,e2⟩:=I.lstM hB
 refine PySem.P.add_list e e2 ?_ (by rw [List.size_toArray,List.size_toArray]; lia)
 have ea:its.toArray++its2.toArray=(its++its2).toArray:=by simp
 rw [ea]
 exact ⟨.ref _,_,I.lnew (t':=s.toks) (r.append r2) (by rw [List.length_append]; lia),rfl,q _ I.fresh⟩
def rRep:R2:=fun x y H Q=>∃ l k xs,x=.ref l∧y=.int k∧H l=some (.lst xs)∧-(2 ^ 63)≤k∧k < 2 ^ 63∧xs.length * k.toNat≤sizeLine ∧
 ∀ p,H p=none→Q (.ref p) (upd H p (.lst (Γj k.toNat xs).flatten))
theorem c5o {α:Type} (xs:List α) (k:Nat):(Γj k xs).flatten.length=k * xs.length:=by
 induction k with
 | zero=>simp
 | succ k ih=>rw [List.replicate_succ,List.flatten_cons,List.length_append,ih,Nat.succ_mul,Nat.add_comm]
theorem c9j:OpR X (binaryOp .Mult) rRep:=by
 intro pins s σ H x y v u Q I rx ry h
 obtain ⟨l,k,xs,rfl,rfl,hH,h1,h2,hz,q⟩:=h
 cases rx
 obtain ⟨t,rfl⟩:=ry
 obtain ⟨z,its,n,r,hl,e⟩:=I.lstM hH
 have hlen:its.toArray.size * k.toNat≤sizeLine:=by rw [List.size_toArray,← hl]; exact hz
 have hcap:¬ its.toArray.size * k.toNat > (2 ^ 63 - 1) / 8:=by
  have:(sizeLine:Nat)≤(2 ^ 63 - 1) / 8:=by decide
  lia
 have hfit:¬ (!Builtin.List.listFitsIndex k)=true:=by
  rw [fitsIndex_both h1 h2]
  exact Γk
 have hlong:¬ Builtin.List.listTooLong (its.toArray.size * k.toNat)=true:=by
  rw [c1a hlen]
  exact Γk
 have hnew:List.foldl (fun x1 x2=>x1++x2) #[] (Γj (if its.toArray.isEmpty=true then 0 else k.toNat) its.toArray)=(Γj k.toNat its).flatten.toArray:=by
  have f0:∀ m:Nat,List.foldl (fun x1 x2=>x1++x2) #[] (Γj m its.toArray)=(Γj m its).flatten.toArray:=fun m=>by
   have:=b0e its m []
   rw [List.nil_append] at this
   exact this
  rw [f0]
  cases its with
  | nil=>simp
  | cons a r'=>rw [if_neg (by simp)]
 refine wpAny_binaryOp_repeat_ref (T:="list") (U:="int") (by decide) ⟨_,e,rfl⟩ (fun s'=>typeIs_int s' k t) noFill_list_mul F.fills_int_mul F.slot_int_rmul repeat_list F.slot_int_index.lookup
  (call_meets F.slot_int_rmul (typeIs_int s k t) F.entry_int_rmul (F.args_int_rmul_2 _ _) (int___rmul___int_list k t l its.toArray n)
   ⟨e,rfl,⟨_,e,rfl⟩,call_meets F.slot_list_mul ⟨_,e,rfl⟩ F.entry_list_mul (F.args_list_mul_2 _ _) (AutoListH.list___mul___list_int_3 l its.toArray n k t hfit hcap hlong) ⟨e,?_⟩⟩)
 rw [hnew]
 exact ⟨.ref _,_,I.lnew (t':=s.toks) (r.rep k.toNat) (by rw [c5o,Nat.mul_comm]; exact hz),rfl,q _ I.fresh⟩
end
section
variable {prog:Program} {w:World} {A:Around} {E:Value→Shared→Prop} {s:Shared}
set_option maxRecDepth 100000 in
end
section
variable {X:Cx}
end
end L2
namespace Att
open PySem PySem.W PySem.Calls PyProof.Rows
theorem a5s {P:Params} {h:Heap}:∀ (ns:List Int) (vs:List Value),WellAll P h vs (ns.map WData.int)→IntsAre vs ns:=by
 intro ns
 induction ns with
 | nil =>
  intro vs w
  rw [List.map_nil] at w
  cases w
  exact .nil
 | cons n ns ih =>
  intro vs w
  rw [List.map_cons] at w
  cases w with
  | cons a b =>
   cases a
   exact .cons _ _ (ih _ b)
theorem b5z {l:OpenLaw} {n:Nat} (hn:l.most=some n) {P:Params} {h:Heap} {args:List WData} {vals:List Value}
  (hpre:l.row.toRowW.claim.pre args=true) (hwl:WellAll P h vals args) :
  ∃ a vs ns,vals=[Value.ref a]∧args=[WData.list (ns.map WData.int)]∧h.get? a=some { cls:=.type "list",data:=.seq vs.toArray }∧IntsAre vs ns∧ns.length≤n:=by
 have hsh:WShape.hasAll [] args [.list .int]=true:=(pre_splitW hpre).1
 have hc:l.pre.holds [] { args:=args } = true:=(pre_splitW hpre).2
 obtain ⟨d,r,rfl,h1,h2⟩:=hasAllW_cons hsh
 obtain rfl:=hasAllW_nil h2
 obtain ⟨xs,rfl,h3⟩:=hasW_list h1
 obtain ⟨ns,rfl⟩:=items_int h3
 have hlen:ns.length≤n:=by
  unfold OpenLaw.pre at hc
  have h4:(WTm.not (.lt (.lit (.int (n:Int))) (.len (.arg 0)))).holds [] { args:=[.list (ns.map .int)] } = true:=by
   have h4:=(holds_andW hc).1
   rw [hn] at h4
   exact h4
  have h5:=condW_of h4 (w_not (w_lt w_lit (w_len_list (w_arg rfl))))
  rw [List.length_map] at h5
  refine Nat.le_of_not_lt fun q=>?_
  have q':(n:Int) < ((ns.length:Nat):Int):=by lia
  first
   | (rw [decide_eq_true q'] at h5; exact absurd h5 (by decide))
   | (simp at h5; lia)
 cases hwl with
 | cons w1 w2 =>
  cases w2
  cases w1 with
  | list ho hall=>exact ⟨_,_,ns,rfl,rfl,ho,a5s ns _ hall,hlen⟩
theorem b6k (l:OpenLaw) (args:List WData):l.row.toRowW.claim.post args (.bool true) args=true :=
 postW_of (r:=l.row.toRowW) (X:=(true == true))
  (show WShape.has [] (.bool true) .bool=true by first | rfl | decide | simp [WShape.has,WShape.arms,WShape.armsAll])
  (show (WTm.eq .res (.lit (.bool true))).value [] { args:=args,res:=some (.bool true),after:=args } = some (.bool (true == true)) from w_eq_bool (w_res rfl) w_lit) rfl
theorem attach_call {l:OpenLaw} {n:Nat} {q:Program} {loose:List Str} {XP:(Str→Option Value)→Heap→Prop} {YP:World→Heap→Prop} {d:DefRec}
  (hn:l.most=some n) (hdf:d.params.defaults=[])
  (call:∀ (w:World) (s₀ s₁:Shared) (mg mb:Str→Option Value) (fa:Addr) (o:Obj) (pm cd doc:Value) (a:Addr) (vs:List Value) (ns:List Int),
   Ground q loose [] XP w s₀ mg mb s₁.heap→YP w s₁.heap →
   s₁.heap.get? fa=some o→o.data=.func (docDef d.name d.params d.body d.scope pm cd doc)→s₁.heap.CodeRec cd d.name→mg d.name=some (.ref fa) →
   s₁.heap.get? a=some { cls:=.type "list",data:=.seq vs.toArray }→IntsAre vs ns→ns.length≤n→s₁.gens = #[] →
   codeAny (model l.prog w) callerA (.call (.ref fa) ⟨[.ref a],[]⟩) (fun r s'=>r=.ok (.ret (.bool true))∧OldK s₁.heap s'.heap∧s'.os=s₁.os∧AllBare s'.gens) s₁) :
  WalkO q loose XP YP l.row.toRowW d [] (fun f vs=>PySem.call f vs):=by
 intro w s₀ s₁ mg mb G Y fa o pm cd doc dV kV ho hd hcd hD hmg hg args vals as hpre hlay hrd hwl hlo
 obtain rfl:dV=.none:=Dflts.none hD hdf
 obtain rfl:kV=.none:=Dflts.noKw hD
 obtain ⟨a,vs,ns,rfl,rfl,hobj,hints,hlen⟩:=b5z hn hpre hwl
 refine enter_call (codeAny_mono (call w s₀ s₁ mg mb fa o pm cd doc a vs ns G Y ho (fd_plain hd) hcd hmg hobj hints hlen hg) fun r s' hq=>?_)
 obtain ⟨rfl,h2,h3,h4⟩:=hq
 exact ⟨.inl ⟨.bool true,.bool true,[],rfl,fun _=>rfl,.bool true,b6k l _,fun _=>⟨List.Pairwise.nil,fun _ hm=>(nomatch hm)⟩⟩,h2,h3,h4⟩
section
variable {prog:Program} {w:World} {A:Around} {E:Value→Shared→Prop} {s:Shared} {K:Frag}
theorem d8u {R:Result→Shared→Prop} {name qual:Str} {params:Arguments} {body:List Stmt} {scope:Scope} {dV kV doc pm cdv ct oc:Value} {an od:Option Addr} {osl:Array (Option Value)} {f:Addr} {args:Args} {binds:List (Str×Value)}
  (X:K.In s.heap) (hlim:s.heap.NoLimit) (ho:K.lookup f=some ⟨oc,od,.func (fnOf name qual params body scope dV kV doc pm an cdv ct),osl⟩) (hcd:codeIn K cdv qual=true) (hroom:A.depth < recursionLimit)
  (hbind:BindsTo s (fnOf name qual params body scope dV kV doc pm an cdv ct) args binds)
  (hkind:(binds.all fun y=>scope.names.lookup y.1 == some .local || scope.names.lookup y.1 == some .cell)=true)
  (h:∀ s₁,InCallC s s.heap.objs.size (bindL (envOfC qual scope s.heap.objs.size f cdv).kindOf binds fun _=>none) (cellsFrom (s.heap.objs.size + 1) scope.names [])
    (bindC (envOfC qual scope s.heap.objs.size f cdv).kindOf binds fun _=>none) s₁ →
   wpAny (model prog w) (A.deeper (envOfC qual scope s.heap.objs.size f cdv)) (execs body (envOfC qual scope s.heap.objs.size f cdv))
    (fun fl s'=>R (.ok (.ret (match fl with | .ret v=>v | _=>.none))) s')
    (fun e s'=>wpAny (model prog w) (A.deeper (envOfC qual scope s.heap.objs.size f cdv)) (leaving (envOfC qual scope s.heap.objs.size f cdv) e) (fun _ s''=>R (.error e) s'') (fun e' s''=>R (.error e') s'') s') s₁)
  (hco:scope.isCoroutine=false) (hgen:scope.isGenerator=false) (hk:scope.kind=.function):codeAny (model prog w) A (.call (.ref f) args) R s:=by
 refine codeAny_call_function hroom (X _ _ ho) rfl hco hgen rfl (codeRec_of X hcd) (hbind _ _ _ _ ?_)
 refine wpAny_newFunctionEnv_cells hk (kindsX hkind _) fun env he s₁ x=>?_
 subst he
 exact ⟨hlim.keeps x.toInCall.keep,codeAny_func (h s₁ x)⟩
def ledger (h:Heap) (L d:Addr):List (Addr×Obj):=(List.range h.objs.size).filterMap fun a=>if a=L ∨ a=d then none else (h.get? a).map fun o=>(a,o)
end
end Att
namespace L2
open PySem PySem.Spec PyProof.Rows
theorem a9d:∀ {vs:List Value} {ns:List Int},IntsAre vs ns→Vals (ns.map V.int) vs
 | _,_,.nil=>.nil
 | _,_,.cons n t h=>.cons ⟨t,rfl⟩ (a9d h)
def d2j (H:Hp):Prop:=∀ b,H b=none ∨ ∃ o xs,H b=some (.frz o (.lst xs))
theorem b3c {P:Program} {w:World} {K:Γd} {mg mb:Str→Option Value} {CX:CXT} {k:Nat} {fa a:Addr} {fd:FuncData} {x:Str} {sp:Sp} {s₁:Shared} {vs:List Value} {ns:List Int}
  (KX:K.In s₁.heap) (hns:s₁.heap.Ns mainGlobals mg) (hb:s₁.heap.Ns builtinsNs mb) (hbb:∀ x:Str,x≠"__name__"→mb x=bootBuiltins x) (hlim:s₁.heap.NoLimit) (hg:s₁.gens = #[])
  (ha:s₁.heap.get? a=some { cls:=.type "list",data:=.seq vs.toArray }) (hi:IntsAre vs ns) (hl:ns.length≤sizeLine) (hr:Room k callerA)
  (F:∀ base:Heap,K.In base→base.Ns mainGlobals mg→FnOk P w K mg base CX k fa fd [x] sp) (hbind:∀ (s:Shared) (u:Value),BindsTo s fd ⟨[u],[]⟩ [(x,u)])
  (hsp:∀ H:Hp,d2j H→SqL K H a (ns.map V.int)→sp [.ref a] H (fun v _=>v=.bl true) fun _ _ _=>False)
  (hCX:∀ H e s',CX [] H s₁ (fun _ _ _=>False) e s'→False) :
  codeAny (model P w) callerA (.call (.ref fa) ⟨[.ref a],[]⟩) (fun r s'=>r=.ok (.ret (.bool true))∧OldK s₁.heap s'.heap∧s'.os=s₁.os∧AllBare s'.gens) s₁:=by
 have rv:=a9d hi
 have lenV:=hi.length
 -- from an abstract heap in which nothing but the script may be tracked
 have core:∀ H:Hp,d2j H→SqL K H a (ns.map V.int)→HOk P w H s₁.heap→(∀ b,H b≠none→b=a)→(H a≠none→K.lookup a=none) →
   codeAny (model P w) callerA (.call (.ref fa) ⟨[.ref a],[]⟩) (fun r s'=>r=.ok (.ret (.bool true))∧OldK s₁.heap s'.heap∧s'.os=s₁.os∧AllBare s'.gens) s₁:=by
  intro H hO hS hok hA hK
  have base_of:∀ {b:Addr} {o:Obj},s₁.heap.get? b=some o→H b=none→(c1q s₁.heap H).get? b=some o:=fun e n=>c1p e n
  have noA:∀ {b:Addr} {o:Obj} {es:Array DictEntry} {ep:Nat},s₁.heap.get? b=some o→o.data=.dict es ep→H b=none:=fun {b o es ep} e d=>by
   cases q:H b with
   | none=>rfl
   | some u =>
    have e':b=a:=hA b (by rw [q]; simp)
    subst e'
    rw [ha] at e; cases e
    have d':Data.seq vs.toArray _=Data.dict es ep:=d
    cases d'
  have nsK:∀ {b:Addr} {m:Str→Option Value},s₁.heap.Ns b m→(c1q s₁.heap H).Ns b m:=fun {b m} ⟨o,es,ep,e,d,r⟩=>⟨o,es,ep,base_of e (noA e d),d,r⟩
  have hKb:K.In (c1q s₁.heap H):=fun b o e=>base_of (KX b o e) (by
   cases q:H b with
   | none=>rfl
   | some u =>
    have e':b=a:=hA b (by rw [q]; simp)
    subst e'
    rw [hK (by rw [q]; simp)] at e; cases e)
  have hM:Mod K mg (c1q s₁.heap H):=⟨hKb,nsK hns,⟨mb,nsK hb,hbb⟩,let ⟨mc,h1,h2⟩:=hlim; ⟨mc,nsK h1,h2⟩⟩
  have e0:Env0 P w K mg (c1q s₁.heap H) callerA [] s₁ H:=⟨rfl,hM,fun b o e=>c5m e,Nat.le_of_eq (b7y _ _),trivial,fun b hb=>absurd (show b∈([]:List Addr) from hb) (by simp),hok,.of_eq hg⟩
  refine codeAny_mono ((F _ hKb (nsK hns)).run callerA [] s₁ H ⟨[.ref a],[]⟩ [.ref a] [.ref a] _ _ hr e0 (hbind s₁ (.ref a)) (.cons rfl .nil) (hsp H hO hS)) fun r s' h=>?_
  cases r with
  | error e=>exact (hCX H e s' h).elim
  | ok fl =>
   cases fl with
   | next=>exact False.elim h
   | brk=>exact False.elim h
   | cont=>exact False.elim h
   | ret u =>
    obtain ⟨v,H',os,bare,un,hok',r',q⟩:=h
    have q':v=.bl true:=q
    subst q'
    obtain rfl:u=Value.bool true:=r'
    refine ⟨rfl,OldK.of_keep fun b o e=>?_,os,bare⟩
    cases q:H b with
    | none=>exact un.keep b o e q (by intro z; exact absurd (show b∈([]:List Addr) from z) (by simp)) (by simp)
    | some u =>
     rcases hO b with z | ⟨ob,xs,z⟩
     ·rw [q] at z; cases z
     ·have z2:=un.frzs b ob _ z
      obtain ⟨e1,_⟩:=hok b _ z
      obtain ⟨e2,_⟩:=hok' b _ z2
      rw [e] at e1; cases e1
      exact e2
 cases hk:K.lookup a with
 | some o =>
  -- the script is one of the module's own objects
  have e:=KX a o hk
  rw [ha] at e
  cases e
  refine core (fun _=>none) (fun _=>.inl rfl) (.inr ⟨_,vs.toArray,_,hk,rfl,rfl,rfl,by rw [List.size_toArray,lenV]; exact hl,by simpa using rv⟩) (fun b u z=>by have z':(none:Option HO)=some u:=z; cases z') (fun b z=>absurd rfl z) fun z=>absurd rfl z
 | none =>
  refine core (fun b=>if b=a then some (.frz { cls:=.type "list",data:=.seq vs.toArray } (.lst (ns.map V.int))) else none) (fun b=>?_) (.inl (.inr ⟨{ cls:=.type "list",data:=.seq vs.toArray },if_pos rfl⟩)) (fun b u z=>?_) (fun b z=>?_) fun _=>hk
  ·by_cases hb:b=a
   ·exact .inr ⟨_,_,if_pos hb⟩
   ·exact .inl (if_neg hb)
  ·by_cases hb:b=a
   ·have z':=(if_pos hb).symm.trans z
    cases z'
    subst hb
    exact ⟨ha,by rw [List.length_map]; exact hl,vs,_,rv,ha⟩
   ·have z':=(if_neg hb).symm.trans z
    cases z'
  ·by_cases hb:b=a
   ·exact hb
   ·exact absurd (if_neg hb) z
end L2
namespace L2
open PySem PySem.Spec PyProof.Rows
abbrev KOf {K:Γd} {h:Heap} (_:K.In h):Γd:=K
theorem walk_of {l:PySem.W.OpenLaw} {n k:Nat} {q:Program} {loose:List Str} {XP:(Str→Option Value)→Heap→Prop} {YP:World→Heap→Prop} {d:DefRec} {K:Params→Γd} {CX:World→CXT} {sp:World→Sp} {x:Str}
  (hn:l.most=some n) (hn2:n≤sizeLine) (hdf:d.params.defaults=[]) (hr:Room k callerA)
  (hY:∀ (w:World) (h:Heap),YP w h→(K w.params).In h)
  (F:∀ (w:World) (mg:Str→Option Value) (fa:Addr) (h:Heap),(K w.params).In h→h.Ns mainGlobals mg→mg d.name=some (.ref fa) →
   ∃ fd:FuncData,(∀ (s:Shared) (u:Value),BindsTo s fd ⟨[u],[]⟩ [(x,u)]) ∧
    ∀ base:Heap,(K w.params).In base→base.Ns mainGlobals mg→FnOk l.prog w (K w.params) mg base (CX w) k fa fd [x] (sp w))
  (hsp:∀ (w:World) (H:Hp) (a:Addr) (ns:List Int),ns.length≤n→d2j H→SqL (K w.params) H a (ns.map V.int)→sp w [.ref a] H (fun v _=>v=.bl true) fun _ _ _=>False)
  (hCX:∀ (w:World) (H:Hp) (s:Shared) (e:Value) (s':Shared),CX w [] H s (fun _ _ _=>False) e s'→False) :
  PySem.W.WalkO q loose XP YP l.row.toRowW d [] (fun f vs=>PySem.call f vs):=by
 refine Att.attach_call hn hdf fun w s₀ s₁ mg mb fa o pm cd doc a vs ns G Y ho hd hcd hmg hobj hints hlen hg=>?_
 have KX:=hY w _ Y
 obtain ⟨fd,hb,hF⟩:=F w mg fa _ KX G.T.g hmg
 exact b3c KX G.T.g G.T.b G.T.builtins G.T.nolimit hg hobj hints (Nat.le_trans hlen hn2) hr hF hb (fun H hO hS=>hsp w H a ns hlen hO hS) fun H e s'=>hCX w H s₁ e s'
end L2
/- THE LAST THEOREM (shape; LID, My.* are yours):
   My.Adr: a structure of the addresses that your layer names (classes, functions); My.Txt K t: a structure (Prop) of the equations over K;
   My.txt_mk : {K} {implicit addresses ..} (e1 : nsIn K mainGlobals "law" = some (some (.ref f))) (e2 : K.lookup f = some ⟨oc, od, .func (fnOf "law" "law" params body scope dV kV doc pm an cdv ct), sl⟩) (e3 : codeIn K cdv "law" = true) .. : ∃ t, My.Txt K t
set_option maxRecDepth 100000 in
set_option maxHeartbeats 0 in
theorem PySem.Challenge.cw_LID_holds:PySem.Challenge.rw_LID.Holds:=by
 w_on; o_law; k_head; (case hw=>w_witness2)
 k_fill
 refine L2.walk_of (l:=PySem.Challenge.rw_LID) (n:=63) (k:=40) (x:="script") (CX:=fun w=>..) (sp:=fun _=>My.sp_law) rfl (by decide) rfl ⟨rfl,by decide,by decide⟩ (fun w h Y=>PySem.W.kIn_of Y) ?F ?S ?C
 case F =>
  intro w mg fa h KX G hmg
  have T:∃ t,My.Txt (L2.KOf KX) t:=by
   dsimp only [L2.KOf]                          -- K must stand as «<heap const> w.params» for k_is
   refine' My.txt_mk ?e1 ?e2 ?e3 ..
   (case e1=>PySem.W.k_is)                    -- in the order: a name -> its address -> its object -> its parts
   (case e2=>PySem.W.k_is)
   ..
  obtain ⟨t,T⟩:=T
  have e0:=hmg.symm.trans (PySem.W.mg_of KX G T.law)
  cases e0                                       -- fa is the law's own address
  exact ⟨_,fun s u=>.of_eq rfl,fun base kb nb=>My.law_fn T kb nb⟩     -- if «.of_eq rfl» comes too early: refine' ⟨_,?b,fun base kb nb=>My.law_fn T kb nb⟩; exact fun s u=>.of_eq rfl
 case S=>exact fun w H a ns hl hO hS=>..
 case C=>exact ..
(the tactic k_is has no namespace: write k_is) -/
namespace L2
open PySem PySem.Spec PyProof.Rows
def a5c (s:Stmt):Arguments:=match s with
 | .FunctionDef _ a _ _ _ _ _ _ _ _=>a
 | _=>{ posonlyargs:=[],args:=[],vararg:=none,kwonlyargs:=[],kw_defaults:=[],kwarg:=none,defaults:=[] }
def a1w (s:Stmt):List Stmt:=match s with
 | .FunctionDef _ _ b _ _ _ _ _ _ _=>b
 | _=>[]
def a0l (s:Stmt):Scope:=match s with
 | .FunctionDef _ _ _ _ _ _ sc _ _ _=>sc
 | _=>{ kind:=.function,names:=[],isGenerator:=false,isCoroutine:=false }
abbrev CX0:CXT:=fun _ _ _ _ _ _=>False
abbrev E0:XK:=fun _ _ _=>False
theorem d5n {X:Cx}:b9t CX0 X E0:=fun _ _ _ _ _ _ _ h=>h.elim
structure Fun (K:Γd) (x qual:Str) (st:Stmt) (f:Addr) (fd:FuncData):Prop where
 ex:∃ (oc:Value) (od:Option Addr) (kV doc pm:Value) (an:Option Addr) (cdv ct:Value) (osl:Array (Option Value)),
  fd=PySem.W.fnOf x qual (a5c st) (a1w st) (a0l st) .none kV doc pm an cdv ct∧K.lookup f=some ⟨oc,od,.func fd,osl⟩∧PySem.W.codeIn K cdv qual=true
 kp:PySem.W.keepIn K (.ref f)=true
section
variable {P:Program} {w:World} {K:Γd} {mg:Str→Option Value} {base:Heap}
theorem Fun.ok {x qual:Str} {st:Stmt} {f:Addr} {fd:FuncData} {N ps:List Str} {k:Nat} {sp:Sp} (F:Fun K x qual st f fd) (S:FnScope N ps (a0l st)) (len:∀ vs H Q E,sp vs H Q E→vs.length=ps.length)
  (hbody:∀ (cdv:Value) (A:Around) (outer:List Env) (s:Shared) (H:Hp) (vs:List V) (Q:VK) (E:XK),Room k (A.deeper (envOfC qual (a0l st) s.heap.objs.size f cdv))→sp vs H Q E →
   ∃ t,PSs (c6r CX0 P w K mg base N qual (a0l st) f cdv A outer s H E).nox (a1w st) t∧t { nx:=fun _ H'=>Q .non H',rt:=Q } (start N vs) H):FnOk P w K mg base CX0 (k + 1) f fd ps sp:=by
 obtain ⟨oc,od,kV,doc,pm,an,cdv,ct,osl,rfl,lk,hcd⟩:=F.ex
 refine d7a lk hcd S len fun A outer s H vs Q E hr hsp=>?_
 obtain ⟨t,h,q⟩:=hbody cdv A outer s H vs Q E hr hsp
 exact ⟨t,h.nox,q⟩
theorem Fun.binds {x qual:Str} {st:Stmt} {f:Addr} {fd:FuncData} {ps:List Str} (F:Fun K x qual st f fd)
  (h:∀ (kV doc pm:Value) (an:Option Addr) (cdv ct:Value) (us:List Value),us.length=ps.length→bindArgs (PySem.W.fnOf x qual (a5c st) (a1w st) (a0l st) .none kV doc pm an cdv ct) ⟨us,[]⟩=pure (ps.zip us)):Binds K fd ps []:=by
 obtain ⟨oc,od,kV,doc,pm,an,cdv,ct,osl,rfl,lk,hcd⟩:=F.ex
 exact .all (h kV doc pm an cdv ct)
theorem d0u {x qual:Str} {st:Stmt} {f:Addr} {oc:Value} {od an:Option Addr} {osl:Array (Option Value)} {kV doc pm cdv ct:Value} (l:K.lookup f=some ⟨oc,od,.func (PySem.W.fnOf x qual (a5c st) (a1w st) (a0l st) .none kV doc pm an cdv ct),osl⟩)
  (c:PySem.W.codeIn K cdv qual=true) (k:PySem.W.keepIn K (.ref f)=true):Fun K x qual st f (PySem.W.fnOf x qual (a5c st) (a1w st) (a0l st) .none kV doc pm an cdv ct):=⟨⟨oc,od,kV,doc,pm,an,cdv,ct,osl,rfl,l,c⟩,k⟩
end
section
variable {X:Cx}
end
theorem ite2 {c A B:Prop} [Decidable c] (h1:c→A) (h2:¬ c→B):if c then A else B:=by
 by_cases h:c
 ·rw [if_pos h]
  exact h1 h
 ·rw [if_neg h]
  exact h2 h
def Same (H H':Hp):Prop:=∀ b o,H b=some o→H' b=some o
theorem Same.refl (H:Hp):Same H H:=fun _ _ h=>h
theorem Same.trans {H H1 H2:Hp} (a:Same H H1) (b:Same H1 H2):Same H H2:=fun c o h=>b c o (a c o h)
theorem Same.free {H H':Hp} (e:Same H H') {l:Addr} (h:H' l=Option.none):H l=Option.none:=by
 cases q:H l with
 | none=>rfl
 | some o =>
  rw [e l o q] at h
  cases h
end L2
end
section
namespace L2
open PySem PySem.Spec PyProof.Rows
section
variable {κ:Type} [DecidableEq κ]
def b0v (kvs:List (κ×V)) (k:κ):Option V:=(kvs.find? fun kv=>decide (kv.1=k)).map (·.2)
def a6t (kvs:List (κ×V)) (k:κ) (v:V):List (κ×V) :=
 if (kvs.any fun kv=>decide (kv.1=k))=true then kvs.map (fun kv=>if kv.1=k then (kv.1,v) else kv) else kvs++[(k,v)]
def d1n (kvs:List (κ×V)) (k:κ):List (κ×V):=kvs.filter fun kv=>decide (kv.1≠k)
theorem a4a {p:κ×V} {r:List (κ×V)} {k:κ} (e:p.1=k):b0v (p :: r) k=some p.2:=by simp [b0v,List.find?_cons,e]
theorem a4b {p:κ×V} {r:List (κ×V)} {k:κ} (e:¬ p.1=k):b0v (p :: r) k=b0v r k:=by simp [b0v,List.find?_cons,e]
theorem a5g (k:κ):∀ kvs:List (κ×V),(kvs.any fun kv=>decide (kv.1=k))=(b0v kvs k).isSome
 | []=>rfl
 | p :: r=>by
  rw [List.any_cons]
  by_cases e:p.1=k
  ·simp only [a4a e,decide_eq_true e,Bool.true_or,Option.isSome_some]
  ·rw [a4b e,decide_eq_false e,Bool.false_or]; exact a5g k r
theorem a3t (kvs:List (κ×V)) (k:κ) (v:V):(a6t kvs k v).length≤kvs.length + 1:=by
 unfold a6t
 split
 ·rw [List.length_map]; lia
 ·rw [List.length_append,List.length_cons,List.length_nil]; lia
theorem RelO.isSome_eq {o:Option V} {u:Option Value} (r:RelO o u):o.isSome=u.isSome:=by
 cases o with
 | none=>cases u with
  | none=>rfl
  | some _=>exact (show False from r).elim
 | some _=>cases u with
  | none=>exact (show False from r).elim
  | some _=>rfl
theorem RelO.getD {o:Option V} {u:Option Value} {d:V} {d':Value} (r:RelO o u) (rd:RelV d d'):RelV (o.getD d) (u.getD d'):=by
 cases o with
 | none=>cases u with
  | none=>exact rd
  | some _=>exact (show False from r).elim
 | some _=>cases u with
  | none=>exact (show False from r).elim
  | some _=>exact r
theorem KV.val {kvs:List (κ×V)} {vs:List (κ×Value)} (r:KV kvs vs) (k:κ):RelO (b0v kvs k) (valueAt vs k):=by
 unfold KV at r
 induction r with
 | nil=>exact True.intro
 | @cons p q ps qs h t ih =>
  obtain ⟨h1,h2⟩:=h
  by_cases e:p.1=k
  ·have e':q.1=k:=h1.symm.trans e
   have b:valueAt (q :: qs) k=some q.2:=by simp [valueAt,List.find?_cons,e']
   rw [a4a e,b]; exact h2
  ·have e':¬ q.1=k:=fun z=>e (h1.trans z)
   have b:valueAt (q :: qs) k=valueAt qs k:=by simp [valueAt,List.find?_cons,e']
   rw [a4b e,b]; exact ih
theorem KV.any {kvs:List (κ×V)} {vs:List (κ×Value)} (r:KV kvs vs) (k:κ):(kvs.any fun kv=>decide (kv.1=k))=vs.any fun kv=>decide (kv.1=k):=by
 unfold KV at r
 induction r with
 | nil=>rfl
 | cons h t ih=>rw [List.any_cons,List.any_cons,ih,h.1]
theorem KV.repl {kvs:List (κ×V)} {vs:List (κ×Value)} (r:KV kvs vs) (k:κ) {y:V} {u:Value} (ry:RelV y u) :
  KV (kvs.map fun kv=>if kv.1=k then (kv.1,y) else kv) (vs.map fun kv=>if kv.1=k then (kv.1,u) else kv):=by
 unfold KV at r ⊢
 induction r with
 | nil=>exact .nil
 | @cons p q ps qs h t ih =>
  rw [List.map_cons,List.map_cons]
  refine .cons ?_ ih
  obtain ⟨h1,h2⟩:=h
  by_cases e:p.1=k
  ·rw [if_pos e,if_pos (h1.symm.trans e)]; exact ⟨h1,ry⟩
  ·rw [if_neg e,if_neg (fun z=>e (h1.trans z))]; exact ⟨h1,h2⟩
theorem KV.put {kvs:List (κ×V)} {vs:List (κ×Value)} (r:KV kvs vs) (k:κ) {y:V} {u:Value} (ry:RelV y u):KV (a6t kvs k y) (stored vs k u):=by
 unfold a6t stored
 rw [r.any k]
 by_cases e:(vs.any fun kv=>decide (kv.1=k))=true
 ·rw [if_pos e,if_pos e]; exact r.repl k ry
 ·rw [if_neg e,if_neg e]; exact Paired.snoc r ⟨rfl,ry⟩
theorem KV.drop {kvs:List (κ×V)} {vs:List (κ×Value)} (r:KV kvs vs) (k:κ):KV (d1n kvs k) (without vs k):=by
 unfold KV at r ⊢
 unfold d1n without
 induction r with
 | nil=>exact .nil
 | @cons p q ps qs h t ih =>
  obtain ⟨h1,h2⟩:=h
  rw [List.filter_cons,List.filter_cons]
  by_cases e:p.1=k
  ·have a:¬ decide (p.1≠k)=true:=by simp [e]
   have b:¬ decide (q.1≠k)=true:=by simp [h1.symm.trans e]
   rw [if_neg a,if_neg b]; exact ih
  ·have e':¬ q.1=k:=fun z=>e (h1.trans z)
   have a:decide (p.1≠k)=true:=by simp [e]
   have b:decide (q.1≠k)=true:=by simp [e']
   rw [if_pos a,if_pos b]; exact .cons ⟨h1,h2⟩ ih
theorem KV.length {kvs:List (κ×V)} {vs:List (κ×Value)} (r:KV kvs vs):kvs.length=vs.length:=Paired.length r
end
theorem b4q {P:Program} {w:World} {k:Key} {u:Value} (r:RelV (kV k) u):(a0r P w).is k u=true:=by
 cases k with
 | inl i=>obtain ⟨t,e⟩:=(show ∃ t,u=Value.int i t from r); subst e; exact b1l P w i t
 | inr x=>obtain ⟨t,e⟩:=(show ∃ t,u=Value.str x t from r); subst e; exact b1k P w x t
theorem b0c {P:Program} {w:World}:∀ {ks:List Key} {us:List Value},Vals (ks.map kV) us→ItemsAre (a0r P w) ks us
 | [],_,r=>by rw [List.map_nil] at r; cases r; exact .nil
 | k :: ks,_,r=>by
  rw [List.map_cons] at r
  cases r with
  | cons h t=>exact .cons (b4q h) (b0c t)
abbrev KT (H:Hp):List (List Key×V)→List (List Key×Addr×Value)→Prop:=Paired fun p q=>p.1=q.1∧H q.2.1=some (.tup (p.1.map kV))∧RelV p.2 q.2.2
theorem KT.val {H:Hp} {kvs:List (List Key×V)} {xs:List (List Key×Addr×Value)} (r:KT H kvs xs) (k:List Key):RelO (b0v kvs k) ((atKey xs k).map (·.2)):=by
 induction r with
 | nil=>exact True.intro
 | @cons p q ps qs h t ih =>
  obtain ⟨h1,_,h2⟩:=h
  by_cases e:p.1=k
  ·have e':q.1=k:=h1.symm.trans e
   have b:atKey (q :: qs) k=some q.2:=by simp [atKey,List.find?_cons,e']
   rw [a4a e,b]; exact h2
  ·have e':¬ q.1=k:=fun z=>e (h1.trans z)
   have b:atKey (q :: qs) k=atKey qs k:=by simp [atKey,List.find?_cons,e']
   rw [a4b e,b]; exact ih
theorem KT.repl {H:Hp} {kvs:List (List Key×V)} {xs:List (List Key×Addr×Value)} (r:KT H kvs xs) (k:List Key) {y:V} {u:Value} (ry:RelV y u) :
  KT H (kvs.map fun kv=>if kv.1=k then (kv.1,y) else kv) (xs.map (putAt k u)):=by
 induction r with
 | nil=>exact .nil
 | @cons p q ps qs h t ih =>
  rw [List.map_cons,List.map_cons]
  refine .cons ?_ ih
  obtain ⟨h1,h2,h3⟩:=h
  unfold putAt
  by_cases e:p.1=k
  ·rw [if_pos e,if_pos (h1.symm.trans e)]; exact ⟨h1,h2,ry⟩
  ·rw [if_neg e,if_neg (fun z=>e (h1.trans z))]; exact ⟨h1,h2,h3⟩
theorem KT.put {H:Hp} {kvs:List (List Key×V)} {xs:List (List Key×Addr×Value)} (r:KT H kvs xs) (k:List Key) {b:Addr} {y:V} {u:Value} (hb:H b=some (.tup (k.map kV))) (ry:RelV y u) :
  KT H (a6t kvs k y) (storedH xs k b u):=by
 have e:(kvs.any fun kv=>decide (kv.1=k))=(atKey xs k).isSome:=by
  rw [a5g,(r.val k).isSome_eq,Option.isSome_map]
 unfold a6t storedH
 rw [e]
 by_cases q:(atKey xs k).isSome=true
 ·rw [if_pos q,if_pos q]; exact r.repl k ry
 ·rw [if_neg q,if_neg q]; exact Paired.snoc r ⟨rfl,hb,ry⟩
theorem KT.keeps {H H':Hp} {kvs:List (List Key×V)} {xs:List (List Key×Addr×Value)} (r:KT H kvs xs) (ht:∀ b ys,H b=some (.tup ys)→H' b=some (.tup ys)):KT H' kvs xs :=
 Paired.mapP r fun _ _ z=>⟨z.1,ht _ _ z.2.1,z.2.2⟩
section
variable {P:Program} {w:World} {H:Hp} {h:Heap} {a:Addr}
theorem c8g {u:HO} (ok:HOk P w H h) (e:Rd H a u):ObjOk P w H h a u:=e.ok ok
theorem b4x {kvs:List (Key×V)} (ok:HOk P w H h) (e:Rd H a (.dK kvs)):kvs.length≤sizeLine∧(a == sysModules)=false∧∃ vs,KV kvs vs∧h.DictOf (a0r P w) a vs :=
 show ObjOk P w H h a (.dK kvs) from c8g ok e
theorem d1q {kvs:List (Key×V)} (ok:HOk P w H h) (e:H a=some (.dK kvs)):kvs.length≤sizeLine∧(a == sysModules)=false∧∃ vs,KV kvs vs∧h.DictOf (a0r P w) a vs:=b4x ok (.inl e)
theorem b0b {ks:List Key} (ok:HOk P w H h) (e:H a=some (.tup (ks.map kV))):(tupleKind (a0r P w)).is h ks a:=by
 obtain ⟨_,its,r,o,h1,h2,n,h3⟩:=(show ObjOk P w H h a (.tup (ks.map kV)) from ok a _ e)
 exact ⟨o,its.toArray,n,h1,h2,h3,by simpa using b0c r⟩
theorem b4v {kvs:List (List Key×V)} (ok:HOk P w H h) (e:Rd H a (.dT kvs)):kvs.length≤sizeLine∧(a == sysModules)=false ∧
  ∃ xs,KT H kvs xs∧h.DictOfH (tupleKind (a0r P w)) a xs:=by
 obtain ⟨z,y,xs,r,o,es,ep,h1,h2,h3,h4,h5⟩:=(show ObjOk P w H h a (.dT kvs) from c8g ok e)
 refine ⟨z,y,xs,r,o,es,ep,h1,h2,h3,h4,fun x hx=>?_,h5⟩
 have all:∀ {l:List (List Key×V)} {m:List (List Key×Addr×Value)},KT H l m→∀ x∈m,(tupleKind (a0r P w)).is h x.1 x.2.1:=by
  intro l m q
  induction q with
  | nil=>intro x hx; exact nomatch hx
  | @cons p q ps qs hq t ih =>
   intro x hx
   rcases List.mem_cons.mp hx with e | hx
   ·subst e
    exact b0b ok (by rw [← hq.1]; exact hq.2.1)
   ·exact ih x hx
 exact all r x hx
theorem d8s {kvs:List (List Key×V)} (ok:HOk P w H h) (e:H a=some (.dT kvs)):kvs.length≤sizeLine∧(a == sysModules)=false ∧
  ∃ xs,KT H kvs xs∧h.DictOfH (tupleKind (a0r P w)) a xs:=b4v ok (.inl e)
end
def DGet (H:Hp) (a:Addr) (y:V) (r:Option V):Prop :=
 (∃ kvs k,Rd H a (.dK kvs)∧y=kV k∧r=b0v kvs k) ∨ ∃ kvs k b,Rd H a (.dT kvs)∧y=.ref b∧H b=some (.tup (k.map kV))∧r=b0v kvs k
def DPut (H:Hp) (a:Addr) (y v:V) (H':Hp):Prop :=
 (∃ kvs k,H a=some (.dK kvs)∧y=kV k∧kvs.length < sizeLine∧H'=upd H a (.dK (a6t kvs k v))) ∨
 ∃ kvs k b,H a=some (.dT kvs)∧y=.ref b∧H b=some (.tup (k.map kV))∧kvs.length < sizeLine∧H'=upd H a (.dT (a6t kvs k v))
theorem DGet.k {H:Hp} {a:Addr} {kvs:List (Key×V)} {k:Key} (e:H a=some (.dK kvs)):DGet H a (kV k) (b0v kvs k):=.inl ⟨kvs,k,.inl e,rfl,rfl⟩
theorem DGet.t {H:Hp} {a b:Addr} {kvs:List (List Key×V)} {k:List Key} (e:H a=some (.dT kvs)) (eb:H b=some (.tup (k.map kV))):DGet H a (.ref b) (b0v kvs k):=.inr ⟨kvs,k,b,.inl e,rfl,eb,rfl⟩
theorem DPut.k {H:Hp} {a:Addr} {kvs:List (Key×V)} {k:Key} {v:V} (e:H a=some (.dK kvs)) (hl:kvs.length < sizeLine):DPut H a (kV k) v (upd H a (.dK (a6t kvs k v))):=.inl ⟨kvs,k,e,rfl,hl,rfl⟩
theorem DPut.t {H:Hp} {a b:Addr} {kvs:List (List Key×V)} {k:List Key} {v:V} (e:H a=some (.dT kvs)) (eb:H b=some (.tup (k.map kV))) (hl:kvs.length < sizeLine) :
  DPut H a (.ref b) v (upd H a (.dT (a6t kvs k v))):=.inr ⟨kvs,k,b,e,rfl,eb,hl,rfl⟩
section
variable {X:Cx} {pins:List (Addr×Obj)} {σ:St} {H:Hp} {s:Shared} {a:Addr} {y v:V} {u r:Value} {o:Option V} {A:Around} {E:Value→Shared→Prop}
theorem Inv.big (I:Inv X pins σ H s):sysModules < s.heap.objs.size:=by
 have h:mainGlobals < s.heap.objs.size:=(I.mod.glob.keeps I.bk).lt
 exact Nat.lt_trans (by decide) h
theorem b8x {Q:Value→Shared→Prop} (hu:A.units + 1 < cLine) (I:Inv X pins σ H s) (g:DGet H a y (some v)) (ry:RelV y u) (h:∀ w' s',Inv X pins σ H s'→RelV v w'→Q w' s') :
  wpAny (model X.prog X.w) A (getItem (.ref a) u) Q E s:=by
 rcases g with ⟨kvs,k,e,ey,l⟩ | ⟨kvs,k,b,e,ey,eb,l⟩
 ·subst ey
  obtain ⟨z,hd,vs,rel,dd⟩:=b4x I.hok e
  obtain ⟨w',hw,rw'⟩:=RelO.some_of (v:=v) (o:=valueAt vs k) (by rw [l]; exact rel.val k)
  exact wpAny_getItem_of (b4q ry) dd.mapOf hw (h w' _ (I.tok _) rw')
 ·subst ey
  cases (show u=Value.ref b from ry)
  obtain ⟨z,hd,xs,rel,dd⟩:=b4v I.hok e
  obtain ⟨w',hw,rw'⟩:=RelO.some_of (v:=v) (o:=(atKey xs k).map (·.2)) (by rw [l]; exact rel.val k)
  obtain ⟨p,hp,hp2⟩:=Option.map_eq_some_iff.mp hw
  refine wpAny_getItem_heap (tupleKind_room_in1 hu) (b0b I.hok eb) dd hp ?_
  rw [hp2]
  exact h w' _ (I.tok _) rw'
theorem d_in {Q:Value→Shared→Prop} (hu:A.units + 1 < cLine) (I:Inv X pins σ H s) (g:DGet H a y o) (ry:RelV y u) (h:∀ s',Inv X pins σ H s'→Q (.bool o.isSome) s') :
  wpAny (model X.prog X.w) A (compareOp .In u (.ref a)) Q E s:=by
 rcases g with ⟨kvs,k,e,ey,l⟩ | ⟨kvs,k,b,e,ey,eb,l⟩
 ·subst ey
  obtain ⟨z,hd,vs,rel,dd⟩:=b4x I.hok e
  refine wpAny_in_of (b4q ry) hd dd.mapOf ?_
  rw [← (rel.val k).isSome_eq,← l]
  exact h _ (I.tok _)
 ·subst ey
  cases (show u=Value.ref b from ry)
  obtain ⟨z,hd,xs,rel,dd⟩:=b4v I.hok e
  refine wpAny_in_heap (tupleKind_room_in1 hu) (b0b I.hok eb) hd dd ?_
  have q:=(rel.val k).isSome_eq
  rw [Option.isSome_map] at q
  rw [← q,← l]
  exact h _ (I.tok _)
theorem b1x {h':Heap} {t':Nat} {ob:HO} (I:Inv X pins σ H s) (mu:Mut (H a)) (hs:Heap.SameBut a s.heap h') (he:∃ q,h'.get? a=some q) (new:ObjOk X.prog X.w (upd H a ob) h' a ob) :
  Inv X pins σ (upd H a ob) { s with heap:=h',toks:=t' } :=
 I.write (x:=a) (e:=a) mu (.inl rfl) (fun b q hb z=>(hs.2 b hb).trans z) he new
theorem c3s {P:Program} {w:World} {H':Hp} {h':Heap} {kvs:List (Key×V)} {vs:List (Key×Value)} (z:kvs.length≤sizeLine) (hd:(a == sysModules)=false) (rel:KV kvs vs) (dd:h'.DictOf (a0r P w) a vs) :
  ObjOk P w H' h' a (.dK kvs):=⟨z,hd,vs,rel,dd⟩
theorem b8w {H':Hp} {Q:Unit→Shared→Prop} (hu:A.units + 1 < cLine) (I:Inv X pins σ H s) (g:DPut H a y v H') (ry:RelV y u) (rv:RelV v r) (h:∀ s',Inv X pins σ H' s'→Q () s') :
  wpAny (model X.prog X.w) A (setItem (.ref a) u r) Q E s:=by
 rcases g with ⟨kvs,k,e,ey,l,eH⟩ | ⟨kvs,k,b,e,ey,eb,l,eH⟩
 ·subst ey eH
  obtain ⟨z,hd,vs,rel,dd⟩:=d1q I.hok e
  have hz:vs.length≤sizeLine:=by rw [← rel.length]; exact z
  have hl:(a6t kvs k v).length≤sizeLine:=by have:=a3t kvs k v; lia
  refine wpAny_setItem_pairs (hsz:=hz) (b4q ry) dd fun h' dd' hs=>h _ ?_
  have he:∃ q,h'.get? a=some q:=let ⟨q,_,_,hq,_⟩:=dd'; ⟨q,hq⟩
  exact b1x I (by rw [e]; exact True.intro) hs he (c3s hl hd (rel.put k rv) dd')
 ·subst ey eH
  cases (show u=Value.ref b from ry)
  obtain ⟨z,hd,xs,rel,dd⟩:=d8s I.hok e
  have hz:xs.length≤sizeLine:=by rw [← Paired.length rel]; exact z
  have hl:(a6t kvs k v).length≤sizeLine:=by have:=a3t kvs k v; lia
  refine wpAny_setItem_heap (hsz:=hz) (tupleKind_room_in1 hu) (b0b I.hok eb) dd fun h' dd' hs=>h _ ?_
  obtain ⟨q,es,ep,hq,h2,h3,h4,_,h5⟩:=dd'
  refine b1x I (by rw [e]; exact True.intro) hs ⟨q,hq⟩ ⟨hl,hd,_,(rel.put k eb rv).keeps fun c ys ec=>?_,q,es,ep,hq,h2,h3,h4,h5⟩
  rw [a0f (d6a ec e (fun z=>nomatch z))]
  exact ec
end
section
variable {X:Cx} {pins:List (Addr×Obj)} {σ:St} {H:Hp} {s:Shared} {a:Addr} {kvs:List (Key×V)} {k:Key} {u:Value} {A:Around} {E:Value→Shared→Prop}
end
def NoSl (i:Expr):Prop:=∀ ov iv,subscripted i false ov iv=operate [ov,iv] (getItem ov iv)
theorem c4g {prog:Program} {w:World} {A:Around} {E:Value→Shared→Prop} {s:Shared} {env:Env} {value slice:Expr} {pos:Pos} {T id:String} {Q:Value→Shared→Prop}
  (hl:typeLookup (.type T) "__getitem__" = pure (some (.builtin id))) (hs:NoSl slice)
  (h:wpAny (model prog w) A (eval value env) (fun o s₁=>wpAny (model prog w) A (eval slice env) (fun i s₂=>s₂.TypeIs o T∧wpAny (model prog w) A (getItem o i) Q E s₂) E s₁) E s) :
  wpAny (model prog w) A (eval (.Subscript value slice pos) env) Q E s:=by
 refine Subscript_ (wpAny_mono h (fun o s₁ h₁=>wpAny_mono h₁ (fun i s₂ h₂=>?_) fun _ _ x=>x) fun _ _ x=>x)
 obtain ⟨hT,h₂⟩:=h₂
 unfold subscriptTail
 refine Γa ?_
 rw [getitemInPython_of_ne hT.not_modules]
 refine Γa (wpAny_specialOf hT hl ?_)
 have fin:wpAny (model prog w) A (subscripted slice false o i) (fun r s₃=>wpAny (model prog w) A (letTemporaryGo value o r >>= fun _=>pure r) Q E s₃) E s₂:=by
  rw [hs o i]
  exact wpAny_operating (wpAny_mono h₂ (fun r s₃ h₃=>Γa (wpAny_letTemporaryGo (Γb h₃))) fun _ _ x=>x)
 first
  | exact Γb (Γa fin)
  | exact Γa (Γb (Γa fin))
  | exact Γa fin
theorem b1v {X:Cx} {pins:List (Addr×Obj)} {σ:St} {H:Hp} {s:Shared} {a:Addr} {y:V} {o:Option V} (I:Inv X pins σ H s) (g:DGet H a y o):s.TypeIs (.ref a) "dict":=by
 rcases g with ⟨kvs,k,e,_,_⟩ | ⟨kvs,k,b,e,_,_,_⟩
 ·obtain ⟨_,_,vs,_,dd⟩:=b4x I.hok e
  exact dd.typeIs
 ·obtain ⟨_,_,xs,_,dd⟩:=b4v I.hok e
  exact dd.typeIs
def d4g (td ty:TE):TE:=fun σ H Q=>td σ H fun x H1=>ty σ H1 fun y H2=>∃ a v,x=.ref a∧DGet H2 a y (some v)∧Q v H2
def d4s (td ty tv:TE):TS:=fun D σ H=>tv σ H fun v H1=>td σ H1 fun x H2=>ty σ H2 fun y H3=>∃ a H4,x=.ref a∧DPut H3 a y v H4∧D.nx σ H4
section
variable {X:Cx} {o i e value:Expr} {pos pos' tpos:Pos} {td ty tv:TE}
theorem c5e (hu:X.A.units + 1 < cLine) (ho:PE X o td) (hi:PE X i ty) (hs:NoSl i):PE X (.Subscript o i pos) (d4g td ty):=by
 intro pins s σ H Q I h
 refine c4g PySem.F.slot_dict_getitem.lookup hs (thn (ho pins s σ H _ I h) fun u s1 ⟨x,H1,I1,rx,q1⟩=>thn (hi pins s1 σ H1 _ I1 q1) fun iv s2 ⟨y,H2,I2,ry,a,v,ex,g,q2⟩=>?_)
 subst ex
 obtain rfl:u=Value.ref a:=rx
 exact ⟨b1v I2 g,b8x hu I2 g ry fun w' s3 I3 rw'=>⟨v,H2,I3,rw',q2⟩⟩
theorem c4v (hu:X.A.units + 1 < cLine) (ho:PE X o td) (hi:PE X i ty) (hv:PE X value tv) (hs:swapsWith value (some (.Subscript o i pos')) pos.line X.env=pure false) :
  PS X (.Assign [.Subscript o i pos'] value pos) (d4s td ty tv):=by
 intro pins s σ H D I h
 refine wpAny_Assign_Subscript (thn (hv pins s σ H _ I h) fun r s1 ⟨v,H1,I1,rv,q1⟩=>thn (ho pins s1 σ H1 _ I1 q1) fun u s2 ⟨x,H2,I2,rx,q2⟩=>thn (hi pins s2 σ H2 _ I2 q2) fun iv s3 ⟨y,H3,I3,ry,a,H4,ex,g,q3⟩=>?_) hs
 subst ex
 obtain rfl:u=Value.ref a:=rx
 exact b8w hu I3 g ry rv fun s4 I4=>⟨σ,H4,I4,q3⟩
end
theorem c2b {P:Program} {w:World} {H:Hp} (h:Heap) (hb:sysModules < h.objs.size):ObjOk P w H (h.push { cls:=.type "dict",data:=.dict #[] }) h.objs.size (.dK []) :=
 ⟨Nat.zero_le _,beq_eq_false_iff_ne.mpr (Ne.symm (Γo hb)),[],.nil,Heap.DictOf.new h⟩
theorem c1z {P:Program} {w:World} {H:Hp} (h:Heap) (hb:sysModules < h.objs.size):ObjOk P w H (h.push { cls:=.type "dict",data:=.dict #[] }) h.objs.size (.dT []) :=
 ⟨Nat.zero_le _,beq_eq_false_iff_ne.mpr (Ne.symm (Γo hb)),[],.nil,_,#[],0,Γm _ rfl,⟨rfl,rfl,rfl⟩,rfl,rfl,List.nodup_nil⟩
def c7r:TE:=fun _ H Q=>∀ p,H p=none→Q (.ref p) (upd H p (.dT []))
section
variable {X:Cx} {pos:Pos}
theorem c0v:PE X (.Dict [] [] pos) c7r:=fun pins s σ H Q I h =>
 wpAny_Dict_empty ⟨.ref s.heap.objs.size,_,I.laid (a:=s.heap.objs.size) (o:=.dT []) (t':=s.toks) (fun _ _ q=>Γc _ q) (Γi _) (c1z s.heap I.big),rfl,h _ (I.hok.fresh (Γi _))⟩
end
def b5u:List (TE×TE)→St→Hp→(List (V×V)→Hp→Prop)→Prop
 | [],_,H,Q=>Q [] H
 | (tk,tv) :: r,σ,H,Q=>tk σ H fun x H1=>tv σ H1 fun y H2=>b5u r σ H2 fun ps H3=>Q ((x,y) :: ps) H3
abbrev VV:List (V×V)→List (Value×Value)→Prop:=Paired fun p q=>RelV p.1 q.1∧RelV p.2 q.2
def PPs (X:Cx) (pos:Pos) (keys:List (Option Expr)) (values:List Expr) (trs:List (TE×TE)):Prop :=
 ∀ (pins:List (Addr×Obj)) (s:Shared) (σ:St) (H:Hp) (Q:List (V×V)→Hp→Prop),Inv X pins σ H s→b5u trs σ H Q →
  wpAny (model X.prog X.w) X.A (evalPairs (pairTrees keys values X.env pos)) (fun vs s'=>∃ ps H',Inv X pins σ H' s'∧VV ps vs∧Q ps H') X.xe s
theorem c4w {X:Cx} {pos:Pos}:PPs X pos [] [] []:=fun pins s σ H Q I h=>pairTrees_nil_walk ⟨[],H,I,.nil,h⟩
theorem c0q {X:Cx} {pos:Pos} {k v:Expr} {ks:List (Option Expr)} {vs:List Expr} {tk tv:TE} {trs:List (TE×TE)} (hk:PE X k tk) (hv:PE X v tv) (hr:PPs X pos ks vs trs) :
  PPs X pos (some k :: ks) (v :: vs) ((tk,tv) :: trs):=fun pins s σ H Q I h =>
 pairTrees_cons_walk (thn (hk pins s σ H _ I h) fun u s1 ⟨x,H1,I1,rx,q1⟩=>thn (hv pins s1 σ H1 _ I1 q1) fun w2 s2 ⟨y,H2,I2,ry,q2⟩ =>
  thn (hr pins s2 σ H2 _ I2 q2) fun ws s3 ⟨ps,H3,I3,rel,q3⟩=>⟨(x,y) :: ps,H3,I3,.cons ⟨rx,ry⟩ rel,q3⟩)
def a6v (kvs more:List (Key×V)):List (Key×V):=more.foldl (fun acc kv=>a6t acc kv.1 kv.2) kvs
theorem KV.merge:∀ {more:List (Key×V)} {rs:List (Key×Value)} {kvs:List (Key×V)} {vs:List (Key×Value)},KV more rs→KV kvs vs→KV (a6v kvs more) (merged vs rs):=by
 intro more rs kvs vs r
 unfold KV at r
 induction r generalizing kvs vs with
 | nil=>intro q; exact q
 | @cons p q ps qs h t ih =>
  intro r0
  have e:KV (a6t kvs p.1 p.2) (stored vs q.1 q.2):=by
   have:=r0.put p.1 h.2
   rw [← h.1]; exact this
  exact ih e
theorem a4j:∀ (more kvs:List (Key×V)),(a6v kvs more).length≤kvs.length + more.length
 | [],kvs=>by show kvs.length≤kvs.length + 0; lia
 | p :: r,kvs=>by
  have h1:=a4j r (a6t kvs p.1 p.2)
  have h2:=a3t kvs p.1 p.2
  show (a6v (a6t kvs p.1 p.2) r).length≤_
  rw [List.length_cons]; lia
theorem a7g {P:Program} {w:World}:∀ {kvs:List (Key×V)} {ws:List (Value×Value)},VV (kvs.map fun kv=>(kV kv.1,kv.2)) ws→∃ rs,Carries (a0r P w) ws rs∧KV kvs rs
 | [],_,r=>by rw [List.map_nil] at r; cases r; exact ⟨[],True.intro,.nil⟩
 | p :: kvs,_,r=>by
  rw [List.map_cons] at r
  cases r with
  | @cons a b as bs h t =>
   obtain ⟨rs,c,q⟩:=a7g (P:=P) (w:=w) t
   obtain ⟨b1,b2⟩:=b
   exact ⟨(p.1,b2) :: rs,⟨b4q h.1,rfl,c⟩,.cons ⟨rfl,h.2⟩ q⟩
def d4f (trs:List (TE×TE)):TE:=fun σ H Q=>∀ p,H p=none→b5u trs σ (upd H p (.dK [])) fun ps H2=>H2 p=some (.dK [])∧∃ kvs:List (Key×V),ps=kvs.map (fun kv=>(kV kv.1,kv.2))∧kvs.length≤15∧Q (.ref p) (upd H2 p (.dK (a6v [] kvs)))
theorem c5d {X:Cx} {pos:Pos} {keys:List (Option Expr)} {values:List Expr} {trs:List (TE×TE)} (h:PPs X pos keys values trs) (hall:keys.all (·.isSome)=true) (hl:keys.length=values.length) (h0:keys≠[])
  (h15:keys.length≤15):PE X (.Dict keys values pos) (d4f trs):=by
 intro pins s σ H Q I q
 have hn:=I.hok.fresh (Γi s.heap.objs.size)
 have I1:=I.laid (a:=s.heap.objs.size) (o:=.dK []) (h':=s.heap.push { cls:=.type "dict",data:=.dict #[] }) (t':=s.toks) (fun _ _ q=>Γc _ q) (Γi _) (c2b s.heap I.big)
 refine wpAny_Dict_walk (knd:=a0r X.prog X.w) hall hl h0 h15 (thn (h pins _ σ _ _ I1 (q _ hn)) fun ws s2 ⟨ps,H2,I2,rel,e,kvs,ep,lk,q2⟩=>?_)
 subst ep
 obtain ⟨rs,c,rk⟩:=a7g (P:=X.prog) (w:=X.w) rel
 obtain ⟨z,hd,vs0,r0,dd⟩:=d1q I2.hok e
 cases r0
 refine ⟨rs,c,dd,fun h' dd' hs=>⟨.ref s.heap.objs.size,_,?_,rfl,q2⟩⟩
 have hz:(a6v [] kvs).length≤sizeLine:=by
  have h1:=a4j kvs []
  rw [List.length_nil] at h1
  rw [sizeLine_eq]; lia
 have he:∃ q,h'.get? s.heap.objs.size=some q:=let ⟨q,_,_,hq,_⟩:=dd'; ⟨q,hq⟩
 exact b1x I2 (by rw [e]; exact True.intro) hs he (c3s hz hd (rk.merge .nil) dd')
structure M1 (X:Cx) (o:Expr) (m:Str) (apos:Pos) (e:Expr) (cpos:Pos):Prop where
 base:attributeBase o m X.env (eval o X.env)=eval o X.env
 few:((backTo cpos (starEach [e] X.env)).all (fun x=>!x.1) && (backToKw cpos (keywordEach [] X.env)).all (fun x=>x.1.isSome)
  && decide (([e]:List Expr).length + ([]:List Keyword).length + (if ([]:List Keyword).isEmpty then 0 else 1) < 30))=true
 line:(apos.endLine == cpos.line)=true
 trees:backTo cpos (starEach [e] X.env)=[(false,eval e X.env)]
structure M2 (X:Cx) (o:Expr) (m:Str) (apos:Pos) (e f:Expr) (cpos:Pos):Prop where
 base:attributeBase o m X.env (eval o X.env)=eval o X.env
 few:((backTo cpos (starEach [e,f] X.env)).all (fun x=>!x.1) && (backToKw cpos (keywordEach [] X.env)).all (fun x=>x.1.isSome)
  && decide (([e,f]:List Expr).length + ([]:List Keyword).length + (if ([]:List Keyword).isEmpty then 0 else 1) < 30))=true
 line:(apos.endLine == cpos.line)=true
 trees:backTo cpos (starEach [e,f] X.env)=[(false,eval e X.env),(false,eval f X.env)]
def IsD (H:Hp) (a:Addr):Prop:=(∃ kvs,Rd H a (.dK kvs)) ∨ ∃ kvs,Rd H a (.dT kvs)
theorem d0n {X:Cx} {pins:List (Addr×Obj)} {σ:St} {H:Hp} {s:Shared} {a:Addr} (I:Inv X pins σ H s) (d:IsD H a) :
  s.TypeIs (.ref a) "dict"∧(∀ b,Value.ref a=.ref b→∃ ob,s.heap.get? b=some ob∧ob.dict=none)∧(a == sysModules)=false:=by
 rcases d with ⟨kvs,e⟩ | ⟨kvs,e⟩
 ·obtain ⟨_,hd,vs,_,dd⟩:=b4x I.hok e
  refine ⟨dd.typeIs,fun b q=>?_,hd⟩
  cases q
  obtain ⟨ob,_,_,h1,h2,_⟩:=dd
  exact ⟨ob,h1,h2.2.1⟩
 ·obtain ⟨_,hd,xs,_,dd⟩:=b4v I.hok e
  refine ⟨dd.typeIs,fun b q=>?_,hd⟩
  cases q
  obtain ⟨ob,_,_,h1,h2,_⟩:=dd
  exact ⟨ob,h1,h2.2.1⟩
section
variable {X:Cx} {pins:List (Addr×Obj)} {σ:St} {H:Hp} {s:Shared} {a:Addr} {y d:V} {u r:Value} {o:Option V} {A:Around} {E:Value→Shared→Prop}
theorem d1s {Q:Value→Shared→Prop} (hu:A.units + 1 < cLine) (I:Inv X pins σ H s) (g:DGet H a y o) (ry:RelV y u) (h:∀ w' s',Inv X pins σ H s'→RelV (o.getD .non) w'→Q w' s') :
  wpAny (model X.prog X.w) A (call (.builtin "dict.get") [.ref a,u]) Q E s:=by
 rcases g with ⟨kvs,k,e,ey,l⟩ | ⟨kvs,k,b,e,ey,eb,l⟩
 ·subst ey
  obtain ⟨z,hd,vs,rel,dd⟩:=b4x I.hok e
  refine call_meetsIn PySem.F.slot_dict_get dd.typeIs PySem.F.entry_dict_get (PySem.F.args_dict_get_2 _ _) (meets_dict_get (a0r X.prog X.w) a (b4q ry) hd) ⟨_,dd.mapOf,h _ _ (I.tok _) ?_⟩
  rw [l]
  exact (rel.val k).getD rfl
 ·subst ey
  cases (show u=Value.ref b from ry)
  obtain ⟨z,hd,xs,rel,dd⟩:=b4v I.hok e
  refine call_meetsIn PySem.F.slot_dict_get dd.typeIs PySem.F.entry_dict_get (PySem.F.args_dict_get_2 _ _) (meetsH_dict_get (tupleKind (a0r X.prog X.w)) a b hd) ⟨tupleKind_room_in1 hu,k,xs,b0b I.hok eb,dd,h _ _ (I.tok _) ?_⟩
  rw [l]
  exact (rel.val k).getD rfl
end
def c7s (td ty:TE):TE:=fun σ H Q=>td σ H fun x H1=>∃ a,x=.ref a∧IsD H1 a∧ty σ H1 fun y H2=>∃ o,DGet H2 a y o∧Q (o.getD .non) H2
section
variable {X:Cx} {o e f:Expr} {apos cpos:Pos} {td ty tx:TE}
theorem c0w (hu:X.A.units + 1 < cLine) (ho:PE X o td) (he:PE X e ty) (m:M1 X o "get" apos e cpos):PE X (.Call (.Attribute o "get" apos) [e] [] cpos) (c7s td ty):=by
 intro pins s σ H Q I h
 refine wpAny_Call_method m.base m.few m.line PySem.F.plainAttrs_dict PySem.F.slot_dict_get PySem.F.type_dict_get (thn (ho pins s σ H _ I h) fun u s1 ⟨x,H1,I1,rx,a,ex,d,q1⟩=>?_)
 subst ex
 obtain rfl:u=Value.ref a:=rx
 obtain ⟨t1,t2,_⟩:=d0n I1 d
 refine ⟨t1,t2,?_⟩
 rw [m.trees]
 refine Calls.callWith_builtin rfl (Calls.evalArgs_plain (Calls.spliced_cons (thn (he pins s1 σ H1 _ I1 q1) fun iv s2 ⟨y,H2,I2,ry,ov,g,q2⟩=>Calls.spliced_nil ?_)))
 exact d1s hu I2 g ry fun w' s3 I3 rw'=>⟨_,H2,I3,rw',q2⟩
end
section
variable {X:Cx} {pins:List (Addr×Obj)} {σ:St} {H:Hp} {s:Shared} {a:Addr} {kvs:List (Key×V)} {A:Around} {E:Value→Shared→Prop}
end
section
variable {X:Cx} {pins:List (Addr×Obj)} {σ:St} {H:Hp} {s:Shared} {a:Addr} {y:V} {u:Value} {A:Around} {E:Value→Shared→Prop}
end
end L2
namespace L2
open PySem PySem.Spec PyProof.Rows
section
variable {κ:Type} [DecidableEq κ]
end
end L2
end
section
namespace HT
open PySem PyProof.Rows
def lexLe:List Int→List Int→Bool
 | [],[]=>true
 | [],_ :: _=>true
 | _ :: _,[]=>false
 | x :: xs,y :: ys=>if x=y then lexLe xs ys else decide (x≤y)
theorem b4n (x y:Int) (xs ys:List Int):lexLe (x :: xs) (y :: ys)=if x=y then lexLe xs ys else decide (x≤y):=rfl
theorem a8l:lexLe [] []=true:=rfl
theorem a6k (y:Int) (ys:List Int):lexLe [] (y :: ys)=true:=rfl
theorem a6l (x:Int) (xs:List Int):lexLe (x :: xs) []=false:=rfl
theorem b8g (A:Around) (s:Shared) (a:Int) (t:Tok) (c:Int) (u:Tok):∃ e,SeqAt.EqAt A s (.int a t) (.int c u) e∧(e=true↔a=c) :=
 ⟨(a == c),SeqAt.EqAt.int_int a t c u,by simp⟩
theorem c0j (A:Around) (s:Shared) (a:Int) (t:Tok) (c:Int) (u:Tok) (prog:Program) (w:World) (E:Value→Shared→Prop) (Q:Value→Shared→Prop) (h:Q (.bool (decide (a≤c))) s) :
  wpAny (model prog w) A (richCompare .LtE (.int a t) (.int c u)) Q E s :=
 (PyProof.Rows.le_int h:wpAny (model prog w) A (compareOp .LtE (.int a t) (.int c u)) Q E s)
section
open PySem.SeqAt
open PySem.AutoSeq1 (wpAny_loadPart')
open PySem.MeetsSeq PySem.MeetsSeq2 PySem.MeetsSeq3
theorem a7o (l b:Addr) (items items2:Array Value) (n n2:Nat) (dd dd2:Option Addr) (sl sl2:Array (Option Value)) (ns ms:List Int) (hi:IntsAre items.toList ns) (hj:IntsAre items2.toList ms) :
  Meets (Builtin.«tuple.__le__» ⟨[.ref l,.ref b],[]⟩)
   (fun _ R s=>s.heap.get? l=some { cls:=.type "tuple",dict:=dd,data:=.seq items n,slots:=sl }∧s.heap.get? b=some { cls:=.type "tuple",dict:=dd2,data:=.seq items2 n2,slots:=sl2 } ∧
    R (.ok (.ret (.bool (lexLe ns ms)))) s) :=
 .of_wp fun prog w A R s h=>by
  obtain ⟨hp,g,d,tk,os⟩:=s; obtain ⟨hl,hb,h⟩:=h
  have f2:=AutoSeq1.sub_tuple_tuple
  have z1:items.size=ns.length:=by rw [← hi.length]; simp
  have z2:items2.size=ms.length:=by rw [← hj.length]; simp
  wp_walk using wpAny_loadPart' hl,wpAny_loadPart' hb,wpAny_forIn_list _ (fun rest b s'=>b.1=none∧s'=⟨hp,g,d,tk,os⟩∧∃ (vs ws:List Value) (ns' ms':List Int),rest=vs.zip ws ∧
   IntsAre vs ns'∧IntsAre ws ms'∧ns'.length + items2.size=ms'.length + items.size∧R (.ok (.ret (.bool (lexLe ns' ms')))) ⟨hp,g,d,tk,os⟩) _
  case turn =>
   rintro ⟨y,x⟩ rest b s' ⟨hb',rfl,vs,ws,ns',ms',hz,hvi,hwi,hlen,hR⟩
   cases hvi with
   | nil=>rw [List.zip_nil_left] at hz; cases hz
   | cons a t hvi' =>
    cases hwi with
    | nil=>rw [List.zip_nil_right] at hz; cases hz
    | cons c u hwi' =>
     rw [List.zip_cons_cons] at hz
     injection hz with hyx hrest
     injection hyx with hy hx
     subst hy hx
     rw [b4n] at hR
     simp only [List.length_cons] at hlen
     obtain ⟨e,he,hiff⟩:=b8g A.in1 ⟨hp,g,d,tk,os⟩ a t c u
     refine Γa (he prog w _ _ ?_)
     cases e with
     | true =>
      rw [if_pos (hiff.mp rfl)] at hR
      wp_walk
      exact ⟨rfl,rfl,_,_,_,_,hrest,hvi',hwi',by lia,hR⟩
     | false =>
      rw [if_neg (fun q=>absurd (hiff.mpr q) Γk)] at hR
      have hri:=c0j A.in1 ⟨hp,g,d,tk,os⟩ a t c u prog w
      wp_walk using hri
      exact ⟨_,rfl,by simpa using hR⟩
  case fin =>
   rintro ⟨b1,b2⟩ s' ⟨hb',rfl,vs,ws,ns',ms',hz,hvi,hwi,hlen,hR⟩
   simp only at hb'
   subst hb'
   have hv:lexLe ns' ms'=decide (items.size≤items2.size):=by
    cases hvi with
    | nil =>
     cases hwi with
     | nil =>
      simp only [List.length_nil] at hlen
      rw [a8l]
      exact (decide_eq_true (by lia)).symm
     | cons c u hw =>
      simp only [List.length_nil,List.length_cons] at hlen
      rw [a6k]
      exact (decide_eq_true (by lia)).symm
    | cons a t hv =>
     cases hwi with
     | nil =>
      simp only [List.length_nil,List.length_cons] at hlen
      rw [a6l]
      exact (decide_eq_false (by lia)).symm
     | cons c u hw =>
      rw [List.zip_cons_cons] at hz
      cases hz
   rw [hv] at hR
   wp_walk
   exact ⟨_,rfl,by simpa [Builtin.Tuple.tupleCompareSizes] using hR⟩
  case h =>
   exact ⟨rfl,rfl,items.toList,items2.toList,ns,ms,rfl,hi,hj,by lia,h⟩
end
section
variable {prog:Program} {w:World} {A:Around} {E:Value→Shared→Prop} {s:Shared}
theorem le_tupInts {l b:Addr} {items items2:Array Value} {ns ms:List Int} {Q:Value→Shared→Prop} (hl:IsTup s.heap l items) (hb:IsTup s.heap b items2) (hi:IntsAre items.toList ns) (hj:IntsAre items2.toList ms)
  (hu:A.units < cLine) (h:Q (.bool (lexLe ns ms)) s):wpAny (model prog w) A (compareOp .LtE (.ref l) (.ref b)) Q E s:=by
 obtain ⟨⟨cls,dd,data,sl⟩,ho,hc,n,hd⟩:=id hl
 obtain ⟨⟨cls2,dd2,data2,sl2⟩,ho2,hc2,n2,hd2⟩:=id hb
 simp only at hc hd hc2 hd2
 subst hc hd hc2 hd2
 exact richCompare_meets_room (op:=.LtE) ⟨_,ho,rfl⟩ ⟨_,ho2,rfl⟩ PySem.F.slot_tuple_le PySem.F.entry_tuple_le (PySem.F.args_tuple_le_2 _ _) (a7o l b items items2 n n2 dd dd2 sl sl2 ns ms hi hj)
  ⟨ho,ho2,show Value.bool (lexLe ns ms)≠Value.notImplemented∧Q (.bool (lexLe ns ms)) s from ⟨(fun x=>nomatch x),h⟩⟩ hu
end
end HT
namespace L2
open PySem PySem.Spec PyProof.Rows
section
variable {X:Cx}
def rLeT (K:Γd):R2:=fun x y H Q=>∃ a b ns ms,x=.ref a∧y=.ref b∧SqT K H a (ns.map V.int)∧SqT K H b (ms.map V.int)∧Q (.bl (HT.lexLe ns ms)) H
theorem c9o (hu:X.A.units < cLine):OpR X (compareOp .LtE) (rLeT X.K):=by
 intro pins s σ H x y v u Q I rx ry h
 obtain ⟨a,b,ns,ms,rfl,rfl,ha,hb,q⟩:=h
 cases rx
 cases ry
 obtain ⟨its,r1,p1,_⟩:=I.tuple ha
 obtain ⟨its2,r2,p2,_⟩:=I.tuple hb
 have i1:IntsAre its.toArray.toList ns:=a3h r1
 have i2:IntsAre its2.toArray.toList ms:=a3h r2
 exact HT.le_tupInts p1 p2 i1 i2 hu ⟨.bl (HT.lexLe ns ms),H,I,rfl,q⟩
end
end L2
end
set_option maxHeartbeats 4000000
section
namespace L2
open PySem PySem.Spec PyProof.Rows
open AutoSeq1 (wpAny_loadPart')
section
variable {X:Cx}
theorem c0x:OpR X (binaryOp .Add) (fun x y H Q=>∃ a b ys,x=.ref a∧y=.ref b∧SqT X.K H a []∧SqT X.K H b ys∧Q (.ref b) H):=by
 intro pins s σ H x y v u Q I rx ry h
 obtain ⟨a,b,ys,rfl,rfl,ha,hb,q⟩:=h
 cases rx; cases ry
 obtain ⟨its,r1,⟨⟨oc,od,odt,os⟩,e1,ec,n,ed⟩,_⟩:=I.tuple ha
 obtain ⟨its2,r2,⟨⟨oc2,od2,odt2,os2⟩,e2,ec2,n2,ed2⟩,_⟩:=I.tuple hb
 simp only at ec ed ec2 ed2
 subst ec ed ec2 ed2
 cases r1
 exact concat_meets ⟨_,e1,rfl⟩ ⟨_,e2,rfl⟩ noFill_tuple_add seq_tuple_add F.slot_tuple_add F.entry_tuple_add (F.args_tuple_add_2 _ _) (tuple_addW0 a b #[] its2.toArray n n2 od od2 os os2 rfl) ⟨e1,e2,.ref b,H,I,rfl,q⟩
theorem c0e:SlR X (fun x lo hi H Q=>∃ a xs,x=.ref a∧SqT X.K H a xs∧HT.sIx xs.length 0 lo=0∧HT.sIx xs.length xs.length hi=xs.length∧Q (.ref a) H):=by
 intro pins s σ H x v vl vu lo hi sl Q I rx hs pl pu h
 obtain ⟨t,xs,rfl,hx,h1,h2,q⟩:=h
 cases rx
 obtain ⟨its,r,ht,hz⟩:=I.tuple hx
 have hlen:its.toArray.size=xs.length:=by rw [List.size_toArray]; exact r.length.symm
 refine ⟨"tuple",_,PyProof.Rows.slot_tuple_getitem.lookup,ht.typeIs,?_⟩
 obtain ⟨os,eo,co,do'⟩:=id hs
 have ty:s.TypeIs (.ref sl) "slice":=⟨os,eo,co⟩
 rw [← hlen] at h1 h2
 unfold getItem
 try with_reducible refine Γg ?_
 first | refine Γa (Γb ?_) | skip
 refine Γa (wpAny_sequenceKey ht.typeIs (by decide) (Γa (wpAny_callSpecial?_slot (name:=Γe "__getitem__") ht.typeIs PyProof.Rows.slot_tuple_getitem (wpAny_call_entry PyProof.Rows.slot_tuple_getitem ht.typeIs entry_tuple_getitem ?_ (args_tuple_getitem _ _)))))
 show wpAny _ _ (Builtin.Tuple.tupleItemsOf (.ref t) >>= _) _ _ s; refine Γa (tupleItemsOf_ ht (Γa (wpAny_typeOf ty ?_)))
 rw [if_pos (by decide)]; refine Γa (HT.sliceApplied_gen hs pl pu ?_)
 show wpAny _ _ (if (((HT.sIx its.toArray.size 0 lo:Nat):Int) == 0 && (1:Int) == 1 && (HT.sIx its.toArray.size its.toArray.size hi - HT.sIx its.toArray.size 0 lo) == its.toArray.size)=true then _ else _) _ _ s
 rw [if_pos (by rw [h1,h2]; simp)]
 refine Γa (m:=Builtin.Tuple.tupleIsExact (.ref t)) ?_
 unfold Builtin.Tuple.tupleIsExact
 refine Γa (wpAny_typeOf ht.typeIs (Γb ?_))
 rw [if_pos (by decide)]
 exact Γa (wpAny_rule (Γb ⟨_,rfl,Γb ⟨.ref t,H,I,rfl,q⟩⟩))
end
def Kept (h0 h:Heap) (N:Nat):Prop:=∀ b o,b < N→h0.get? b=some o→h.get? b=some o
def c7g (P:Program) (w:World) (A:Around) (I:Nat→Value→Prop) (bt:Nat→Nat→Bool) (h0:Heap) (N:Nat):Prop :=
 ∀ i j u v (s:Shared) (Q:Value→Shared→Prop) (E:Value→Shared→Prop),Kept h0 s.heap N→I i u→I j v→Q (.bool (bt i j)) s→wpAny (model P w) A (richCompare .Lt u v) Q E s
section
variable {P:Program} {w:World} {A:Around} {R:Result→Shared→Prop} {it S N:Addr} {fp wr:List Addr} {n:Nat} {V:Nat→Value→Prop} {St:Nat→Heap→Prop} {bt:Nat→Nat→Bool} {h0:Heap}
theorem b4o (W:Walks P w A.in1 it fp wr n V St) (C:c7g P w A.in1 V bt h0 N) (sf:S ∉ fp) (nw:∀ b∈wr,N≤b) (nS:N≤S) :
  ∀ (k j:Nat) (s:Shared) (best:Value) (c:Nat),n - (j + 1)=k→j + 1≤n→St (j + 1) s.heap→V (argBest bt j) best→Kept h0 s.heap N→s.heap.get? S=some { cls:=.type "list",dict:=none,data:=.seq #[best,best] c,slots:=#[] } →
  (∀ v h' tk,V (argBest bt (n - 1)) v→(∀ b o,b ∉ wr→b≠S→s.heap.get? b=some o→h'.get? b=some o)→R (.ok (.ret v)) { s with heap:=h',toks:=tk })→codeAny (model P w) A (.builtin "min.loop" ⟨[.ref it,.none,.ref S],[]⟩) R s:=by
 have sw:S ∉ wr:=fun h=>sf (W.sub _ h)
 have nm:(toString "min"++toString ".loop":String) = "min.loop":=by decide
 have low:∀ {b:Addr},b < N→b ∉ wr∧b≠S:=fun {b} hb=>⟨fun z=>absurd (nw b z) (Nat.not_le.mpr hb),fun z=>absurd nS (by rw [← z]; exact Nat.not_le.mpr hb)⟩
 intro k
 induction k with
 | zero =>
  intro j s best c hk hj hst hV kp hS hR
  have en:j + 1=n:=by lia
  refine codeAny_builtin F.entry_min_loop ?_; rw [Around.under_plainId F.plain_min_loop _]
  show wpAny _ A.in1 (seqItems? (.ref S) >>= _) _ _ s; refine Γa (wpAny_seqItems hS rfl ?_)
  show wpAny _ A.in1 (tryCatch (pyNext (.ref it)) _ >>= _) _ _ s; refine Γa (wpAny_tryCatch (W.done s _ _ (en ▸ hst) fun g tk kk=>?_))
  have S1:=kk S _ sw hS
  show wpAny _ A.in1 (updateSeq S (fun _=>#[]) >>= _) _ _ _; refine Γa (wpAny_updateSeq S1 rfl (Γa (wpAny_letGo (Γb ?_))))
  exact hR best _ tk (by rw [← en]; exact hV) fun b o c1 c2 e=>(Γf _ _ (Ne.symm c2)).trans (kk b o c1 e)
 | succ k ih =>
  intro j s best c hk hj hst hV kp hS hR
  have lt:j + 1 < n:=by lia
  refine codeAny_builtin F.entry_min_loop ?_; rw [Around.under_plainId F.plain_min_loop _]
  show wpAny _ A.in1 (seqItems? (.ref S) >>= _) _ _ s; refine Γa (wpAny_seqItems hS rfl ?_)
  show wpAny _ A.in1 (tryCatch (pyNext (.ref it)) _ >>= _) _ _ s; refine Γa (wpAny_tryCatch (W.item (j + 1) s _ _ lt hst fun v g tk vP st1 kk=>?_))
  have S1:=kk S _ sw hS
  have kp1:Kept h0 g N:=fun b o hb e=>kk b o (low hb).1 (kp b o hb e)
  show wpAny _ A.in1 (tryCatch (holding [v,v] (richCompare .Lt v best >>= _)) _ >>= _) _ _ _
  refine Γa (wpAny_tryCatch (Γg (Γa (C (j + 1) (argBest bt j) v best _ _ _ kp1 vP hV (Γa (Γg (wpAny_truthy_bool (Γa (wpAny_letGo (Γb ?_))))))))))
  cases hb:bt (j + 1) (argBest bt j) with
  | true =>
   simp only [if_true]; refine Γa (wpAny_updateSeq S1 rfl (Γa (wpAny_letGo ?_))); rw [nm]
   refine Γb ⟨plainId_quiet F.plain_min_loop _,ih (j + 1) _ v _ (by lia) lt (W.frame _ _ _ st1 fun b bf o e=>(Γf _ _ (fun h:S=b=>sf (by rw [h]; exact bf))).trans e) (by simp only [argBest,hb,if_true]; exact vP)
    (fun b o l e=>(Γf _ _ (Ne.symm (low l).2)).trans (kp1 b o l e)) (Heap.get?_update_self _ S1 rfl) fun v' g' tk' p' k'=>?_⟩
   exact hR v' g' tk' p' fun b o c1 c2 e=>k' b o c1 c2 ((Γf _ _ (Ne.symm c2)).trans (kk b o c1 e))
  | false =>
   simp only [Γp,if_false]; refine Γa (wpAny_letGo ?_); rw [nm]
   refine Γb ⟨plainId_quiet F.plain_min_loop _,ih (j + 1) _ best c (by lia) lt st1 (by simp only [argBest,hb,Γp,if_false]; exact hV) kp1 S1 fun v' g' tk' p' k'=>?_⟩
   exact hR v' g' tk' p' fun b o c1 c2 e=>k' b o c1 c2 (kk b o c1 e)
theorem b1q (W:Walks P w A.in1 it fp wr n V St) (C:c7g P w A.in1 V bt h0 N) (sf:S ∉ fp) (nw:∀ b∈wr,N≤b) (nS:N≤S) (hn:0 < n) {s:Shared} {c:Nat} (hst:St 0 s.heap) (kp:Kept h0 s.heap N)
  (hS:s.heap.get? S=some { cls:=.type "list",dict:=none,data:=.seq #[] c,slots:=#[] })
  (hR:∀ v h' tk,V (argBest bt (n - 1)) v→(∀ b o,b ∉ wr→b≠S→s.heap.get? b=some o→h'.get? b=some o)→R (.ok (.ret v)) { s with heap:=h',toks:=tk }):codeAny (model P w) A (.builtin "min.loop" ⟨[.ref it,.none,.ref S],[]⟩) R s:=by
 have sw:S ∉ wr:=fun h=>sf (W.sub _ h)
 have nm:(toString "min"++toString ".loop":String) = "min.loop":=by decide
 have low:∀ {b:Addr},b < N→b ∉ wr∧b≠S:=fun {b} hb=>⟨fun z=>absurd (nw b z) (Nat.not_le.mpr hb),fun z=>absurd nS (by rw [← z]; exact Nat.not_le.mpr hb)⟩
 refine codeAny_builtin F.entry_min_loop ?_; rw [Around.under_plainId F.plain_min_loop _]
 show wpAny _ A.in1 (seqItems? (.ref S) >>= _) _ _ s; refine Γa (wpAny_seqItems hS rfl ?_)
 show wpAny _ A.in1 (tryCatch (pyNext (.ref it)) _ >>= _) _ _ s; refine Γa (wpAny_tryCatch (W.item 0 s _ _ hn hst fun v g tk vP st1 kk=>?_))
 have S1:=kk S _ sw hS
 show wpAny _ A.in1 (updateSeq S (fun _=>#[v,v]) >>= _) _ _ _; refine Γa (wpAny_updateSeq S1 rfl ?_); rw [nm]
 refine Γb ⟨plainId_quiet F.plain_min_loop _,b4o W C sf nw nS _ 0 _ v _ rfl hn (W.frame _ _ _ st1 fun b bf o e=>(Γf _ _ (fun h:S=b=>sf (by rw [h]; exact bf))).trans e) vP
  (fun b o l e=>(Γf _ _ (Ne.symm (low l).2)).trans (kk b o (low l).1 (kp b o l e))) (Heap.get?_update_self _ S1 rfl) fun v' g' tk' p' k'=>?_⟩
 exact hR v' g' tk' p' fun b o c1 c2 e=>k' b o c1 c2 ((Γf _ _ (Ne.symm c2)).trans (kk b o c1 e))
end
section
variable {P:Program} {w:World} {A:Around} {E:Value→Shared→Prop} {s:Shared}
theorem a7h {l:Addr} {xs:Array Value} {bt:Nat→Nat→Bool} {Q:Value→Shared→Prop} (hh:A.in1.handled=none) (hl:s.heap.IsList l xs) (hn:0 < xs.size) (C:c7g P w A.in1 (fun i v=>xs[i]?=some v) bt s.heap s.heap.objs.size)
  (K:∀ v h' tk,xs[argBest bt (xs.size - 1)]?=some v→(∀ b o,s.heap.get? b=some o→h'.get? b=some o)→Q v { s with heap:=h',toks:=tk }):wpAny (model P w) A (call (.builtin "min") [.ref l]) Q E s:=by
 have nm:(toString "min"++toString ".loop":String) = "min.loop":=by decide
 have ll:l < s.heap.objs.size:=by obtain ⟨_,e,_⟩:=hl; exact Γl e
 refine call_function_tree F.kind_min F.plain_min F.entry_min (F.args_min1 _) ?_
 show wpAny _ A.in1 (Builtin.Builtins.bindParams "min" ["key","default"] 0 ⟨[],[]⟩ >>= _) _ _ s
 refine Γa (wpAny_of_eq (show Builtin.Builtins.bindParams "min" ["key","default"] 0 ⟨[],[]⟩=pure [none,none] from rfl) (Γa (Γb (Γa (wpAny_pyIter_list hl ?_)))))
 have W:=Walks.list (prog:=P) (w:=w) hh s.heap.objs.size l (Γo ll) xs
 refine Γa (wpAny_newObj_type ?_)
 rw [nm]
 have z1:(s.heap.push { cls:=.type "list_iterator",data:=.fields #[.ref l,.int 0 0] }).objs.size=s.heap.objs.size + 1:=Heap.size_push ..
 refine Γb ⟨plainId_quiet F.plain_min_loop _,b1q (S:=(s.heap.push { cls:=.type "list_iterator",data:=.fields #[.ref l,.int 0 0] }).objs.size) W C ?_ ?_ ?_ hn ⟨⟨_,Γc _ (Γm _ rfl),rfl,rfl⟩,(hl.push _).push _⟩
  (fun b o hb e=>Γc _ (Γc _ e)) (Γm _ rfl) fun v h' tk hv hk=>?_⟩
 ·rw [z1]; intro z; simp only [List.mem_cons,List.not_mem_nil,or_false] at z; rcases z with z | z
  ·exact absurd z (Nat.ne_of_gt (Nat.lt_succ_self _))
  ·exact absurd z (Nat.ne_of_gt (Nat.lt_succ_of_lt ll))
 ·intro b hb; simp at hb; rw [hb]; exact Γi _
 ·rw [z1]; exact Nat.le_succ _
 ·refine K v h' tk hv fun b o e=>hk b o (by simp; exact Γo (Γl e)) ?_ (Γc _ (Γc _ e))
  rw [z1]; exact Γo (Nat.lt_succ_of_lt (Γl e))
end
end L2
end
section
namespace L2
open PySem PySem.Spec PyProof.Rows
section
variable {prog:Program} {w:World} {A:Around} {E:Value→Shared→Prop} {s:Shared}
end
section
variable {X:Cx} {a e k:Expr} {ta te tk:TE} {pos p2:Pos}
end
end L2
end
section
namespace L2
open PySem PySem.Spec PyProof.Rows
def b0x (cells:List (Str×Addr)):List (Str×NameKind)→List (Str×Addr)→List (Str×Addr)
 | [],acc=>acc
 | (n,k) :: r,acc=>if (k == NameKind.free)=true then b0x cells r ((n,(cells.lookup n).getD 0) :: acc) else b0x cells r acc
theorem b3o {env:Env}:∀ (names:List (Str×NameKind)) (acc:List (Str×Addr)),(∀ p∈names,p.2=.free→∃ c,env.cells.lookup p.1=some c) →
  (forIn names acc fun (x:Str×NameKind) (cs:List (Str×Addr))=>if (x.2 == NameKind.free)=true then cellOf env x.1 >>= fun c=>pure (ForInStep.yield ((x.1,c) :: cs)) else pure (ForInStep.yield cs):Sem (List (Str×Addr)))=pure (b0x env.cells names acc)
 | [],acc,_=>rfl
 | (n,k) :: r,acc,h=>by
  have ih:=b3o (env:=env) r
  rw [List.forIn_cons]
  unfold b0x
  by_cases hk:(k == NameKind.free)=true
  ·obtain ⟨c,hc⟩:=h (n,k) Γn (by simpa using hk)
   have hcell:cellOf env n=pure c:=by
    have hc':env.cells.lookup n=some c:=hc
    unfold cellOf; rw [hc']
   have hc':env.cells.lookup n=some c:=hc
   simp only [hk,if_true,hcell,hc',Option.getD_some,pure_bind]
   exact ih _ fun p hp=>h p (Γh _ hp)
  ·simp only [hk,if_false,pure_bind,Γp]
   exact ih _ fun p hp=>h p (Γh _ hp)
theorem a7f {scope:Scope} {env:Env} (h:∀ p∈scope.names,p.2=.free→∃ c,env.cells.lookup p.1=some c):closureFor scope env=pure (b0x env.cells scope.names []):=by
 have q:=b3o (env:=env) scope.names [] h
 unfold closureFor
 first
  | exact (by rw [q]; rfl)
  | (simp only [bind_pure]; exact q)
theorem a3x {cells:List (Str×Addr)} {x:Str} {c:Addr}:∀ (names:List (Str×NameKind)) (acc:List (Str×Addr)),(∀ p∈names,p.2=.free→∃ c,cells.lookup p.1=some c)→(∀ y d,acc.lookup y=some d→cells.lookup y=some d) →
  (b0x cells names acc).lookup x=some c→cells.lookup x=some c
 | [],acc,_,ha,h=>ha x c h
 | (n,k) :: r,acc,hn,ha,h=>by
  unfold b0x at h
  split at h
  ·rename_i hk
   refine a3x r _ (fun p hp=>hn p (Γh _ hp)) (fun y d hy=>?_) h
   rw [List.lookup_cons] at hy
   obtain ⟨c',hc'⟩:=hn (n,k) Γn (by simpa using hk)
   have hc'':cells.lookup n=some c':=hc'
   split at hy
   ·rename_i hyn
    have e:y=n:=by simpa using hyn
    subst e
    rw [hc''] at hy ⊢
    exact hy
   ·exact ha y d hy
  ·exact a3x r _ (fun p hp=>hn p (Γh _ hp)) ha h
theorem a8v {cells:List (Str×Addr)} {x:Str}:∀ (names:List (Str×NameKind)) (acc:List (Str×Addr)),((x,NameKind.free)∈names ∨ ∃ c,acc.lookup x=some c)→∃ c,(b0x cells names acc).lookup x=some c
 | [],acc,h=>by
  rcases h with h | h
  ·simp at h
  ·exact h
 | (n,k) :: r,acc,h=>by
  unfold b0x
  split
  ·refine a8v r _ ?_
   by_cases hx:x=n
   ·subst hx
    exact .inr ⟨(cells.lookup x).getD 0,by rw [List.lookup_cons]; simp⟩
   ·rcases h with h | ⟨c,h⟩
    ·rcases List.mem_cons.mp h with h | h
     ·cases h; exact absurd rfl hx
     ·exact .inl h
    ·refine .inr ⟨c,?_⟩
     rw [List.lookup_cons]
     have:(x == n)=false:=by simpa using hx
     rw [this]
     exact h
  ·rename_i hk
   refine a8v r _ ?_
   rcases h with h | h
   ·rcases List.mem_cons.mp h with h | h
    ·cases h; simp at hk
    ·exact .inl h
   ·exact .inr h
theorem a2w {env : Env} {x : Str} : ∀ {names : List (Str × NameKind)},
    ((names.map fun (n, k) => if (k == NameKind.free && env.scope.kind == .function && env.kindOf n == some .cell) then (n, NameKind.cell) else (n, k)).lookup x = some .cell ∨
     (names.map fun (n, k) => if (k == NameKind.free && env.scope.kind == .function && env.kindOf n == some .cell) then (n, NameKind.cell) else (n, k)).lookup x = some .free) → names.lookup x = some .cell ∨ names.lookup x = some .free
  | [], h => by rcases h with h | h <;> simp at h
  | (n, k) :: r, h => by
    have ih := @a2w env x r
    rw [List.map_cons] at h
    rw [List.lookup_cons]
    by_cases hk : (k == NameKind.free && env.scope.kind == .function && env.kindOf n == some .cell) = true
    · simp only [hk, if_true] at h
      cases hx : x == n with
      | true =>
        have : k = .free := by simp only [Bool.and_eq_true] at hk; simpa using hk.1.1
        exact .inr (by rw [this])
      | false =>
        simp only [List.lookup_cons, hx] at h
        exact ih h
    · simp only [hk, if_false, Γp] at h
      cases hx : x == n with
      | true => simpa only [List.lookup_cons, hx] using h
      | false =>
        simp only [List.lookup_cons, hx] at h
        exact ih h
theorem a0v:∀ (names:List (Str×NameKind)) (b:Nat) (acc:List (Str×Addr)),cellsFrom b names acc=cellsFrom b names []++acc
 | [],_,_=>rfl
 | (n,k) :: r,b,acc=>by
  unfold cellsFrom
  split
  ·rw [a0v r _ ((n,b) :: acc),a0v r _ [(n,b)],List.append_assoc]; rfl
  ·exact a0v r b acc
theorem a3a:∀ (names:List (Str×NameKind)) (b:Nat) {x:Str} {c:Addr},(x,c)∈cellsFrom b names []→(x,NameKind.cell)∈names
 | [],_,_,_,h=>by simp [cellsFrom] at h
 | (n,k) :: r,b,x,c,h=>by
  unfold cellsFrom at h
  split at h
  ·rename_i hk
   rw [a0v] at h
   rcases List.mem_append.mp h with h | h
   ·exact Γh _ (a3a r _ h)
   ·simp at h
    have:k=.cell:=by simpa using hk
    rw [h.1,this]; exact Γn
  ·exact Γh _ (a3a r _ h)
theorem a8h {x:Str} {c:Addr}:∀ {l l':List (Str×Addr)},(l++l').lookup x=some c→l.lookup x=some c ∨ (l.lookup x=none∧l'.lookup x=some c)
 | [],_,h=>.inr ⟨rfl,h⟩
 | (n,d) :: r,l',h=>by
  rw [List.cons_append,List.lookup_cons] at h
  rw [List.lookup_cons]
  cases hx:x == n with
  | true=>rw [hx] at h; exact .inl h
  | false=>rw [hx] at h; exact a8h h
theorem b7h {x:Str}:∀ {l l':List (Str×Addr)},((∃ c,l.lookup x=some c) ∨ ∃ c,l'.lookup x=some c)→∃ c,(l++l').lookup x=some c
 | [],_,h=>by
  rcases h with ⟨c,h⟩ | h
  ·cases h
  ·exact h
 | (n,d) :: r,l',h=>by
  rw [List.cons_append,List.lookup_cons]
  cases hx:x == n with
  | true=>exact ⟨d,rfl⟩
  | false =>
   refine b7h ?_
   rcases h with ⟨c,h⟩ | h
   ·rw [List.lookup_cons,hx] at h; exact .inl ⟨c,h⟩
   ·exact .inr h
theorem a9r {M:Model} {A:Around} {E:Value→Shared→Prop} {s:Shared} {scope:Scope} {globals:Addr} {cl:List (Str×Addr)} {qual:Str} {env:Env} {Q:Env→Shared→Prop}
  (hQ:∀ h4:Heap,h4.Ns s.heap.objs.size (fun _=>none)→(∀ b o,s.heap.get? b=some o→h4.get? b=some o)→CellsOk h4 (s.heap.objs.size + 1) (cellsFrom (s.heap.objs.size + 1) scope.names []) →
   Q (newEnv scope s.heap.objs.size globals (cellsFrom (s.heap.objs.size + 1) scope.names cl) qual none .none (some env) builtinsNs) { s with heap:=h4,toks:=s.toks + ([]:List (Str×Value)).length }) :
  wpAny M A (newFunctionEnv scope globals cl [] qual none .none (some env)) Q E s:=by
 simp only [newFunctionEnv,Option.isSome_some,if_true]
 refine Γa (wpAny_alloc ?_)
 refine Γa (wpAny_layCells _ (fun name kind cells=>by cases hkc:kind == NameKind.cell <;> simp [hkc]) _ _ _ _ ?_)
 have ok:=cellsFrom_ok scope.names (s.heap.push { cls:=.type "dict",data:=.dict #[] }) (s.heap.objs.size + 1) [] ⟨fun _ _ hm=>(nomatch hm),List.Pairwise.nil⟩ (by rw [Heap.size_push]; exact Γi _)
 rw [Heap.size_push] at ok
 rw [show ({ s with heap:=s.heap.push { cls:=.type "dict",data:=.dict #[] } }:Shared).heap.objs.size=s.heap.objs.size + 1 from Heap.size_push ..]
 simp only [List.forIn_nil]
 exact Γa (Γb (Γb (hQ _ ((Heap.Ns.new s.heap (.type "dict")).keeps (pushCells_keeps _ _)) (fun b o e=>pushCells_keeps _ _ b o (Γc _ e)) ok)))
def d2w (x:Str):Str:=Γe "#"++x
def a8e (own:List Str) (x:Str):Str:=if own.contains x then d2w x else x
def cxC (X:Cx) (scope:Scope) (own:List Str) (fp:List Addr) (C:Addr) (s:Shared) (H:Hp):Cx :=
 { X with N:=X.N.map (a8e own)++own,s₀:=s,H₀:=H,env:=compEnvC scope (cellsFrom (C + 1) scope.names (b0x X.env.cells scope.names [])) C X.env,outer:=X.stack,stack:=X.stack,ex:=fp,fn:=fun x=>scope.names.lookup x == some .cell,pn:=[],xe:=fun _ _=>False }
structure CScope (X:Cx) (scope:Scope) (own:List Str):Prop where
 kind:scope.kind=.function
 nocell:∀ p∈scope.names,p.2=.cell→scope.names.lookup p.1=some .cell
 names:∀ p∈scope.names,p.2=.local→scope.names.lookup p.1=some .local
 free:∀ p∈scope.names,p.2=.free→X.env.kindOf p.1=some .cell ∨ X.env.kindOf p.1=some .free
 apart:∀ x∈X.N,own.contains x=false→scope.names.lookup x≠some .local∧scope.names.lookup x≠some .cell
 hid:∀ x∈X.N,own.contains x=true→scope.names.lookup (d2w x)=none
section
variable {X:Cx}
theorem a6x {names:List (Str×NameKind)} {x:Str} {k:NameKind} (h:names.lookup x=some k):(x,k)∈names:=PySem.mem_of_lookup h
theorem a4e {env:Env} {x:Str}:∀ {names:List (Str×NameKind)},
  (names.map fun (n,k)=>if (k == NameKind.free && env.scope.kind == .function && env.kindOf n == some .cell) then (n,NameKind.cell) else (n,k)).lookup x=some .local→names.lookup x=some .local
 | [],h=>by simp at h
 | (n,k) :: r,h=>by
  have ih:=@a4e env x r
  rw [List.map_cons] at h
  rw [List.lookup_cons]
  by_cases hk:(k == NameKind.free && env.scope.kind == .function && env.kindOf n == some .cell)=true
  ·simp only [hk,if_true] at h
   cases hx:x == n with
   | true=>simp [List.lookup_cons,hx] at h
   | false =>
    simp only [List.lookup_cons,hx] at h
    exact ih h
  ·simp only [hk,if_false,Γp] at h
   cases hx:x == n with
   | true=>simpa [List.lookup_cons,hx] using h
   | false =>
    simp only [List.lookup_cons,hx] at h
    exact ih h
theorem a9k {env:Env} {scope:Scope} {x:Str} (h:scope.names.lookup x=none):(relabel scope env).names.lookup x=none:=by
 unfold relabel
 simp only
 generalize scope.names=l at h
 induction l with
 | nil=>rfl
 | cons p r ih =>
  obtain ⟨n,k⟩:=p
  rw [List.lookup_cons] at h
  cases e:(x == n) with
  | true=>rw [e] at h; cases h
  | false =>
   rw [e] at h
   rw [List.map_cons]
   split
   ·rw [List.lookup_cons,e]; exact ih h
   ·rw [List.lookup_cons,e]; exact ih h
theorem c1m {scope:Scope} {own:List Str} {fp:List Addr} {pins:List (Addr×Obj)} {σ:St} {H:Hp} {s:Shared} {h4:Heap} {t4:Nat} (I:Inv X pins σ H s) (SC:CScope X scope own) (hc:X.calm=true)
  (hf:∀ b∈fp,b3t X pins H b) (hfo:∀ b∈fp,∃ o,s.heap.get? b=some o)
  (hns:h4.Ns s.heap.objs.size (fun _=>none)) (hk:∀ b o,s.heap.get? b=some o→h4.get? b=some o) (ok:CellsOk h4 (s.heap.objs.size + 1) (cellsFrom (s.heap.objs.size + 1) scope.names [])) :
  Inv (cxC X scope own fp s.heap.objs.size s H) [] (σ++Γj own.length none) H { s with heap:=h4,toks:=t4 }:=by
 have fr:∀ p∈scope.names,p.2=.free→∃ c,X.env.cells.lookup p.1=some c:=fun p hp hq=>I.ok.has p.1 (SC.free p hp hq)
 have cl0:∀ {x:Str} {c:Addr},(b0x X.env.cells scope.names []).lookup x=some c→X.env.cells.lookup x=some c:=fun h=>a3x scope.names [] fr (fun y d hy=>by simp at hy) h
 have cl:∀ {x:Str} {c:Addr},(cellsFrom (s.heap.objs.size + 1) scope.names (b0x X.env.cells scope.names [])).lookup x=some c→((x,c)∈cellsFrom (s.heap.objs.size + 1) scope.names []∧s.heap.objs.size + 1≤c) ∨ X.env.cells.lookup x=some c:=fun h=>by
  rw [a0v] at h
  rcases a8h h with z | z
  ·exact .inl ⟨PySem.mem_of_lookup z,(ok.empty _ _ (PySem.mem_of_lookup z)).2⟩
  ·exact .inr (cl0 z.2)
 have hasC:∀ {x:Str},(scope.names.lookup x=some .cell ∨ scope.names.lookup x=some .free)→∃ c,(cellsFrom (s.heap.objs.size + 1) scope.names (b0x X.env.cells scope.names [])).lookup x=some c:=fun {x} h=>by
  rw [a0v]
  refine b7h ?_
  rcases h with h | h
  ·exact .inl (Option.isSome_iff_exists.mp (PySem.W.cellsFrom_some _ _ _ (.inl h)))
  ·exact .inr (a8v scope.names [] (.inl (a6x h)))
 have clt:∀ {x:Str} {c:Addr},X.env.cells.lookup x=some c→c < s.heap.objs.size:=fun h=>by obtain ⟨v,q⟩:=I.cell _ _ h; exact q.lt
 refine ⟨⟨I.ok.mod,SC.kind,I.ok.glob,I.ok.blt,Γi _,fun x y c h1 h2=>?_,fun x hx=>?_,fun x c hf' h=>?_,fun _=>I.ok.hd hc,I.ok.frames,.inl rfl,fun b hb=>?_,
   fun b o e=>I.bs b o e,Nat.le_trans I.ok.bsz I.sz,fun b o e hb=>?_,fun b hb hz=>?_,I.stack,I.stkFree⟩,
  rfl,I.bare,Un.kept hk,⟨_,hns,fun i x v e1 e2 e3=>?_⟩,fun x c h=>?_,I.fresh,fun x c h=>(cl h).elim (fun z=>I.hok.fresh (by lia)) (I.freeC x c),fun p hp=>absurd (show p∈([]:List (Addr×Obj)) from hp) (by simp),I.hok.kept hk,?_⟩
 ·rcases cl h1 with z1 | z1 <;> rcases cl h2 with z2 | z2
  ·exact name_of_addr ok.apart z1.1 z2.1
  ·exact absurd (clt z2) (Nat.not_lt.mpr (Nat.le_of_succ_le z1.2))
  ·exact absurd (clt z1) (Nat.not_lt.mpr (Nat.le_of_succ_le z2.2))
  ·exact I.ok.inj x y c z1 z2
 ·have hx:(relabel scope X.env).names.lookup x=some .cell ∨ (relabel scope X.env).names.lookup x=some .free:=hx
  exact hasC (a2w hx)
 ·have hf':(scope.names.lookup x == some .cell)=true:=hf'
  have h:(cellsFrom (s.heap.objs.size + 1) scope.names (b0x X.env.cells scope.names [])).lookup x=some c:=h
  obtain ⟨c',hc'⟩:=Option.isSome_iff_exists.mp (PySem.W.cellsFrom_some scope.names (s.heap.objs.size + 1) [] (.inl (by simpa using hf')))
  rw [a0v] at h
  rcases a8h h with z | z
  ·have:=(ok.empty _ _ (PySem.mem_of_lookup z)).2
   show s.heap.objs.size≤c
   lia
  ·rw [hc'] at z; cases z.1
 ·have hb:b∈fp:=hb
  obtain ⟨o,ho⟩:=hfo b hb
  exact ⟨Γo (Γl ho),fun x c h=>(cl h).elim (fun z e=>absurd (e ▸ Γl ho:c < s.heap.objs.size) (Nat.not_lt.mpr (Nat.le_of_succ_le z.2))) ((hf b hb).2.2.2.2.1 x c)⟩
 ·have hb:b∈fp:=hb
  have e:X.base.get? b=some o:=e
  rcases (hf b hb).2.2.2.1 with z | z
  ·exact I.ok.noex b o e z
  ·exact absurd (Nat.lt_of_lt_of_le (Γl e) (Nat.le_trans I.ok.bsz z)) (Nat.lt_irrefl _)
 ·have hb:b∈fp:=hb
  have hz:b∈frs X.stack:=hz
  rcases List.mem_cons.mp (I.stkSub b hz) with z | z
  ·exact (hf b hb).2.1 z
  ·exact (hf b hb).2.2.1 z
 ·have e1:(X.N.map (a8e own)++own)[i]?=some x:=e1
  have e3:Vis (relabel scope X.env) x:=e3
  have hi:i < σ.length:=by
   by_cases hi:i < σ.length
   ·exact hi
   ·rw [List.getElem?_append_right (by lia),List.getElem?_replicate] at e2
    split at e2 <;> cases e2
  rw [List.getElem?_append_left hi] at e2
  rw [List.getElem?_append_left (by rw [List.length_map,← I.len]; exact hi),List.getElem?_map] at e1
  obtain ⟨y,e1,ey⟩:=Option.map_eq_some_iff.mp e1
  have hny:own.contains y=false:=by
   cases hy:own.contains y with
   | false=>rfl
   | true =>
    exfalso
    have hh:=SC.hid y (List.mem_of_getElem? e1) hy
    have ex:x=d2w y:=by rw [← ey]; unfold a8e; rw [if_pos hy]
    rw [← ex] at hh
    have e4:(relabel scope X.env).names.lookup x=none:=a9k hh
    rcases e3 with z | z | z <;> (rw [e4] at z; cases z)
  have ex:x=y:=by rw [← ey]; unfold a8e; rw [if_neg (by rw [hny]; exact Γk)]
  rw [← ex] at e1 hny
  have hnl:(relabel scope X.env).names.lookup x≠some .local:=fun z=>(SC.apart x (List.mem_of_getElem? e1) hny).1 (a4e z)
  have hv:(relabel scope X.env).names.lookup x=some .cell ∨ (relabel scope X.env).names.lookup x=some .free:=by
   rcases e3 with z | z | z
   ·exact absurd z hnl
   ·exact .inl z
   ·exact .inr z
  have hfr:scope.names.lookup x=some .free:=(a2w hv).resolve_left (SC.apart x (List.mem_of_getElem? e1) hny).2
  have hm:=a6x hfr
  have hkx:=SC.free (x,.free) hm rfl
  obtain ⟨m,hn,hl⟩:=I.loc
  have hkx':X.env.scope.names.lookup x=some .cell ∨ X.env.scope.names.lookup x=some .free:=hkx
  obtain ⟨u,r,l⟩:=hl i x v e1 e2 (hkx'.elim (fun z=>.inr (.inl z)) fun z=>.inr (.inr z))
  refine ⟨u,r,.inr ⟨hv,?_⟩⟩
  obtain ⟨c,hcl⟩:=hasC (.inr hfr)
  refine ⟨c,hcl,?_⟩
  rcases l with ⟨z,_⟩ | ⟨z,c',hc',q⟩
  ·rcases hkx with y | y <;> (rw [z] at y; cases y)
  ·rcases cl hcl with y | y
   ·have:=SC.nocell _ (a3a _ _ y.1) rfl
    rw [hfr] at this; cases this
   ·rw [hc'] at y; cases y
    obtain ⟨o,ho,hd⟩:=q
    exact ⟨o,hk _ _ ho,hd⟩
 ·rcases cl h with z | z
  ·exact ⟨_,(ok.empty _ _ z.1).1⟩
  obtain ⟨v,o,ho,hd⟩:=I.cell x c z
  exact ⟨v,o,hk _ _ ho,hd⟩
 ·show (σ++Γj own.length none).length=(X.N.map (a8e own)++own).length
  rw [List.length_append,List.length_append,List.length_map,List.length_replicate,I.len]
end
def b1e (ifs:List Expr) (env:Env):Sem Bool :=
 forIn ifs true fun c r=>if r=true then do let ok ← isTrue c env (eval c env); pure (ForInStep.yield ok) else pure (ForInStep.yield r)
def PTs (X:Cx) (ifs:List Expr) (t:TT):Prop :=
 ∀ (pins:List (Addr×Obj)) (s:Shared) (σ:St) (H:Hp) (Q:Bool→Hp→Prop),Inv X pins σ H s→t σ H Q→wpAny (model X.prog X.w) X.A (b1e ifs X.env) (TP X pins σ Q) X.xe s
theorem a5j {M:Model} {A:Around} {E:Value→Shared→Prop} {env:Env} {Q:Bool→Shared→Prop} {s:Shared} (h:Q false s):∀ ifs:List Expr,
  wpAny M A (forIn ifs false fun c r=>if r=true then do let ok ← isTrue c env (eval c env); pure (ForInStep.yield ok) else pure (ForInStep.yield r)) Q E s
 | []=>Γb h
 | c :: r=>by
  rw [List.forIn_cons]
  simp only [Γp,if_false]
  exact Γa (Γb (a5j h r))
section
variable {X:Cx}
def d3x:TT:=fun _ H Q=>Q true H
theorem b6h:PTs X [] d3x:=fun _ _ _ H _ I h=>Γb ⟨H,I,h⟩
theorem c0m {c:Expr} {r:List Expr} {t u:TT} (h1:PT X c t) (h2:PTs X r u):PTs X (c :: r) (fun σ H Q=>t σ H fun b H1=>if b=true then u σ H1 Q else Q false H1):=by
 intro pins s σ H Q I h
 unfold b1e
 rw [List.forIn_cons]
 simp only [if_true]
 refine Γa (Γa (thn (h1 pins s σ H _ I h) fun b s1 ⟨H1,I1,q1⟩=>Γb ?_))
 cases b with
 | true =>
  rw [if_pos rfl] at q1
  exact h2 pins s1 σ H1 Q I1 q1
 | false =>
  rw [if_neg Γk] at q1
  exact a5j ⟨H1,I1,q1⟩ r
end
section
variable {prog:Program} {w:World} {A:Around} {R:Result→Shared→Prop} {s:Shared}
theorem b4y {elt target iter:Expr} {ifs:List Expr} {scope:Scope} {pos:Pos} {it acc:Value} {env:Env} (I:Nat→Shared→Prop)
  (turn:∀ n s,I n s→wpAny (model prog w) A (pyNext it) (fun r s1=>match r with
   | none=>R (.ok .next) s1
   | some v=>wpAny (model prog w) A (letOwnedTupleGo target it v) (fun _ s2=>wpAny (model prog w) A (assign target env v) (fun _ s3=>wpAny (model prog w) A (b1e ifs env) (fun ok s4 =>
     if ok=true then wpAny (model prog w) A (eval elt env) (fun x s5=>wpAny (model prog w) A (call (.builtin "list.append") [acc,x]) (fun _ s6=>∃ m,m < n∧I m s6) (fun _ _=>False) s5) (fun _ _=>False) s4
     else ∃ m,m < n∧I m s4) (fun _ _=>False) s3) (fun _ _=>False) s2) (fun _ _=>False) s1) (fun _ _=>False) s)
  (n:Nat) (h:I n s):codeAny (model prog w) A (.compLoop (.ListComp elt [⟨target,iter,ifs,0⟩] scope pos) 0 it acc env) R s:=by
 refine codeAny_loop rfl I (fun n s hI=>?_) n h
 show wpAny _ A ((compTurn (.ListComp elt [⟨target,iter,ifs,0⟩] scope pos) 0 it acc env).onRaise (fun x=>do noteFrame x env; theTreesLotGoes x)) _ _ s
 refine wpAny_noted ?_
 rw [compTurn_list]
 have no:∀ (e:Value) (s':Shared),(fun (_:Value) (_:Shared)=>False) e s'→notedBy (model prog w) A env (fun e s'=>R (.error e) s') e s':=fun _ _ z=>z.elim
 refine Γa (wpAny_standAt (Γa (wpAny_mono (turn n s hI) (fun r s1 h1=>?_) no)))
 cases r with
 | none=>exact Γb h1
 | some v =>
  refine Γa (wpAny_mono h1 (fun _ s2 h2=>Γa (wpAny_mono h2 (fun _ s3 h3=>Γa (wpAny_mono h3 (fun ok s4 h4=>?_) no)) no)) no)
  cases ok with
  | true =>
   rw [if_pos rfl] at h4
   simp only [if_true]
   exact Γa (Γa (wpAny_mono h4 (fun x s5 h5=>Γa (wpAny_mono h5 (fun _ s6 h6=>Γb (Γb ⟨rfl,h6⟩)) no)) no))
  | false =>
   rw [if_neg Γk] at h4
   simp only [Γp,if_false]
   first
    | exact Γb ⟨rfl,h4⟩
    | exact Γa (Γb (Γb ⟨rfl,h4⟩))
end
def Wk (σ σ2:St):Prop:=σ2.length=σ.length∧∀ (j:Nat) (v:V),σ[j]?=some (some v)→σ2[j]?=some (some v)
def c4d (wi:TI) (g:TG) (tt:TT) (te:TE) (own:Nat):TE:=fun σ H Q=>wi σ H fun J H1=>∀ acc,H1 acc=none→∃ W:Nat→Nat→Hp→Prop,(∃ m,W 0 m (upd H1 acc (.lst [])))∧∀ i m H,W i m H →
 (J.stop i H∧Q (.ref acc) H) ∨ (J.go i H∧∀ x H',J.yld i H x H'→g x (σ++Γj own none) H' fun σ2 H2=>Wk (σ++Γj own none) σ2∧tt σ2 H2 fun b H3 =>
  if b=true then te σ2 H3 fun v H4=>∃ ys,H4 acc=some (.lst ys)∧ys.length < sizeLine∧∃ m',m' < m∧W (i + 1) m' (upd H4 acc (.lst (ys++[v]))) else ∃ m',m' < m∧W (i + 1) m' H3)
section
variable {X:Cx} {elt tg iter:Expr} {ifs:List Expr} {scope:Scope} {own:List Str} {pos:Pos} {wi:TI} {g:TG} {tt:TT} {te:TE}
theorem b3n {pins:List (Addr×Obj)} {σ:St} {H2:Hp} {s2:Shared} {Q:VK} {it:Addr} {fp:List Addr} {tn:Nat→Heap→Prop} {J:It} {RR:Value→Addr→Result→Shared→Prop}
  (hc:X.calm=true) (SC:CScope X scope own)
  (hblock:∀ C s H,PG (cxC X scope own fp C s H) tg g∧PTs (cxC X scope own fp C s H) ifs tt∧PE (cxC X scope own fp C s H) elt te)
  (I2:Inv X pins σ H2 s2) (T:Turn X.prog X.w X.K tg J fp it tn) (st2:tn 0 s2.heap) (f2:∀ b∈fp,b3t X pins H2 b)
  (h:∀ acc,H2 acc=none→∃ W:Nat→Nat→Hp→Prop,(∃ m,W 0 m (upd H2 acc (.lst [])))∧∀ i m H,W i m H →
   (J.stop i H∧Q (.ref acc) H) ∨ (J.go i H∧∀ x H',J.yld i H x H'→g x (σ++Γj own.length none) H' fun σ2 H2=>Wk (σ++Γj own.length none) σ2∧tt σ2 H2 fun b H3 =>
    if b=true then te σ2 H3 fun v H4=>∃ ys,H4 acc=some (.lst ys)∧ys.length < sizeLine∧∃ m',m' < m∧W (i + 1) m' (upd H4 acc (.lst (ys++[v]))) else ∃ m',m' < m∧W (i + 1) m' H3))
  (hRR:∀ acc C H' m s',Inv X pins σ H' s'→s'.heap.Ns C m→C≠X.env.locals→(∀ x c,X.env.cells.lookup x=some c→c≠C)→s2.heap.objs.size≤C→H' C=none→Q (.ref acc) H'→RR (.ref acc) C (.ok .next) s') {E:Value→Shared→Prop} :
  wpAny (model X.prog X.w) X.A (newList []) (fun acc s3=>wpAny (model X.prog X.w) X.A (newFunctionEnv scope X.env.globals (b0x X.env.cells scope.names []) [] X.env.qual none .none (some X.env)) (fun cenv s4 =>
   codeAny (model X.prog X.w) X.A (.compStart (.ListComp elt [⟨tg,iter,ifs,0⟩] scope pos) 0 (.ref it) acc { cenv with scope:=relabel scope X.env }) (RR acc cenv.locals) s4) E s3) E s2:=by
 have hacc:=I2.fresh
 have I3:Inv X pins σ (upd H2 s2.heap.objs.size (.lst [])) { s2 with heap:=s2.heap.push { cls:=.type "list",data:=.seq ([]:List Value).toArray },toks:=s2.toks }:=I2.lnew .nil (Nat.zero_le _)
 refine wpAny_newObj_type ?_
 obtain ⟨W,⟨m0,w0⟩,turn⟩:=h _ hacc
 generalize hs3:({ s2 with heap:=s2.heap.push { cls:=.type "list",data:=.seq ([]:List Value).toArray },toks:=s2.toks }:Shared)=s3 at I3
 have keep23:∀ b o,s2.heap.get? b=some o→s3.heap.get? b=some o:=fun b o e=>by rw [← hs3]; exact Γc _ e
 have hf3:∀ b∈fp,b3t X pins (upd H2 s2.heap.objs.size (.lst [])) b:=fun b hb=>by
  obtain ⟨o,ho,_⟩:=T.obj _ _ st2 b hb
  exact ⟨by rw [a0f (Γo (Γl ho))]; exact (f2 b hb).1,(f2 b hb).2⟩
 have st3:tn 0 s3.heap:=T.keep _ _ _ st2 fun b hb o e=>keep23 b o e
 refine a9r fun h4 hns' keep34 ok34=>?_
 have I4:=c1m (t4:=s3.toks + ([]:List (Str×Value)).length) I3 SC hc hf3 (fun b hb=>by obtain ⟨o,ho,_⟩:=T.obj _ _ st3 b hb; exact ⟨o,ho⟩) hns' keep34 ok34
 have st4:tn 0 h4:=T.keep _ _ _ st3 fun b hb o e=>keep34 b o e
 obtain ⟨hg,ht,he⟩:=hblock s3.heap.objs.size s3 (upd H2 s2.heap.objs.size (.lst []))
 have e5:(cxC X scope own fp s3.heap.objs.size s3 (upd H2 s2.heap.objs.size (.lst []))).env=compEnvC scope (cellsFrom (s3.heap.objs.size + 1) scope.names (b0x X.env.cells scope.names [])) s3.heap.objs.size X.env:=rfl
 generalize hY:cxC X scope own fp s3.heap.objs.size s3 (upd H2 s2.heap.objs.size (.lst []))=Y at hg ht he I4 e5
 have fpY:∀ {H':Hp},(∀ b∈fp,H' b=none)→∀ b∈fp,b3t Y [] H' b:=fun hn b hb=>by
  obtain ⟨o,ho,_⟩:=T.obj _ _ st3 b hb
  refine ⟨hn b hb,?_,?_,?_,?_,?_⟩
  ·rw [← hY]; exact Γo (Γl ho)
  ·have:=I4.ok.exfs b (by rw [← hY]; exact hb)
   exact this
  ·exact .inl (by rw [← hY]; exact hb)
  ·exact fun x c h=>(I4.ok.exf b (by rw [← hY]; exact hb)).2 x c h
  ·intro p hp; rw [← hY] at hp; exact absurd (show p∈([]:List (Addr×Obj)) from hp) (by simp)
 have hYp:Y.prog=X.prog∧Y.w=X.w∧Y.K=X.K∧Y.calm=true∧Y.A=X.A∧Y.xe=(fun _ _=>False)∧Y.s₀=s3∧Y.H₀=upd H2 s2.heap.objs.size (.lst [])∧Y.outer=X.stack∧Y.ex=fp:=by rw [← hY]; exact ⟨rfl,rfl,rfl,hc,rfl,rfl,rfl,rfl,rfl,rfl⟩
 obtain ⟨y1,y2,y3,y4,y5,y6,y7,y8,y9,y10⟩:=hYp
 have loop:∀ s5:Shared,s5 = { s3 with heap:=h4,toks:=s3.toks + ([]:List (Str×Value)).length } →
   codeAny (model X.prog X.w) X.A (.compLoop (.ListComp elt [⟨tg,iter,ifs,0⟩] scope pos) 0 (.ref it) (.ref s2.heap.objs.size) Y.env) (RR (.ref s2.heap.objs.size) s3.heap.objs.size) s5:=by
  rintro s5 rfl
  refine b4y (fun n s'=>∃ i H',Inv Y [] (σ++Γj own.length none) H' s'∧tn i s'.heap∧(∀ b∈fp,H' b=none)∧W i n H') ?_ m0 ⟨0,_,I4,st4,fun b hb=>(hf3 b hb).1,w0⟩
  rintro n s6 ⟨i,H6,I6,st6,fr6,w6⟩
  rcases turn i n H6 w6 with ⟨stop,q⟩ | ⟨go,step⟩
  ·have d:=T.done Y y1 y2 y3 y4 i [] s6 _ H6 (fun _ _=>False) I6 (fpY fr6) st6 stop
   rw [y5] at d
   refine thn d fun r s7 ⟨hr,I7⟩=>?_
   subst hr
   obtain ⟨m,hn,_⟩:=I7.loc
   have hL:Y.env.locals=s3.heap.objs.size:=by rw [e5]; rfl
   rw [hL] at hn
   have b7:=I7.base
   rw [y7,y8,y10] at b7
   have b7':Un (frs X.stack) fp (upd H2 s2.heap.objs.size (.lst [])) H6 s3.heap s7.heap:=by
    have z:Y.fs=frs X.stack:=by show frs Y.outer=_; rw [y9]
    rw [z] at b7
    exact b7
   have hok7:=I7.hok
   rw [y1,y2] at hok7
   have os7:=I7.os
   rw [y7] at os7
   have I8:Inv X pins σ H6 s7:=I3.call' os7 b7' hok7 I7.bare fun b hb=>⟨(hf3 b hb).2.2.2.1,(hf3 b hb).2.1,(hf3 b hb).2.2.2.2.1,(hf3 b hb).2.2.2.2.2⟩
   have hfree:=I7.free
   rw [hL] at hfree
   refine hRR _ _ H6 m s7 I8 hn (Nat.ne_of_gt I3.lt) (fun x c h z=>?_) ?_ hfree q
   ·obtain ⟨v,y⟩:=I3.cell x c h
    exact absurd y.lt (by rw [z]; exact Nat.lt_irrefl _)
   ·rw [← hs3,Heap.size_push]; exact Nat.le_succ _
  ·have d:=T.item Y y1 y2 y3 y4 i [] s6 _ H6 (fun _ _=>False) I6 (fpY fr6) st6 go
   rw [y5] at d
   refine thn d fun r s7 ⟨u,hr,h7⟩=>?_
   subst hr
   refine thn h7 fun _ s8 ⟨x,H8,I8,r8,y8',st8,fr8⟩=>?_
   have I8':=I8.pinned (fpY fr8) (T.obj _ _ st8)
   have pinK:∀ {σ':St} {H':Hp} {s':Shared},Inv Y ([]++a9n fp s8.heap) σ' H' s'→tn (i + 1) s'.heap∧∀ b∈fp,H' b=none:=fun {σ' H' s'} I' =>
    ⟨T.keep _ _ _ st8 fun b hb o e=>(I'.pin (b,o) (List.mem_append_right _ (List.mem_append_right _ (a3e hb e)))).1,fun b hb=>by
     obtain ⟨o,e,_⟩:=T.obj _ _ st8 b hb
     exact (I'.pin (b,o) (List.mem_append_right _ (List.mem_append_right _ (a3e hb e)))).2.1⟩
   have dg:=hg _ s8 _ H8 x u _ I8' r8 (step x H8 y8')
   rw [y1,y2,y5,y6] at dg
   refine thn dg fun _ s9 ⟨σ9,H9,I9,wk,q9⟩=>?_
   have dt:=ht _ s9 σ9 H9 _ I9 q9
   rw [y1,y2,y5,y6] at dt
   refine thn dt fun ok s10 ⟨H10,I10,q10⟩=>?_
   cases ok with
   | true =>
    rw [if_pos rfl] at q10 ⊢
    have de:=he _ s10 σ9 H10 _ I10 q10
    rw [y1,y2,y5,y6] at de
    refine thn de fun y s11 ⟨v11,H11,I11,r11,ys,hys,hz,m',hm,w11⟩=>?_
    have da:=a9s (X:=Y) _ s11 σ9 H11 (.ref s2.heap.objs.size) [v11] (.ref s2.heap.objs.size) [y] (fun _ H'=>H'=upd H11 s2.heap.objs.size (.lst (ys++[v11]))) I11 rfl (.cons r11 .nil) ⟨_,ys,v11,rfl,rfl,hys,hz,rfl⟩
    rw [y1,y2,y5,y6] at da
    refine thn da fun _ s12 ⟨v12,H12,I12,r12,e12⟩=>?_
    subst e12
    obtain ⟨t12,f12⟩:=pinK I12
    exact ⟨m',hm,i + 1,_,(I12.unpinned).weak wk.1.symm wk.2,t12,f12,w11⟩
   | false =>
    rw [if_neg Γk] at q10 ⊢
    obtain ⟨m',hm,w10⟩:=q10
    obtain ⟨t10,f10⟩:=pinK I10
    exact ⟨m',hm,i + 1,_,(I10.unpinned).weak wk.1.symm wk.2,t10,f10,w10⟩
 rw [e5] at loop
 exact codeAny_compStart_list (loop _ rfl) (T.self _ 0 _ _ _ st4 (loop _ rfl))
theorem b6t (hc:X.calm=true) (SC:CScope X scope own) (hi:PI X.nox tg iter wi)
  (hblock:∀ fp C s H,PG (cxC X scope own fp C s H) tg g∧PTs (cxC X scope own fp C s H) ifs tt∧PE (cxC X scope own fp C s H) elt te)
  (hs:∀ x,foldedSetIterable iter X.env x=pure x:=by intro _; rfl) :
  PE X.nox (.ListComp elt [⟨tg,iter,ifs,0⟩] scope pos) (c4d wi g tt te own.length):=by
 intro pins s σ H Q I h
 have fr:∀ p∈scope.names,p.2=.free→∃ c,X.env.cells.lookup p.1=some c:=fun p hp hq=>I.ok.has p.1 (SC.free p hp hq)
 rw [eval_ListComp]
 refine wpAny_comprehension_free (use:=none) rfl hs (a7f fr) SC.kind SC.names (thn (hi pins s σ H _ I h) fun v s1 h1=>thn h1 fun itv s2 h2=>?_)
 obtain ⟨it,fp,tn,J,H2,e,I2,T,st2,f2,h2⟩:=h2
 subst e
 refine b3n (X:=X.nox) (own:=own) (RR:=fun acc C=>compPost (model X.prog X.w) X.A (fun _ _=>False) none (EP X.nox pins σ Q) acc C) hc ⟨SC.kind,SC.nocell,SC.names,SC.free,SC.apart,SC.hid⟩ (fun C s H=>hblock fp C s H) I2 T st2 f2 h2 ?_
 intro acc C H' m s' I' hn hL hcl hC hH q
 obtain ⟨f0,f1,f2',f3,f4,f5⟩:=I2.fpOk hC hH
 refine ⟨m,hn,fun h' hsb=>⟨.ref acc,H',?_,rfl,q⟩⟩
 exact I'.turned (t':=s'.toks) (fun b o hb e=>(hsb.2 b hb).trans e) f0 f1 f3 f4 f5
theorem b4d {i:Nat} {x:Str} {px:Pos} {spos:Pos} (hc:X.calm=true) (SC:CScope X scope own) (hN:X.N.Nodup) (hx:X.N[i]?=some x) (hl:X.env.scope.names.lookup x=some .local) (hi:PI X.nox tg iter wi)
  (hblock:∀ fp C s H,PG (cxC X scope own fp C s H) tg g∧PTs (cxC X scope own fp C s H) ifs tt∧PE (cxC X scope own fp C s H) elt te)
  (hsw:swapsWith (.ListComp elt [⟨tg,iter,ifs,0⟩] scope pos) (some (.Name x px)) spos.line X.env=pure true)
  (hs:∀ x,foldedSetIterable iter X.env x=pure x:=by intro _; rfl) :
  PS X.nox (.Assign [.Name x px] (.ListComp elt [⟨tg,iter,ifs,0⟩] scope pos) spos) (c2t (c4d wi g tt te own.length) (a5u i)):=by
 intro pins s σ H D I h
 have fr:∀ p∈scope.names,p.2=.free→∃ c,X.env.cells.lookup p.1=some c:=fun p hp hq=>I.ok.has p.1 (SC.free p hp hq)
 show wpAny (model X.prog X.w) X.A (exec _ X.env) _ _ s
 rw [exec_Assign_Name_used _ _ _ _ hsw]
 refine Γa (wpAny_standAt (Γa ?_))
 show wpAny _ X.A (do let _ ← comprehension (.ListComp elt [⟨tg,iter,ifs,0⟩] scope pos) scope X.env _ (newList []) false (eval iter X.env) (some (assign (.Name x px) X.env))) _ _ s
 refine Γa (wpAny_mono (wpAny_comprehension_free (use:=some (assign (.Name x px) X.env)) (Q:=fun _ s'=>SP X.nox pins D .next s') rfl hs (a7f fr) SC.kind SC.names
  (thn (hi pins s σ H _ I h) fun v s1 h1=>thn h1 fun itv s2 h2=>?_)) (fun _ s' hq=>Γb (Γb hq)) fun _ _ e=>e)
 obtain ⟨it,fp,tn,J,H2,e,I2,T,st2,f2,h2⟩:=h2
 subst e
 refine b3n (X:=X.nox) (own:=own) (Q:=fun v H1=>a5u i v σ H1 D.nx) (RR:=fun acc C=>compPost (model X.prog X.w) X.A (fun _ _=>False) (some (assign (.Name x px) X.env)) (fun _ s'=>SP X.nox pins D .next s') acc C) hc ⟨SC.kind,SC.nocell,SC.names,SC.free,SC.apart,SC.hid⟩ (fun C s H=>hblock fp C s H) I2 T st2 f2 h2 ?_
 intro acc C H' m s' I' hn hL hcl hC hH q
 obtain ⟨f0,f1,f2',f3,f4,f5⟩:=I2.fpOk hC hH
 show wpAny (model X.prog X.w) X.A (assign (.Name x px) X.env (.ref acc)) _ _ s'
 refine wpAny_assign_Name (a9i (X:=X.nox) I' hN hx (.inl hl) (v:=.ref acc) rfl (fun s'' I'' hch=>?_) (.inr hl))
 obtain ⟨a,hsa,ha⟩:=hch
 have hCa:C≠a:=by
  rcases ha with z | z
  ·rw [z]; exact hL
  ·exact fun y=>hcl x a z y.symm
 refine ⟨m,hn.sameBut hsa hCa,fun h' hsb=>?_⟩
 exact ⟨_,H',I''.turned (t':=s''.toks) (fun b o hb e=>(hsb.2 b hb).trans e) f0 f1 f3 f4 f5,q⟩
end
end L2
end
section
namespace L2
open PySem PySem.Spec PyProof.Rows
section
variable {X:Cx} {pins:List (Addr×Obj)} {σ:St} {H:Hp} {s:Shared} {h':Heap}
theorem Inv.turnedNew {t':Nat} {ch:List Addr} {p:Addr} {o:HO} (I:Inv X pins σ H s) (hp:s.heap.objs.size≤p) (k:∀ b ob,b ∉ ch→s.heap.get? b=some ob→h'.get? b=some ob) (hf:∀ b∈ch,b3t X pins H b)
  (new:ObjOk X.prog X.w (upd H p o) h' p o):Inv X pins σ (upd H p o) { s with heap:=h',toks:=t' }:=by
 have hn:H p=none:=I.hok.fresh hp
 have nit:∀ b u,H b=some u→b ∉ ch:=fun b u e z=>by rw [(hf b z).1] at e; cases e
 have nep:∀ {b ob},s.heap.get? b=some ob→b≠p:=fun e=>Γo (Nat.lt_of_lt_of_le (Γl e) hp)
 refine I.step (g':=s.gens) (d':=s.drawn) (ch:=ch) (fun b hb=>⟨(hf b hb).2.2.2.1,(hf b hb).2.1,(hf b hb).2.2.2.2.1,(hf b hb).2.2.2.2.2⟩) (fun b ob _ _ hc e _=>k b ob hc e) (fun b ob _ _ hc e _=>⟨ob.slots,k b ob hc e⟩)
  (fun b ob hc e n=>by rw [a0f (nep e)]; exact n) (fun b ob hc e=>⟨ob,k b ob hc e⟩) (fun b xs e=>by rw [a0f (a0o e hn)]; exact e) (fun b u xs e=>by rw [a0f (a0o e hn)]; exact e)
  (fun b ps e=>⟨#[],by rw [a0f (a0o e hn),e]; simp⟩) (fun m hm=>?_) (fun b u e=>?_) I.bare
 ·obtain ⟨ob,es,ep,ho,r⟩:=hm
  exact ⟨ob,es,ep,k _ ob (fun z=>(hf _ z).2.1 rfl) ho,r⟩
 ·by_cases hb:b=p
  ·subst hb; rw [a0e] at e; cases e; exact new
  ·rw [a0f hb] at e
   refine (I.hok b u e).stay (fun c v hc q=>k c v ?_ q) (fun c q=>by rw [a0f (a0o q hn)]; exact q) fun c xs q=>by rw [a0f (a0o q hn)]; exact q
   rcases hc with z | z
   ·rw [z]; exact nit b u e
   ·exact nit c _ z
theorem Inv.turnedL {t':Nat} {ch:List Addr} (I:Inv X pins σ H s) (k:∀ b ob,b ∉ ch→s.heap.get? b=some ob→h'.get? b=some ob) (hf:∀ b∈ch,b3t X pins H b):Inv X pins σ H { s with heap:=h',toks:=t' }:=by
 have nit:∀ b u,H b=some u→b ∉ ch:=fun b u e z=>by rw [(hf b z).1] at e; cases e
 refine I.step (g':=s.gens) (d':=s.drawn) (ch:=ch) (fun b hb=>⟨(hf b hb).2.2.2.1,(hf b hb).2.1,(hf b hb).2.2.2.2.1,(hf b hb).2.2.2.2.2⟩) (fun b ob _ _ hc e _=>k b ob hc e) (fun b ob _ _ hc e _=>⟨ob.slots,k b ob hc e⟩)
  (fun _ _ _ _ n=>n) (fun b ob hc e=>⟨ob,k b ob hc e⟩) (fun _ _ e=>e) (fun _ _ _ e=>e) (fun b ps e=>⟨#[],by rw [e]; simp⟩) (fun m hm=>?_) (fun b u e=>?_) I.bare
 ·obtain ⟨ob,es,ep,ho,r⟩:=hm
  exact ⟨ob,es,ep,k _ ob (fun z=>(hf _ z).2.1 rfl) ho,r⟩
 ·refine (I.hok b u e).stay (fun c v hc q=>k c v ?_ q) (fun _ q=>q) fun _ _ q=>q
  rcases hc with z | z
  ·rw [z]; exact nit b u e
  ·exact nit c _ z
end
end L2
end
section
namespace L2
open PySem PySem.Spec PyProof.Rows
def SeqB (b:Bool) (h:Heap) (l:Addr) (xs:Array Value):Prop:=match b with | true=>h.IsList l xs | false=>h.IsTuple l xs
def IterB (b:Bool) (h:Heap) (it l:Addr) (i:Nat):Prop:=match b with | true=>h.IsListIter it l i | false=>h.IsTupleIter it l i
def a8o (b:Bool):String:=match b with | true=>"list_iterator" | false=>"tuple_iterator"
section
variable {b:Bool} {h h':Heap} {it l c:Addr} {i:Nat} {xs:Array Value}
theorem SeqB.move (x:SeqB b h l xs) (e:Heap.ExtBut c h h') (n:l≠c):SeqB b h' l xs:=by
 cases b
 ·exact Heap.IsTuple.extBut x e n
 ·exact Heap.IsList.extBut x e n
theorem SeqB.push {o:Obj} (x:SeqB b h l xs):SeqB b (h.push o) l xs:=by
 cases b
 ·exact Heap.IsTuple.push x o
 ·exact Heap.IsList.push x o
theorem SeqB.lt (x:SeqB b h l xs):l < h.objs.size:=by
 cases b <;> (obtain ⟨_,e,_⟩:=x; exact Γl e)
theorem IterB.move (x:IterB b h it l i) (e:Heap.ExtBut c h h') (n:it≠c):IterB b h' it l i:=by
 cases b
 ·exact Heap.IsTupleIter.extBut x e n
 ·exact Heap.IsListIter.extBut x e n
theorem IterB.to (x:IterB b h it l i) (k:∀ o,h.get? it=some o→h'.get? it=some o):IterB b h' it l i:=by
 cases b <;> (obtain ⟨o,e,r⟩:=x; exact ⟨o,k o e,r⟩)
theorem IterB.obj (x:IterB b h it l i):∃ o,h.get? it=some o∧∀ v,o.data≠.cell v:=by
 cases b <;> (obtain ⟨o,e,_,d⟩:=x; exact ⟨o,e,fun v z=>by rw [d] at z; cases z⟩)
theorem IterB.lt (x:IterB b h it l i):it < h.objs.size:=let ⟨_,e,_⟩:=x.obj; Γl e
end
section
variable {P:Program} {w:World} {A:Around} {E:Value→Shared→Prop} {s:Shared} {b:Bool} {it l:Addr} {i:Nat} {xs:Array Value} {Q:Value→Shared→Prop}
theorem d0k (x:SeqB b s.heap l xs) (q:Q (.ref s.heap.objs.size) { s with heap:=s.heap.push { cls:=.type (a8o b),data:=.fields #[.ref l,.int 0 0] } }):wpAny (model P w) A (pyIter (.ref l)) Q E s:=by
 cases b
 ·exact wpAny_pyIter_tuple x q
 ·exact wpAny_pyIter_list x q
theorem d5z {x:Value} (hi:s.heap.IsTupleIter it l i) (hl:s.heap.IsTuple l xs) (hx:xs[i]?=some x) (q:∀ h',h'.IsTupleIter it l (i + 1)→Heap.SameBut it s.heap h'→Q x { s with heap:=h' }):wpAny (model P w) A (Builtin.SmallTypes.nextOf (.ref it)) Q E s:=by
 obtain ⟨oi,ei,ci,di⟩:=id hi
 obtain ⟨os,es,_,ns,ds⟩:=hl
 unfold Builtin.SmallTypes.nextOf
 refine Γa (wpAny_callSpecial?_slot (name:=Γe "__next__") hi.typeIs F.slot_tuple_iterator_next (wpAny_call_entry F.slot_tuple_iterator_next hi.typeIs F.entry_tuple_iterator_next ?_ (F.args_tuple_iterator_next_1 _)))
 show wpAny _ _ (field (.ref it) 0 >>= _) _ _ s; refine Γa (wpAny_field ei di (x:=.ref l) rfl ?_)
 show wpAny _ _ (if (Value.ref l == Value.none)=true then _ else _) _ _ s; rw [if_neg (show ¬ ((Value.ref l == Value.none)=true) from Γk)]
 show wpAny _ _ (field (.ref it) 1 >>= _) _ _ s; refine Γa (wpAny_field ei di (x:=.int i 0) rfl ?_)
 show wpAny _ _ (seqItems? (.ref l) >>= _) _ _ s; refine Γa (wpAny_seqItems es ds ?_)
 simp only [Int.toNat_natCast,hx]
 refine Γa (wpAny_setField ei di (by simp) (Γb ⟨x,rfl,Γb (q _ ⟨_,Heap.get?_update_self _ ei (Obj.isFreed_of_fields (Obj.data_mapFields di _)),(Obj.cls_mapFields ..).trans ci,?_⟩ (Heap.SameBut.update ..))⟩))
 rw [Obj.data_mapFields di]; simp [rawInt]
theorem d4j (hh:A.handled=none) (hi:s.heap.IsTupleIter it l i) (hl:s.heap.IsTuple l xs) (hx:xs[i]?=none)
  (q:∀ h' e,Heap.ExtBut it s.heap h'→(∃ o,h'.get? e=some o∧o.cls=.type "StopIteration")→E (.ref e) { s with heap:=h' }):wpAny (model P w) A (Builtin.SmallTypes.nextOf (.ref it)) Q E s:=by
 obtain ⟨oi,ei,ci,di⟩:=id hi
 obtain ⟨os,es,_,ns,ds⟩:=hl
 unfold Builtin.SmallTypes.nextOf
 refine Γa (wpAny_callSpecial?_slot (name:=Γe "__next__") hi.typeIs F.slot_tuple_iterator_next (wpAny_call_entry F.slot_tuple_iterator_next hi.typeIs F.entry_tuple_iterator_next ?_ (F.args_tuple_iterator_next_1 _)))
 show wpAny _ _ (field (.ref it) 0 >>= _) _ _ s; refine Γa (wpAny_field ei di (x:=.ref l) rfl ?_)
 show wpAny _ _ (if (Value.ref l == Value.none)=true then _ else _) _ _ s; rw [if_neg (show ¬ ((Value.ref l == Value.none)=true) from Γk)]
 show wpAny _ _ (field (.ref it) 1 >>= _) _ _ s; refine Γa (wpAny_field ei di (x:=.int i 0) rfl ?_)
 show wpAny _ _ (seqItems? (.ref l) >>= _) _ _ s; refine Γa (wpAny_seqItems es ds ?_)
 simp only [Int.toNat_natCast,hx]
 refine Γa (wpAny_rule (Γa (wpAny_setField ei di (by simp) ?_))); show wpAny _ _ (newExc (.type "StopIteration") [] >>= _) _ _ _
 refine Γa ?_; simp only [newExc,newTuple]
 refine Γa (wpAny_newObj_type ?_ (by size_fits)); refine Γa (m:=firstArgMember _ _) (wpAny_of_eq (a:=Value.none) (by first | rfl | (simp only [firstArgMember]; rfl)) ?_)
 refine wpAny_newObj_type ?_ (by size_fits); simp only [raiseNew]; refine Γa (wpAny_handled ?_)
 first | rw [show A.in1.handled=none from hh] | rw [hh]
 exact Γa (Γb (wpAny_throw (q _ _ (((Heap.SameBut.update ..).extBut.push _).push _) ⟨_,Γm _ rfl,rfl⟩)))
theorem a8a {x:Value} (hi:IterB b s.heap it l i) (hl:SeqB b s.heap l xs) (hx:xs[i]?=some x) (q:∀ h',IterB b h' it l (i + 1)→Heap.SameBut it s.heap h'→Q x { s with heap:=h' }):wpAny (model P w) A (Builtin.SmallTypes.nextOf (.ref it)) Q E s:=by
 cases b
 ·exact d5z hi hl hx q
 ·exact wpAny_nextOf_list_item hi hl hx q
theorem b3z (hh:A.handled=none) (hi:IterB b s.heap it l i) (hl:SeqB b s.heap l xs) (hx:xs[i]?=none)
  (q:∀ h' e,Heap.ExtBut it s.heap h'→(∃ o,h'.get? e=some o∧o.cls=.type "StopIteration")→E (.ref e) { s with heap:=h' }):wpAny (model P w) A (Builtin.SmallTypes.nextOf (.ref it)) Q E s:=by
 cases b
 ·exact d4j hh hi hl hx q
 ·exact wpAny_nextOf_list_end hh hi hl hx q
end
section
variable {P:Program} {w:World} {A:Around} {E:Value→Shared→Prop} {s:Shared} {p q:Bool} {z TI TO i1 i2 l1 l2:Addr} {k1 k2:Nat} {xs ys:Array Value} {x y a b:Value}
theorem b5l {Q:Value→Shared→Prop} (D:ZipApart z TI TO i1 i2 l1 l2) (zz:IsZip s.heap z TI TO .none) (zi:IsPair s.heap TI (.ref i1) (.ref i2)) (zo:IsPair s.heap TO a b)
  (t1:IterB p s.heap i1 l1 k1) (t2:IterB q s.heap i2 l2 k2) (m1:SeqB p s.heap l1 xs) (m2:SeqB q s.heap l2 ys) (ex:xs[k1]?=some x) (ey:ys[k2]?=some y)
  (K:∀ h',IsZip h' z TI TO (rawInt s.heap.objs.size)→IsPair h' TO x y→IterB p h' i1 l1 (k1 + 1)→IterB q h' i2 l2 (k2 + 1)→IsPair h' s.heap.objs.size x y →
   (∀ c o,c≠z→c≠TO→c≠i1→c≠i2→s.heap.get? c=some o→h'.get? c=some o)→Q (.ref s.heap.objs.size) { s with heap:=h' }) :
  wpAny (model P w) A (Builtin.«zip.__next__» ⟨[.ref z],[]⟩) (fun fin s'=>∃ v,fin=.done (.ret v)∧Q v s') E s:=by
 show wpAny _ _ (field (.ref z) 2 >>= _) _ _ _; refine Γa (wpAny_field zz rfl (x:=.bool false) rfl ?_)
 show wpAny _ _ (field (.ref z) 3 >>= _) _ _ _; refine Γa (wpAny_field zz rfl (x:=.ref TI) rfl (Γa (wpAny_seqItems zi rfl ?_)))
 show wpAny _ _ (Builtin.SmallTypes.ownedTupleIsFree (.ref z) >>= _) _ _ _; refine Γa ?_; unfold Builtin.SmallTypes.ownedTupleIsFree
 refine Γa (wpAny_field zz rfl (x:=.none) rfl (Γb ?_)); simp only [if_true]
 refine Γa (wpAny_rule (Γa (wpAny_field zz rfl (x:=.ref TO) rfl (Γa (wpAny_setField_rec zz (by simp) fun g1 z1 b1=>?_)))))
 replace z1:IsZip g1 z TI TO .ellipsis:=z1
 refine Γa ?_; simp only [List.zipIdx_cons,List.zipIdx_nil,List.forIn_cons,List.forIn_nil]
 refine Γa (Γa (wpAny_onRaise ?_)); show wpAny _ _ (Builtin.SmallTypes.nextOf (.ref i1) >>= _) _ _ _
 refine Γa (a8a (t1.move b1.extBut D.i1z) (m1.move b1.extBut D.l1z) ex fun g2 t12 b2=>Γb ?_)
 have o2:IsPair g2 TO a b:=b2.extBut _ _ D.TOi1 (b1.extBut _ _ D.TOz zo)
 refine Γa (wpAny_seqItems o2 rfl (Γa (wpAny_updateSeq_pair o2 fun g3 o3 b3=>?_)))
 replace o3:IsPair g3 TO x b:=o3
 refine Γa (wpAny_letGo (Γb (Γa (Γa (wpAny_onRaise ?_))))); show wpAny _ _ (Builtin.SmallTypes.nextOf (.ref i2) >>= _) _ _ _
 refine Γa (a8a (((t2.move b1.extBut D.i2z).move b2.extBut D.i12.symm).move b3.extBut D.TOi2.symm) (((m2.move b1.extBut D.l2z).move b2.extBut D.l2i1).move b3.extBut D.l2TO) ey fun g4 t24 b4=>Γb ?_)
 have o4:IsPair g4 TO x b:=b4.extBut _ _ D.TOi2 o3
 refine Γa (wpAny_seqItems o4 rfl (Γa (wpAny_updateSeq_pair o4 fun g5 o5 b5=>?_)))
 replace o5:IsPair g5 TO x y:=o5
 refine Γa (wpAny_letGo (Γb (Γb (Γa (wpAny_seqItems o5 rfl (Γa (wpAny_newTuple ?_)))))))
 have sz:g5.objs.size=s.heap.objs.size:=by rw [b5.1,b4.1,b3.1,b2.1,b1.1]
 have z5:IsZip g5 z TI TO .ellipsis:=b5.extBut _ _ D.TOz.symm (b4.extBut _ _ D.i2z.symm (b3.extBut _ _ D.TOz.symm (b2.extBut _ _ D.i1z.symm z1)))
 have kk:∀ c o,c≠z→c≠TO→c≠i1→c≠i2→s.heap.get? c=some o→g5.get? c=some o:=fun c o c1 c2 c3 c4 e=>b5.extBut _ _ c2 (b4.extBut _ _ c4 (b3.extBut _ _ c2 (b2.extBut _ _ c3 (b1.extBut _ _ c1 e))))
 have t15:IterB p g5 i1 l1 (k1 + 1):=((t12.move b3.extBut D.TOi1.symm).move b4.extBut D.i12).move b5.extBut D.TOi1.symm
 have t25:IterB q g5 i2 l2 (k2 + 1):=t24.move b5.extBut D.TOi2.symm
 have zlt:z < g5.objs.size:=Γl z5
 show wpAny _ _ (Builtin.SmallTypes.ownedTupleHandOut (.ref z) (.ref g5.objs.size) >>= _) _ _ _; refine Γa ?_; unfold Builtin.SmallTypes.ownedTupleHandOut
 have z6:IsZip (g5.push { cls:=.type "tuple",data:=.seq #[x,y] }) z TI TO .ellipsis:=Γc _ z5
 refine Γa (wpAny_setField_rec z6 (by simp) fun g7 z7 b7=>?_); replace z7:IsZip g7 z TI TO (rawInt g5.objs.size):=z7
 refine wpAny_setField_rec z7 (by simp) fun g8 z8 b8=>?_; replace z8:IsZip g8 z TI TO (rawInt g5.objs.size):=z8
 have up:∀ c o,c≠z→g5.get? c=some o→g8.get? c=some o:=fun c o c1 e=>b8.extBut _ _ c1 (b7.extBut _ _ c1 (Γc _ e))
 have tt:IsPair g8 g5.objs.size x y:=b8.extBut _ _ (Nat.ne_of_gt zlt) (b7.extBut _ _ (Nat.ne_of_gt zlt) (Γm _ rfl))
 rw [sz] at z8 tt
 refine Γb ⟨_,rfl,?_⟩; show Q (.ref g5.objs.size) _; rw [sz]
 exact K g8 z8 (up _ _ D.TOz o5) (t15.to fun o e=>up _ o D.i1z e) (t25.to fun o e=>up _ o D.i2z e) tt fun c o c1 c2 c3 c4 e=>up c o c1 (kk c o c1 c2 c3 c4 e)
theorem c0a {Q:Fin→Shared→Prop} (hh:A.handled=none) (D:ZipApart z TI TO i1 i2 l1 l2) (zz:IsZip s.heap z TI TO .none) (zi:IsPair s.heap TI (.ref i1) (.ref i2)) (zo:IsPair s.heap TO a b)
  (t1:IterB p s.heap i1 l1 k1) (t2:IterB q s.heap i2 l2 k2) (m1:SeqB p s.heap l1 xs) (m2:SeqB q s.heap l2 ys) (en:xs[k1]?=none ∨ ys[k2]?=none)
  (K:∀ h' e,(∀ c o,c≠z→c≠TO→c≠i1→c≠i2→s.heap.get? c=some o→h'.get? c=some o)→(∃ o,h'.get? e=some o∧o.cls=.type "StopIteration")→E (.ref e) { s with heap:=h' }) :
  wpAny (model P w) A (Builtin.«zip.__next__» ⟨[.ref z],[]⟩) Q E s:=by
 show wpAny _ _ (field (.ref z) 2 >>= _) _ _ _; refine Γa (wpAny_field zz rfl (x:=.bool false) rfl ?_)
 show wpAny _ _ (field (.ref z) 3 >>= _) _ _ _; refine Γa (wpAny_field zz rfl (x:=.ref TI) rfl (Γa (wpAny_seqItems zi rfl ?_)))
 show wpAny _ _ (Builtin.SmallTypes.ownedTupleIsFree (.ref z) >>= _) _ _ _; refine Γa ?_; unfold Builtin.SmallTypes.ownedTupleIsFree
 refine Γa (wpAny_field zz rfl (x:=.none) rfl (Γb ?_)); simp only [if_true]
 refine Γa (wpAny_rule (Γa (wpAny_field zz rfl (x:=.ref TO) rfl (Γa (wpAny_setField_rec zz (by simp) fun g1 z1 b1=>?_)))))
 replace z1:IsZip g1 z TI TO .ellipsis:=z1
 refine Γa ?_; simp only [List.zipIdx_cons,List.zipIdx_nil,List.forIn_cons,List.forIn_nil]
 refine Γa (Γa (wpAny_onRaise ?_)); show wpAny _ _ (Builtin.SmallTypes.nextOf (.ref i1) >>= _) _ _ _
 have fin:∀ {g:Heap} {e:Addr} {o:Obj},IsZip g z TI TO .ellipsis→g.get? e=some o→o.cls=.type "StopIteration"→e≠z:=fun h1 h2 h3 x=>by subst x; rw [h1] at h2; cases h2; simp at h3
 cases hx:xs[k1]? with
 | none =>
  refine Γa (b3z hh (t1.move b1.extBut D.i1z) (m1.move b1.extBut D.l1z) hx fun g2 e b2 he=>?_)
  obtain ⟨oe,e1,e2⟩:=he
  have z2:IsZip g2 z TI TO .ellipsis:=b2 _ _ D.i1z.symm z1
  exact wpAny_setField_rec z2 (by simp) fun g3 _ b3=>K g3 e (fun c o c1 _ c3 _ x=>b3.extBut _ _ c1 (b2 _ _ c3 (b1.extBut _ _ c1 x))) ⟨oe,b3.extBut _ _ (fin z2 e1 e2) e1,e2⟩
 | some x =>
  have hy:ys[k2]?=none:=by rcases en with h | h; rw [hx] at h; cases h; exact h
  refine Γa (a8a (t1.move b1.extBut D.i1z) (m1.move b1.extBut D.l1z) hx fun g2 t12 b2=>Γb ?_)
  have o2:IsPair g2 TO a b:=b2.extBut _ _ D.TOi1 (b1.extBut _ _ D.TOz zo)
  refine Γa (wpAny_seqItems o2 rfl (Γa (wpAny_updateSeq_pair o2 fun g3 o3 b3=>Γa (wpAny_letGo (Γb (Γa (Γa (wpAny_onRaise ?_))))))))
  show wpAny _ _ (Builtin.SmallTypes.nextOf (.ref i2) >>= _) _ _ _
  refine Γa (b3z hh (((t2.move b1.extBut D.i2z).move b2.extBut D.i12.symm).move b3.extBut D.TOi2.symm) (((m2.move b1.extBut D.l2z).move b2.extBut D.l2i1).move b3.extBut D.l2TO) hy fun g4 e b4 he=>?_)
  obtain ⟨oe,e1,e2⟩:=he
  have z4:IsZip g4 z TI TO .ellipsis:=b4 _ _ D.i2z.symm (b3.extBut _ _ D.TOz.symm (b2.extBut _ _ D.i1z.symm z1))
  exact wpAny_setField_rec z4 (by simp) fun g5 _ b5=>K g5 e (fun c o c1 c2 c3 c4 x=>b5.extBut _ _ c1 (b4 _ _ c4 (b3.extBut _ _ c2 (b2.extBut _ _ c3 (b1.extBut _ _ c1 x))))) ⟨oe,b5.extBut _ _ (fin z4 e1 e2) e1,e2⟩
theorem b5k {Q:Option Value→Shared→Prop} (D:ZipApart z TI TO i1 i2 l1 l2) (zz:IsZip s.heap z TI TO .none) (zi:IsPair s.heap TI (.ref i1) (.ref i2)) (zo:IsPair s.heap TO a b)
  (t1:IterB p s.heap i1 l1 k1) (t2:IterB q s.heap i2 l2 k2) (m1:SeqB p s.heap l1 xs) (m2:SeqB q s.heap l2 ys) (ex:xs[k1]?=some x) (ey:ys[k2]?=some y)
  (K:∀ h',IsZip h' z TI TO (rawInt s.heap.objs.size)→IsPair h' TO x y→IterB p h' i1 l1 (k1 + 1)→IterB q h' i2 l2 (k2 + 1)→IsPair h' s.heap.objs.size x y →
   (∀ c o,c≠z→c≠TO→c≠i1→c≠i2→s.heap.get? c=some o→h'.get? c=some o)→Q (some (.ref s.heap.objs.size)) { s with heap:=h' }):wpAny (model P w) A (pyNext (.ref z)) Q E s:=by
 have ty:s.TypeIs (.ref z) "zip":=⟨_,zz,rfl⟩
 unfold pyNext
 exact Γa (wpAny_attempt (wpAny_callSpecial?_slot (name:=Γe "__next__") ty F.slot_zip_next (wpAny_call_entry F.slot_zip_next ty F.entry_zip_next (b5l D zz zi zo t1 t2 m1 m2 ex ey fun h' a1 a2 a3 a4 a5 a6=>Γb (K h' a1 a2 a3 a4 a5 a6)) (F.args_zip_next_1 _))))
theorem b5j {Q:Option Value→Shared→Prop} (hh:A.handled=none) (D:ZipApart z TI TO i1 i2 l1 l2) (zz:IsZip s.heap z TI TO .none) (zi:IsPair s.heap TI (.ref i1) (.ref i2)) (zo:IsPair s.heap TO a b)
  (t1:IterB p s.heap i1 l1 k1) (t2:IterB q s.heap i2 l2 k2) (m1:SeqB p s.heap l1 xs) (m2:SeqB q s.heap l2 ys) (en:xs[k1]?=none ∨ ys[k2]?=none)
  (K:∀ h',(∀ c o,c≠z→c≠TO→c≠i1→c≠i2→s.heap.get? c=some o→h'.get? c=some o)→Q none { s with heap:=h' }):wpAny (model P w) A (pyNext (.ref z)) Q E s:=by
 have ty:s.TypeIs (.ref z) "zip":=⟨_,zz,rfl⟩
 unfold pyNext
 refine Γa (wpAny_attempt (wpAny_callSpecial?_slot (name:=Γe "__next__") ty F.slot_zip_next (wpAny_call_entry F.slot_zip_next ty F.entry_zip_next (c0a hh D zz zi zo t1 t2 m1 m2 en fun h' e hk he=>?_) (F.args_zip_next_1 _))))
 obtain ⟨o,e1,e2⟩:=he
 exact Γa (wpAny_isInstance (T:="StopIteration") (b:=true) ⟨o,e1,e2⟩ isSubtype_stop (Γb (K _ hk)))
end
abbrev zb1 (p:Bool) (h:Heap) (l1:Addr):Heap:=h.push { cls:=.type (a8o p),data:=.fields #[.ref l1,.int 0 0] }
abbrev zb2 (p q:Bool) (h:Heap) (l1 l2:Addr):Heap:=(zb1 p h l1).push { cls:=.type (a8o q),data:=.fields #[.ref l2,.int 0 0] }
abbrev zb3 (p q:Bool) (h:Heap) (l1 l2:Addr):Heap:=(zb2 p q h l1 l2).push { cls:=.type "tuple",data:=.seq #[.ref h.objs.size,.ref (zb1 p h l1).objs.size] }
abbrev zb4 (p q:Bool) (h:Heap) (l1 l2:Addr):Heap:=(zb3 p q h l1 l2).push { cls:=.type "tuple",data:=.seq #[.none,.none] }
abbrev zb5 (p q:Bool) (h:Heap) (l1 l2:Addr):Heap:=(zb4 p q h l1 l2).push { cls:=.type "zip",data:=.fields #[.none,.bool false,.bool false,.ref (zb2 p q h l1 l2).objs.size,.ref (zb3 p q h l1 l2).objs.size] }
theorem b4k (p q:Bool) (l1 l2:Addr) (xs ys:Array Value) :
  Meets (Builtin.«zip.__new__» ⟨[.type "zip",.ref l1,.ref l2],[]⟩) (fun _ R s=>SeqB p s.heap l1 xs∧SeqB q s.heap l2 ys∧R (.ok (.ret (.ref (zb4 p q s.heap l1 l2).objs.size))) { s with heap:=zb5 p q s.heap l1 l2 }) :=
 .of_wp fun prog w A R s h=>by
  obtain ⟨hp,g,d,tk,os⟩:=s; obtain ⟨m1,m2,h⟩:=h
  have hsub:=sub_zip
  have M1:SeqB p (Shared.heap ⟨hp,g,d,tk,os⟩) l1 xs:=m1
  have M2:SeqB q (Shared.heap ⟨hp.push { cls:=.type (a8o p),data:=.fields #[.ref l1,.int 0 0] },g,d,tk,os⟩) l2 ys:=SeqB.push m2
  wp_walk using d0k M1,d0k M2
  exact ⟨_,rfl,h⟩
section
variable {P:Program} {w:World} {A:Around} {E:Value→Shared→Prop} {s:Shared}
theorem b0m {p q:Bool} {l1 l2:Addr} {xs ys:Array Value} {Q:Value→Shared→Prop} (m1:SeqB p s.heap l1 xs) (m2:SeqB q s.heap l2 ys)
  (K:∀ h',IsZip h' (s.heap.objs.size + 4) (s.heap.objs.size + 2) (s.heap.objs.size + 3) .none→IsPair h' (s.heap.objs.size + 2) (.ref s.heap.objs.size) (.ref (s.heap.objs.size + 1)) →
   IsPair h' (s.heap.objs.size + 3) .none .none→IterB p h' s.heap.objs.size l1 0→IterB q h' (s.heap.objs.size + 1) l2 0→(∀ c o,s.heap.get? c=some o→h'.get? c=some o)→Q (.ref (s.heap.objs.size + 4)) { s with heap:=h' }) :
  wpAny (model P w) A (call (.type "zip") [.ref l1,.ref l2]) Q E s:=by
 refine callType_new F.called_zip (by decide) (F.typeCall_zip_2 _ _) (F.newCall_zip_2 _ _) (fun obj=>F.args_object_init_3 obj _ _) F.entry_zip_new (b4k p q l1 l2 xs ys) ⟨m1,m2,?_⟩
 have z1:(zb1 p s.heap l1).objs.size=s.heap.objs.size + 1:=Heap.size_push ..
 have z2:(zb2 p q s.heap l1 l2).objs.size=s.heap.objs.size + 2:=by rw [Heap.size_push,z1]
 have z3:(zb3 p q s.heap l1 l2).objs.size=s.heap.objs.size + 3:=by rw [Heap.size_push,z2]
 have z4:(zb4 p q s.heap l1 l2).objs.size=s.heap.objs.size + 4:=by rw [Heap.size_push,z3]
 have f5:(zb5 p q s.heap l1 l2).get? (zb4 p q s.heap l1 l2).objs.size=some _:=Γm _ rfl
 have f4:(zb5 p q s.heap l1 l2).get? (zb3 p q s.heap l1 l2).objs.size=some _:=Γc _ (Γm _ rfl)
 have f3:(zb5 p q s.heap l1 l2).get? (zb2 p q s.heap l1 l2).objs.size=some _:=Γc _ (Γc _ (Γm _ rfl))
 have f2:(zb5 p q s.heap l1 l2).get? (zb1 p s.heap l1).objs.size=some _:=Γc _ (Γc _ (Γc _ (Γm _ rfl)))
 have f1:(zb5 p q s.heap l1 l2).get? s.heap.objs.size=some _:=Γc _ (Γc _ (Γc _ (Γc _ (Γm _ rfl))))
 show _∧_
 rw [z2,z3,z4] at f5; rw [z1,z2] at f3; rw [z3] at f4; rw [z1] at f2; rw [z4]
 refine ⟨⟨_,f5,rfl⟩,K _ f5 f3 f4 ?_ ?_ fun c o x=>Γc _ (Γc _ (Γc _ (Γc _ (Γc _ x))))⟩
 ·cases p <;> exact ⟨_,f1,rfl,rfl⟩
 ·cases q <;> exact ⟨_,f2,rfl,rfl⟩
end
end L2
end
section
namespace L2
open PySem PySem.Spec PyProof.Rows
open AutoSeq1 (wpAny_loadPart')
section
variable {P:Program} {w:World} {A:Around} {E:Value→Shared→Prop} {s:Shared} {p:Bool} {e it l:Addr} {i:Nat} {xs:Array Value} {x old:Value}
end
section
variable {P:Program} {w:World} {A:Around} {E:Value→Shared→Prop} {s:Shared}
end
def SqB (b:Bool) (K:Γd) (H:Hp) (a:Addr) (xs:List V):Prop:=match b with | true=>SqL K H a xs | false=>SqT K H a xs
section
variable {X:Cx} {pins:List (Addr×Obj)} {σ:St} {H:Hp} {s:Shared} {a:Addr} {xs ys:List V} {b:Bool}
theorem Inv.seqB (I:Inv X pins σ H s) (h:SqB b X.K H a xs):∃ its:List Value,Vals xs its∧SeqB b s.heap a its.toArray∧xs.length=its.length:=by
 cases b
 ·obtain ⟨its,r,q,_⟩:=I.tuple h
  exact ⟨its,r,q,r.length⟩
 ·obtain ⟨its,r,q,_⟩:=I.list h
  exact ⟨its,r,q.isList,r.length⟩
theorem Inv.seqB_inj (I:Inv X pins σ H s) (h:SqB b X.K H a xs) (h':SqB b X.K H a ys):xs=ys:=by
 cases b
 ·exact I.tuple_inj h h'
 ·exact I.list_inj h h'
end
def Iz2 (K : Γd) (p q : Bool) (a b : Addr) : It :=
  ⟨fun i H => ∃ xs ys x y, SqB p K H a xs ∧ SqB q K H b ys ∧ xs[i]? = some x ∧ ys[i]? = some y,
   fun i H v H' => ∃ c, H c = none ∧ v = .ref c ∧ ∀ xs ys x y, SqB p K H a xs → SqB q K H b ys → xs[i]? = some x → ys[i]? = some y → H' = upd H c (.tup [x, y]),
   fun i H => ∃ xs ys, SqB p K H a xs ∧ SqB q K H b ys ∧ (xs.length ≤ i ∨ ys.length ≤ i)⟩
theorem c4a {P:Program} {w:World} {K:Γd} {p q:Bool} {elts:List Expr} {k:Nat} {pos:Pos} {a b z TI TO i1 i2:Addr} (D:ZipApart z TI TO i1 i2 a b) :
  Turn P w K (.Tuple elts k pos) (Iz2 K p q a b) [z,TO,i1,i2,TI] z (fun i h=>IsZip h z TI TO .none∧IsPair h TI (.ref i1) (.ref i2)∧(∃ c d,IsPair h TO c d)∧IterB p h i1 a i∧IterB q h i2 b i) where
 mem:=by simp
 obj:=fun i h st c hc=>by
  obtain ⟨zz,zi,⟨x,y,zo⟩,t1,t2⟩:=st
  simp only [List.mem_cons,List.not_mem_nil,or_false] at hc
  rcases hc with rfl | rfl | rfl | rfl | rfl
  ·exact ⟨_,zz,fun v z=>by cases z⟩
  ·exact ⟨_,zo,fun v z=>by cases z⟩
  ·exact t1.obj
  ·exact t2.obj
  ·exact ⟨_,zi,fun v z=>by cases z⟩
 keep:=fun i h h' st kk=>by
  obtain ⟨zz,zi,⟨x,y,zo⟩,t1,t2⟩:=st
  exact ⟨kk z (by simp) _ zz,kk TI (by simp) _ zi,⟨x,y,kk TO (by simp) _ zo⟩,t1.to fun o e=>kk i1 (by simp) o e,t2.to fun o e=>kk i2 (by simp) o e⟩
 item:=by
  intro X hP hw hK hc i pins s σ H E I hf st hg
  subst hP hw hK
  obtain ⟨xs,ys,x,y,q1,q2,hx,hy⟩:=hg
  obtain ⟨zz,zi,⟨u0,v0,zo⟩,t1,t2⟩:=st
  obtain ⟨its,rv,m1,_⟩:=I.seqB q1
  obtain ⟨jts,rw',m2,_⟩:=I.seqB q2
  obtain ⟨u,hu,ru⟩:=rv.get hx
  obtain ⟨u',hu',ru'⟩:=rw'.get hy
  refine b5k D zz zi zo t1 t2 m1 m2 (x:=u) (y:=u') (by simpa using hu) (by simpa using hu') fun h' a1 a2 a3 a4 a5 hk=>?_
  refine ⟨_,rfl,wpAny_letOwnedTupleGo_zip a1 fun h'' z'' hs''=>?_⟩
  have szn:z≠s.heap.objs.size:=Γo (Γl zz)
  have T'':IsPair h'' s.heap.objs.size u u':=hs''.extBut _ _ (Ne.symm szn) a5
  have I1:Inv X pins σ (upd H s.heap.objs.size (.tup [x,y])) { s with heap:=h'' }:=I.turnedNew (t':=s.toks) (ch:=[z,TO,i1,i2]) (Γi _)
   (fun c ob hc e=>by simp only [List.mem_cons,List.not_mem_nil,or_false,not_or] at hc; exact hs''.extBut _ _ hc.1 (hk c ob hc.1 hc.2.1 hc.2.2.1 hc.2.2.2 e))
   (fun c hc=>hf c (by simp only [List.mem_cons,List.not_mem_nil,or_false] at hc ⊢; rcases hc with z | z | z | z <;> simp [z])) ⟨by show 2≤sizeLine; decide,[u,u'],.cons ru (.cons ru' .nil),⟨_,T'',rfl,_,rfl⟩⟩
  refine ⟨.ref s.heap.objs.size,_,I1,rfl,⟨_,I.fresh,rfl,fun xs' ys' x' y' r1 r2 hx' hy'=>?_⟩,⟨z'',hs''.extBut _ _ D.TIz (hk _ _ D.TIz D.TITO D.TIi1 D.TIi2 zi),⟨_,_,hs''.extBut _ _ D.TOz a2⟩,a3.move hs''.extBut D.i1z,a4.move hs''.extBut D.i2z⟩,fun c hc=>?_⟩
  ·have e1:=I.seqB_inj r1 q1
   have e2:=I.seqB_inj r2 q2
   subst e1 e2
   rw [hx] at hx'; rw [hy] at hy'; cases hx'; cases hy'; rfl
  ·have:c≠s.heap.objs.size:=by
    have hlt:c < s.heap.objs.size:=by
     simp only [List.mem_cons,List.not_mem_nil,or_false] at hc
     rcases hc with rfl | rfl | rfl | rfl | rfl
     ·exact Γl zz
     ·exact Γl zo
     ·exact t1.lt
     ·exact t2.lt
     ·exact Γl zi
    exact Γo hlt
   rw [a0f this]; exact (hf c hc).1
 done:=by
  intro X hP hw hK hc i pins s σ H E I hf st hg
  subst hP hw hK
  obtain ⟨xs,ys,q1,q2,hx⟩:=hg
  obtain ⟨zz,zi,⟨u0,v0,zo⟩,t1,t2⟩:=st
  obtain ⟨its,rv,m1,l1⟩:=I.seqB q1
  obtain ⟨jts,rw',m2,l2⟩:=I.seqB q2
  refine b5j (I.ok.hd hc) D zz zi zo t1 t2 m1 m2 (hx.elim (fun z=>.inl (by simp; lia)) fun z=>.inr (by simp; lia)) fun h' hk=>⟨rfl,?_⟩
  exact I.turnedL (t':=s.toks) (ch:=[z,TO,i1,i2]) (fun c ob hc e=>by simp only [List.mem_cons,List.not_mem_nil,or_false,not_or] at hc; exact hk c ob hc.1 hc.2.1 hc.2.2.1 hc.2.2.2 e)
   (fun c hc=>hf c (by simp only [List.mem_cons,List.not_mem_nil,or_false] at hc ⊢; rcases hc with z | z | z | z <;> simp [z]))
 self:=fun _ _ _ _ _ st h=>wpAny_pyIter_zip st.1 h
section
variable {X:Cx}
def iZ2 (K:Γd) (ta:TA):TI:=fun σ H R=>ta σ H fun vs H1=>∃ p q a b,vs=[.ref a,.ref b]∧(∃ xs,SqB p K H1 a xs)∧(∃ ys,SqB q K H1 b ys)∧R (Iz2 K p q a b) H1
theorem d5j {elts:List Expr} {k:Nat} {tp:Pos} {e1 e2:Expr} {ta:TA} {p pos:Pos} (hg:Gl X "zip") (hm:X.mg "zip" = none) (ha:PA X [e1,e2] ta)
  (hs:starEach [e1,e2] X.env=[(false,eval e1 X.env),(false,eval e2 X.env)]) (hs2:starEach [e2] X.env=[(false,eval e2 X.env)]):PI X (.Tuple elts k tp) (.Call (.Name "zip" p) [e1,e2] [] pos) (iZ2 X.K ta):=by
 intro pins s σ H R I h
 refine wpAny_Call_Name_kw (a2y I hg hm PyProof.Rows.boot_zip ?_ (by decide) (by decide))
 refine PyProof.Rows.callWith_type1 (thn (ha pos pins s σ H _ I h) fun us s1 ⟨vs,H1,I1,r1,q1⟩=>?_) (by rw [hs,hs2]) (by rw [hs2]; rfl)
 obtain ⟨p,q,a,b,e,⟨xs,hq1⟩,⟨ys,hq2⟩,kk⟩:=q1
 subst e
 obtain ⟨u1,u2,rfl,ra,rb⟩:=b3v r1
 cases ra; cases rb
 obtain ⟨its,rv,m1,_⟩:=I1.seqB hq1
 obtain ⟨jts,rw',m2,_⟩:=I1.seqB hq2
 refine b0m m1 m2 fun h' zz zi zo t1 t2 hk=>wpAny_pyIter_zip (f0:=.none) zz ?_
 have I2:Inv X pins σ H1 { s1 with heap:=h' }:=I1.kept (t':=s1.toks) fun c o e=>hk c o e
 refine ⟨_,_,_,Iz2 X.K p q a b,H1,rfl,I2,c4a (zipApart_new m1.lt m2.lt),⟨zz,zi,⟨_,_,zo⟩,t1,t2⟩,fun c hc=>?_,kk⟩
 have hge:s1.heap.objs.size≤c:=by
  simp only [List.mem_cons,List.not_mem_nil,or_false] at hc
  rcases hc with rfl | rfl | rfl | rfl | rfl <;> first | exact Γi _ | exact Nat.le_add_right _ _
 exact I1.fpOk hge (I1.hok.fresh hge)
end
end L2
end
section
namespace L2
open PySem PySem.Spec PyProof.Rows
section
variable {prog:Program} {w:World} {A:Around} {R:Result→Shared→Prop} {s:Shared}
end
section
variable {X:Cx} {kx vx tg iter:Expr} {ifs:List Expr} {scope:Scope} {own:List Str} {pos:Pos} {wi:TI} {g:TG} {tt:TT} {tk tv:TE}
end
end L2
end
section
namespace L2
open PySem PySem.Spec PyProof.Rows
section
variable {prog:Program} {w:World} {A:Around} {R:Result→Shared→Prop} {s:Shared}
end
def tIn (wi:TI) (g:TG) (tt:TT) (te:TE) (acc:Addr) (σ:St) (H:Hp) (R:St→Hp→Prop):Prop:=wi σ H fun J H1=>∃ W:Nat→Nat→St→Hp→Prop,(∃ m,W 0 m σ H1)∧∀ i m σ H,W i m σ H →
 (J.stop i H∧R σ H) ∨ (J.go i H∧∀ x H',J.yld i H x H'→g x σ H' fun σ2 H2=>tt σ2 H2 fun b H3 =>
  if b=true then te σ2 H3 fun v H4=>∃ ys,H4 acc=some (.lst ys)∧ys.length < sizeLine∧∃ m',m' < m∧W (i + 1) m' σ2 (upd H4 acc (.lst (ys++[v]))) else ∃ m',m' < m∧W (i + 1) m' σ2 H3)
def c7t (wi:TI) (g:TG) (tt:TT) (wi2:TI) (g2:TG) (tt2:TT) (te:TE) (own:Nat):TE:=fun σ H Q=>wi σ H fun J H1=>∀ acc,H1 acc=none→∃ W:Nat→Nat→Hp→Prop,(∃ m,W 0 m (upd H1 acc (.lst [])))∧∀ i m H,W i m H →
 (J.stop i H∧Q (.ref acc) H) ∨ (J.go i H∧∀ x H',J.yld i H x H'→g x (σ++Γj own none) H' fun σ2 H2=>Wk (σ++Γj own none) σ2∧tt σ2 H2 fun b H3 =>
  if b=true then tIn wi2 g2 tt2 te acc σ2 H3 fun σ3 H4=>Wk (σ++Γj own none) σ3∧∃ m',m' < m∧W (i + 1) m' H4 else ∃ m',m' < m∧W (i + 1) m' H3)
section
variable {X:Cx} {elt tg iter tg2 iter2:Expr} {ifs ifs2:List Expr} {scope:Scope} {own:List Str} {pos:Pos} {wi wi2:TI} {g g2:TG} {tt tt2:TT} {te:TE}
end
end L2
end
section
namespace Kq
open PySem PySem.Spec PyProof.Rows L2
inductive D where
 | non | bl (b:Bool) | int (i:Int) | str (x:String) | tup (xs:List D) | lst (xs:List D)
mutual
noncomputable def D.eqv:D→D→Bool
 | .non,.non=>true
 | .bl a,.bl b=>a == b
 | .bl a,.int j=>(if a then 1 else 0) == j
 | .int i,.bl b=>i == (if b then 1 else 0)
 | .int a,.int b=>a == b
 | .str a,.str b=>a == b
 | .tup a,.tup b=>D.eqvs a b
 | .lst a,.lst b=>D.eqvs a b
 | _,_=>false
noncomputable def D.eqvs:List D→List D→Bool
 | [],[]=>true
 | a :: r,b :: q=>D.eqv a b && D.eqvs r q
 | _,_=>false
end
mutual
noncomputable def D.wt:D→Nat
 | .non=>0 | .bl _=>0
 | .int i=>if -(2 ^ 40) < i∧i < 2 ^ 40 then 41 else 151
 | .str x=>x.length
 | .tup xs=>D.wts xs
 | .lst xs=>D.wts xs
noncomputable def D.wts:List D→Nat
 | []=>0
 | a :: r=>D.wt a + 1 + D.wts r
end
mutual
noncomputable def D.fit:D→Bool
 | .int i=>decide (-(2 ^ 150) < i∧i < 2 ^ 150)
 | .tup xs=>D.fits xs
 | .lst xs=>D.fits xs
 | _=>true
noncomputable def D.fits:List D→Bool
 | []=>true
 | a :: r=>D.fit a && D.fits r
end
inductive FV where
 | non | bl (b:Bool) | int (i:Int) | str (x:String) | tup (xs:List FV) | lst (xs:List FV)
 | scr (ns:List Int)
 | shn (d:D)
 | dct (ks:List (List Int)) (vs:List FV)
 | dci (ks:List Int) (vs:List FV)
 | dcz (o:Obj) (ks:List (List Int)) (vs:List FV)
noncomputable def big:Nat:=100000
inductive Mo where | imm | own | frz
 deriving DecidableEq
abbrev Md:=List Mo
abbrev a0a:=List (Option FV)
noncomputable def a0k:Md→Nat→Mo
 | [],_=>.imm
 | m :: _,0=>m
 | _ :: ms,n + 1=>a0k ms n
noncomputable def lk:a0a→Nat→Option FV
 | [],_=>none
 | x :: _,0=>x
 | _ :: L,n + 1=>lk L n
theorem a2s:∀ (L:a0a) (i:Nat) (v:FV),lk L i=some v↔L[i]?=some (some v)
 | [],i,v=>by simp [lk]
 | x :: L,0,v=>by simp [lk]
 | x :: L,i + 1,v=>by simpa [lk] using a2s L i v
noncomputable def wp {α:Type} (r:Option α) (Q:α→Prop):Prop:=match r with
 | some x=>Q x
 | none=>False
theorem wpx {α:Type} {r:Option α} {Q:α→Prop} (h:wp r Q):∃ x,r=some x∧Q x:=by
 cases r with
 | none=>exact h.elim
 | some x=>exact ⟨x,rfl,h⟩
mutual
noncomputable def dPy:D→PyData
 | .non=>.none
 | .bl b=>.bool b
 | .int i=>.int i
 | .str x=>.str (Γe x)
 | .tup xs=>.tuple (a4p xs)
 | .lst xs=>.list (a4p xs)
noncomputable def a4p:List D→List PyData
 | []=>[]
 | a :: r=>dPy a :: a4p r
end
noncomputable def a1q (ks:List (List Int)):List (List (Int ⊕ Str)):=ks.map fun k=>k.map Sum.inl
noncomputable def a3m (ks:List Int):List (Int ⊕ Str):=ks.map Sum.inl
noncomputable def ScrAt (K:Γd) (S:Hp) (a:Addr) (ns:List Int):Prop:=(∃ o,S a=some (.frz o (.lst (ns.map V.int)))) ∨ SqL K (fun _=>none) a (ns.map V.int)
mutual
noncomputable def RV (K:Γd) (S:Hp):FV→V→Prop
 | .non,v=>v=.non
 | .bl b,v=>v=.bl b
 | .int i,v=>v=.int i
 | .str x,v=>v=.str (Γe x)
 | .tup ps,v=>∃ a xs,v=.ref a∧S a=some (.tup xs)∧RVs K S ps xs
 | .lst ps,v=>∃ a xs,v=.ref a∧S a=some (.lst xs)∧RVs K S ps xs
 | .scr ns,v=>∃ a,v=.ref a∧ScrAt K S a ns
 | .shn d,v=>v=.str (dPy d).shown
 | .dct ks vs,v=>∃ a xs,v=.ref a∧ks.length=vs.length∧S a=some (.dT ((a1q ks).zip xs))∧RVs K S vs xs
 | .dci ks vs,v=>∃ a xs,v=.ref a∧ks.length=vs.length∧S a=some (.dK ((a3m ks).zip xs))∧RVs K S vs xs
 | .dcz o ks vs,v=>∃ a xs,v=.ref a∧ks.length=vs.length∧S a=some (.frz o (.dT ((a1q ks).zip xs)))∧RVs K S vs xs
noncomputable def RVs (K:Γd) (S:Hp):List FV→List V→Prop
 | [],vs=>vs=[]
 | p :: ps,vs=>∃ v r,vs=v :: r∧RV K S p v∧RVs K S ps r
end
mutual
theorem RV.mono {K:Γd} {S S':Hp} (x:Same S S'):∀ {p:FV} {v:V},RV K S p v→RV K S' p v
 | .non,v,h=>h
 | .bl b,v,h=>h
 | .int i,v,h=>h
 | .str _,v,h=>h
 | .shn _,v,h=>h
 | .tup ps,v,⟨a,xs,e,h1,h2⟩=>⟨a,xs,e,x _ _ h1,RVs.mono x h2⟩
 | .lst ps,v,⟨a,xs,e,h1,h2⟩=>⟨a,xs,e,x _ _ h1,RVs.mono x h2⟩
 | .dct ks vs,v,⟨a,xs,e,h0,h1,h2⟩=>⟨a,xs,e,h0,x _ _ h1,RVs.mono x h2⟩
 | .dci ks vs,v,⟨a,xs,e,h0,h1,h2⟩=>⟨a,xs,e,h0,x _ _ h1,RVs.mono x h2⟩
 | .dcz o ks vs,v,⟨a,xs,e,h0,h1,h2⟩=>⟨a,xs,e,h0,x _ _ h1,RVs.mono x h2⟩
 | .scr ns,v,⟨a,e,h⟩=>⟨a,e,h.elim (fun ⟨o,h⟩=>.inl ⟨o,x _ _ h⟩) .inr⟩
theorem RVs.mono {K:Γd} {S S':Hp} (x:Same S S'):∀ {ps:List FV} {vs:List V},RVs K S ps vs→RVs K S' ps vs
 | [],vs,h=>h
 | p :: ps,vs,⟨v,r,e,h1,h2⟩=>⟨v,r,e,RV.mono x h1,RVs.mono x h2⟩
end
section
variable {K:Γd} {S H:Hp}
theorem RVs.length:∀ {ps:List FV} {vs:List V},RVs K S ps vs→ps.length=vs.length
 | [],vs,h=>by cases (show vs=[] from h); rfl
 | p :: ps,vs,h=>by
  obtain ⟨v,r,e,_,h2⟩:=h
  subst e
  rw [List.length_cons,List.length_cons,RVs.length h2]
theorem RVs.get:∀ {ps:List FV} {vs:List V} {i:Nat} {p:FV},RVs K S ps vs→ps[i]?=some p→∃ v,vs[i]?=some v∧RV K S p v
 | [],vs,i,p,_,e=>by simp at e
 | q :: ps,vs,0,p,⟨v,r,e',h1,_⟩,e=>by
  subst e'
  simp at e; subst e
  exact ⟨v,rfl,h1⟩
 | q :: ps,vs,i + 1,p,⟨v,r,e',_,h2⟩,e=>by
  subst e'
  simpa using RVs.get (i:=i) (p:=p) h2 (by simpa using e)
theorem RVs.append:∀ {ps qs:List FV} {vs us:List V},RVs K S ps vs→RVs K S qs us→RVs K S (ps++qs) (vs++us)
 | [],qs,vs,us,h,g=>by cases (show vs=[] from h); exact g
 | p :: ps,qs,vs,us,⟨v,r,e,h1,h2⟩,g=>by
  subst e
  exact ⟨v,r++us,rfl,h1,RVs.append h2 g⟩
theorem RVs.one {p:FV} {v:V} (h:RV K S p v):RVs K S [p] [v]:=⟨v,[],rfl,h,rfl⟩
theorem RVs.take:∀ {ps:List FV} {vs:List V} (n:Nat),RVs K S ps vs→RVs K S (ps.take n) (vs.take n)
 | [],vs,n,h=>by cases (show vs=[] from h); simp [RVs]
 | p :: ps,vs,0,h=>by simp [RVs]
 | p :: ps,vs,n + 1,⟨v,r,e,h1,h2⟩=>by
  subst e
  exact ⟨v,r.take n,rfl,h1,RVs.take n h2⟩
theorem RVs.drop:∀ {ps:List FV} {vs:List V} (n:Nat),RVs K S ps vs→RVs K S (ps.drop n) (vs.drop n)
 | [],vs,n,h=>by cases (show vs=[] from h); simp [RVs]
 | p :: ps,vs,0,h=>h
 | p :: ps,vs,n + 1,⟨v,r,e,h1,h2⟩=>by
  subst e
  exact RVs.drop n h2
theorem RVs.set:∀ {ps:List FV} {vs:List V} (n:Nat) {p:FV} {v:V},RVs K S ps vs→RV K S p v→RVs K S (ps.set n p) (vs.set n v)
 | [],vs,n,p,v,h,_=>by cases (show vs=[] from h); simp [RVs]
 | q :: ps,vs,0,p,v,⟨v',r,e,h1,h2⟩,g=>by
  subst e
  exact ⟨v,r,rfl,g,h2⟩
 | q :: ps,vs,n + 1,p,v,⟨v',r,e,h1,h2⟩,g=>by
  subst e
  exact ⟨v',r.set n v,rfl,h1,RVs.set n h2 g⟩
theorem RVs.rev:∀ {ps:List FV} {vs:List V},RVs K S ps vs→RVs K S ps.reverse vs.reverse
 | [],vs,h=>by cases (show vs=[] from h); exact h
 | p :: ps,vs,⟨v,r,e,h1,h2⟩=>by
  subst e
  rw [List.reverse_cons,List.reverse_cons]
  exact (RVs.rev h2).append (RVs.one h1)
theorem RVs.rep {ps:List FV} {vs:List V} (h:RVs K S ps vs):∀ k:Nat,RVs K S (Γj k ps).flatten (Γj k vs).flatten
 | 0=>rfl
 | k + 1=>by
  rw [List.replicate_succ,List.replicate_succ,List.flatten_cons,List.flatten_cons]
  exact h.append (h.rep k)
theorem RVs.ns:∀ (ns:List Int),RVs K S (ns.map .int) (ns.map V.int)
 | []=>rfl
 | n :: ns=>⟨_,_,rfl,rfl,RVs.ns ns⟩
theorem RVs.one_of {p:FV} {us:List V} (h:RVs K S [p] us):∃ u,us=[u]∧RV K S p u:=by
 obtain ⟨v,r,rfl,h1,h2⟩:=h
 cases (show r=[] from h2)
 exact ⟨v,rfl,h1⟩
theorem RVs.two_of {p q:FV} {us:List V} (h:RVs K S [p,q] us):∃ u v,us=[u,v]∧RV K S p u∧RV K S q v:=by
 obtain ⟨v,r,rfl,h1,h2⟩:=h
 obtain ⟨u,rfl,h3⟩:=h2.one_of
 exact ⟨v,u,rfl,h1,h3⟩
noncomputable def d5q:FV→Option (List FV)
 | .lst ps=>some ps
 | .dct ks vs=>if ks.length=vs.length then some vs else none
 | .dci ks vs=>if ks.length=vs.length then some vs else none
 | .dcz _ ks vs=>if ks.length=vs.length then some vs else none
 | _=>none
noncomputable def c7k:FV→List V→HO
 | .dct ks _,xs=>.dT ((a1q ks).zip xs)
 | .dci ks _,xs=>.dK ((a3m ks).zip xs)
 | .dcz o ks _,xs=>.frz o (.dT ((a1q ks).zip xs))
 | _,xs=>.lst xs
noncomputable def a3n (K:Γd) (S H:Hp) (a:Addr) (v:FV):Prop:=S a=none∧∃ ps xs,d5q v=some ps∧H a=some (c7k v xs)∧RVs K S ps xs
noncomputable def RH (K:Γd) (S H:Hp) (v:FV) (x:V):Prop:=RV K S v x ∨ ∃ a,x=.ref a∧a3n K S H a v
theorem RH.lst {ps:List FV} {x:V} (s:Same S H) (h:RH K S H (.lst ps) x):∃ a xs,x=.ref a∧H a=some (.lst xs)∧RVs K S ps xs:=by
 rcases h with ⟨a,xs,e,h1,h2⟩ | ⟨a,e,_,qs,xs,e2,h1,h2⟩
 ·exact ⟨a,xs,e,s _ _ h1,h2⟩
 ·cases e2; exact ⟨a,xs,e,h1,h2⟩
theorem RH.val {v:FV} {x:V} (h:RH K S H v x) (n:d5q v=none):RV K S v x:=by
 rcases h with h | ⟨a,_,_,ps,xs,e,_⟩
 ·exact h
 ·rw [n] at e; cases e
theorem RH.tup {ps:List FV} {x:V} (s:Same S H) (h:RH K S H (.tup ps) x):∃ a xs,x=.ref a∧H a=some (.tup xs)∧RVs K S ps xs:=by
 obtain ⟨a,xs,e,h1,h2⟩:=h.val rfl
 exact ⟨a,xs,e,s _ _ h1,h2⟩
theorem ScrAt.sq {a:Addr} {ns:List Int} (s:Same S H) (h:ScrAt K S a ns):SqL K H a (ns.map V.int):=by
 rcases h with ⟨o,h⟩ | h
 ·exact .inl (.inr ⟨o,s _ _ h⟩)
 ·rcases h with (h | ⟨o,h⟩) | h
  ·cases h
  ·cases h
  ·exact .inr h
noncomputable def a1n:FV→Option (List FV)
 | .lst xs=>some xs
 | .scr ns=>some (ns.map .int)
 | _=>none
noncomputable def a3o:FV→Option (List FV)
 | .tup xs=>some xs
 | v=>a1n v
theorem RH.list {v:FV} {ps:List FV} {x:V} (s:Same S H) (h:RH K S H v x) (e:a1n v=some ps):∃ a xs,x=.ref a∧SqL K H a xs∧RVs K S ps xs:=by
 cases v with
 | lst qs =>
  cases e
  obtain ⟨a,xs,rfl,h1,h2⟩:=h.lst s
  exact ⟨a,xs,rfl,SqL.of h1,h2⟩
 | scr ns =>
  cases e
  obtain ⟨a,rfl,g⟩:=h.val rfl
  exact ⟨a,_,rfl,ScrAt.sq s g,RVs.ns ns⟩
 | _=>cases e
noncomputable def isL:FV→Bool
 | .tup _=>false
 | _=>true
theorem RH.seq {v:FV} {ps:List FV} {x:V} (s:Same S H) (h:RH K S H v x) (e:a3o v=some ps):∃ a xs,x=.ref a∧SqB (isL v) K H a xs∧RVs K S ps xs:=by
 cases v with
 | tup qs =>
  cases e
  obtain ⟨a,xs,rfl,h1,h2⟩:=h.tup s
  exact ⟨a,xs,rfl,SqT.of h1,h2⟩
 | lst qs=>exact h.list s e
 | scr qs=>exact h.list s e
 | _=>cases e
end
noncomputable def a8p:HO→Bool
 | .tup _=>true
 | _=>false
theorem a5o (v:FV) (xs:List V):a8p (c7k v xs)=false:=by cases v <;> rfl
structure Cn where
 H0:Hp
 S0:Hp
 P0:Option Addr
 fz:List (Nat×Addr)
 pr:List (Addr×HO)
structure Iv (K:Γd) (c:Cn) (md:Md) (L:a0a) (σ:L2.St) (S H:Hp):Prop where
 len:L.length=σ.length
 imm:∀ i v,a0k md i=.imm→L[i]?=some (some v)→∃ x,σ[i]?=some (some x)∧RV K S v x
 own:∀ i v,a0k md i≠.imm→L[i]?=some (some v)→∃ a,σ[i]?=some (some (.ref a))∧a3n K S H a v∧(c.P0=some a ∨ c.H0 a=none)
 dis:∀ i j v w a,a0k md i≠.imm→a0k md j≠.imm→L[i]?=some (some v)→L[j]?=some (some w)→σ[i]?=some (some (.ref a))→σ[j]?=some (some (.ref a))→i=j
 sub:Same S H
 frame:∀ a o,c.H0 a=some o→c.P0≠some a→H a=some o
 s0:Same c.S0 S
 grow:∀ a o,S a=some o→c.S0 a=some o ∨ c.H0 a=none ∨ a8p o=true
 lent:∀ a,c.P0=some a→a0k md 0≠.imm∧σ[0]?=some (some (.ref a))∧∃ v,L[0]?=some (some v)
 fzs:∀ p∈c.fz,a0k md p.1=.frz∧σ[p.1]?=some (some (.ref p.2))∧∃ v,L[p.1]?=some (some v)
 fzm:∀ i v,a0k md i=.frz→L[i]?=some (some v)→∃ a,(i,a)∈c.fz
 fzp:∀ p∈c.fz,∃ o,(p.2,o)∈c.pr
 prs:∀ p∈c.pr,H p.1=some p.2∧S p.1=none∧∀ i v,a0k md i=.own→L[i]?=some (some v)→σ[i]?≠some (some (.ref p.1))
 ntp:∀ p∈c.pr,a8p p.2=false
section
variable {K:Γd} {c:Cn} {md:Md} {L:a0a} {σ:L2.St} {S H S' H':Hp}
theorem Iv.h0 (I:Iv K c md L σ S H) {p:Addr} (h:H p=none):c.H0 p=none:=by
 cases e:c.H0 p with
 | none=>rfl
 | some o =>
  by_cases z:c.P0=some p
  ·obtain ⟨m,e1,v,e2⟩:=I.lent p z
   obtain ⟨a,e3,⟨_,_,_,_,e4,_⟩,_⟩:=I.own 0 v m e2
   rw [e1] at e3; cases e3
   rw [h] at e4; cases e4
  ·rw [I.frame p o e z] at h; cases h
theorem Iv.sn (I:Iv K c md L σ S H) {p:Addr} (h:H p=none):S p=none:=by
 cases e:S p with
 | none=>rfl
 | some o=>rw [I.sub p o e] at h; cases h
theorem Iv.go3 (I:Iv K c md L σ S H) (s:Same S S') (sub:Same S' H') (g:∀ a o,S' a=some o→S a=some o ∨ H a=none ∨ a8p o=true) (k:∀ a o,H a=some o→H' a=some o):Iv K c md L σ S' H' where
 len:=I.len
 imm:=fun i v h e=>let ⟨x,e1,r⟩:=I.imm i v h e; ⟨x,e1,r.mono s⟩
 own:=fun i v h e=>by
  obtain ⟨a,e1,⟨h1,ps,xs,e2,h2,h3⟩,h4⟩:=I.own i v h e
  refine ⟨a,e1,⟨?_,ps,xs,e2,k _ _ h2,h3.mono s⟩,h4⟩
  cases q:S' a with
  | none=>rfl
  | some o =>
   rcases g a o q with z | z | z
   ·rw [h1] at z; cases z
   ·rw [h2] at z; cases z
   ·have:=sub a o q
    rw [k _ _ h2] at this
    rw [← Option.some.inj this,a5o] at z; cases z
 dis:=I.dis
 sub:=sub
 frame:=fun a o h n=>k _ _ (I.frame a o h n)
 s0:=I.s0.trans s
 grow:=fun a o h=>(g a o h).elim (I.grow a o) fun z=>z.elim (fun z=>.inr (.inl (I.h0 z))) fun z=>.inr (.inr z)
 lent:=I.lent
 fzs:=I.fzs
 fzm:=I.fzm
 fzp:=I.fzp
 prs:=fun p hp=>by
  obtain ⟨h1,h2,h3⟩:=I.prs p hp
  refine ⟨k _ _ h1,?_,h3⟩
  cases q:S' p.1 with
  | none=>rfl
  | some o =>
   rcases g _ o q with z | z | z
   ·rw [h2] at z; cases z
   ·rw [h1] at z; cases z
   ·have:=sub _ o q
    rw [k _ _ h1] at this
    rw [← Option.some.inj this,I.ntp p hp] at z; cases z
 ntp:=I.ntp
theorem Iv.go (I:Iv K c md L σ S H) (s:Same S S') (sub:Same S' H') (g:∀ a o,S' a=some o→S a=some o ∨ H a=none) (k:∀ a o,H a=some o→H' a=some o):Iv K c md L σ S' H':=I.go3 s sub (fun a o e=>(g a o e).imp_right .inl) k
theorem a0p {p:Addr} {o:HO} (h:H p=none):Same H (upd H p o):=fun a u e=>by rw [a0f (a0o e h)]; exact e
theorem Iv.new (I:Iv K c md L σ S H) {p:Addr} (h:H p=none) (o:HO):Iv K c md L σ (upd S p o) (upd H p o) :=
 I.go (a0p (I.sn h)) (fun a u e=>by
  by_cases z:a=p
  ·subst z; rw [a0e] at e ⊢; exact e
  ·rw [a0f z] at e ⊢; exact I.sub a u e) (fun a u e=>by
  by_cases z:a=p
  ·subst z; exact .inr h
  ·rw [a0f z] at e; exact .inl e) (a0p h)
theorem Iv.lay (I:Iv K c md L σ S H) {p:Addr} (h:H p=none) (o:HO):Iv K c md L σ S (upd H p o) :=
 I.go (Same.refl S) (I.sub.trans (a0p h)) (fun a u e=>.inl e) (a0p h)
theorem Iv.back3 (I:Iv K c md L σ S H) {i:Nat} {v w:FV} {a:Addr} (m:a0k md i=.own) (e:L[i]?=some (some v)) (e1:σ[i]?=some (some (.ref a))) (s:Same S S') (sub:Same S' H') (g:∀ a o,S' a=some o→S a=some o ∨ H a=none ∨ a8p o=true)
  (k:∀ b o,H b=some o→b≠a→H' b=some o) (new:a3n K S' H' a w):Iv K c md (L.set i (some w)) σ S' H':=by
 have mi:a0k md i≠.imm:=fun z=>by rw [m] at z; cases z
 have hi:=(List.getElem?_eq_some_iff.mp e).1
 obtain ⟨a',e1',⟨h1,qs,ys,_,h2,h3⟩,h4⟩:=I.own i v mi e
 rw [e1] at e1'; cases e1'
 have look:∀ j u,(L.set i (some w))[j]?=some (some u)→(j=i∧u=w) ∨ (j≠i∧L[j]?=some (some u)):=fun j u z=>by
  by_cases q:j=i
  ·subst q; rw [List.getElem?_set_self hi] at z; cases z; exact .inl ⟨rfl,rfl⟩
  ·rw [List.getElem?_set_ne (Ne.symm q)] at z; exact .inr ⟨q,z⟩
 have lookx:∀ j,(∃ u,L[j]?=some (some u))→∃ u,(L.set i (some w))[j]?=some (some u):=fun j h=>by
  obtain ⟨u,z⟩:=h
  by_cases q:j=i
  ·subst q; exact ⟨_,List.getElem?_set_self hi⟩
  ·exact ⟨u,by rw [List.getElem?_set_ne (Ne.symm q)]; exact z⟩
 have old:∀ j u,(L.set i (some w))[j]?=some (some u)→∃ u,L[j]?=some (some u):=fun j u z=>(look j u z).elim (fun q=>⟨v,by rw [q.1]; exact e⟩) fun q=>⟨u,q.2⟩
 refine ⟨by rw [List.length_set]; exact I.len,fun j u hm z=>?_,fun j u hm z=>?_,fun j k u u2 b m1 m2 z1 z2=>?_,sub,fun b o z n=>?_,I.s0.trans s,fun b o z=>(g b o z).elim (I.grow b o) fun z=>z.elim (fun z=>.inr (.inl (I.h0 z))) fun z=>.inr (.inr z),fun b z=>?_,fun p hp=>?_,fun j u hm z=>?_,I.fzp,fun p hp=>?_,I.ntp⟩
 ·rcases look j u z with ⟨q,_⟩ | ⟨_,z⟩
  ·rw [q,m] at hm; cases hm
  ·obtain ⟨x,f1,f2⟩:=I.imm j u hm z
   exact ⟨x,f1,f2.mono s⟩
 ·rcases look j u z with ⟨rfl,rfl⟩ | ⟨q,z⟩
  ·exact ⟨a,e1,new,h4⟩
  ·obtain ⟨b,f1,⟨g1,rs,zs,g2,g3,g4⟩,g5⟩:=I.own j u hm z
   have hb:b≠a:=fun y=>by subst y; exact q (I.dis j i u v b hm mi z e f1 e1)
   refine ⟨b,f1,⟨?_,rs,zs,g2,k b _ g3 hb,g4.mono s⟩,g5⟩
   cases q':S' b with
   | none=>rfl
   | some o =>
    rcases g b o q' with z | z | z
    ·rw [g1] at z; cases z
    ·rw [g3] at z; cases z
    ·have:=sub b o q'
     rw [k b _ g3 hb] at this
     rw [← Option.some.inj this,a5o] at z; cases z
 ·obtain ⟨w',z1⟩:=old j u z1
  obtain ⟨u',z2⟩:=old k u2 z2
  exact I.dis j k w' u' b m1 m2 z1 z2
 ·refine k b o (I.frame b o z n) fun y=>?_
  subst y
  rcases h4 with y | y
  ·exact n y
  ·rw [z] at y; cases y
 ·obtain ⟨g1,g2,g3⟩:=I.lent b z
  exact ⟨g1,g2,lookx 0 g3⟩
 ·obtain ⟨g1,g2,g4⟩:=I.fzs p hp
  exact ⟨g1,g2,lookx _ g4⟩
 ·rcases look j u z with ⟨q,_⟩ | ⟨_,z⟩
  ·rw [q,m] at hm; cases hm
  ·exact I.fzm j u hm z
 ·obtain ⟨g1,g2,g3⟩:=I.prs p hp
  have kp:=k _ _ g1 fun y=>g3 i v m e (by rw [y]; exact e1)
  refine ⟨kp,?_,fun j u hm z=>let ⟨u',z'⟩:=old j u z; g3 j u' hm z'⟩
  cases q':S' p.1 with
  | none=>rfl
  | some o =>
   rcases g _ o q' with z | z | z
   ·rw [g2] at z; cases z
   ·rw [g1] at z; cases z
   ·have:=sub _ o q'
    rw [kp] at this
    rw [← Option.some.inj this,I.ntp p hp] at z; cases z
theorem Iv.back (I:Iv K c md L σ S H) {i:Nat} {v w:FV} {a:Addr} (m:a0k md i=.own) (e:L[i]?=some (some v)) (e1:σ[i]?=some (some (.ref a))) (s:Same S S') (sub:Same S' H') (g:∀ a o,S' a=some o→S a=some o ∨ H a=none)
  (k:∀ b o,H b=some o→b≠a→H' b=some o) (new:a3n K S' H' a w):Iv K c md (L.set i (some w)) σ S' H':=I.back3 m e e1 s sub (fun a o e=>(g a o e).imp_right .inl) k new
theorem Iv.write (I:Iv K c md L σ S H) {i:Nat} {v:FV} {a:Addr} {ps:List FV} {xs:List V} (m:a0k md i=.own) (e:L[i]?=some (some v)) (e1:σ[i]?=some (some (.ref a))) (r:RVs K S ps xs) :
  Iv K c md (L.set i (some (.lst ps))) σ S (upd H a (.lst xs)):=by
 obtain ⟨a',e1',⟨h1,_⟩,_⟩:=I.own i v (fun z=>by rw [m] at z; cases z) e
 rw [e1] at e1'; cases e1'
 exact I.back m e e1 (Same.refl S) (fun b o z=>by rw [a0f fun y=>by subst y; rw [h1] at z; cases z]; exact I.sub b o z) (fun b o z=>.inl z) (fun b o z n=>by rw [a0f n]; exact z) ⟨h1,ps,xs,rfl,a0e,r⟩
theorem Iv.set (I:Iv K c md L σ S H) {i:Nat} {v:FV} {x:V} (ni:∀ a,c.P0=some a→i≠0) (nf:a0k md i≠.frz) (h:(a0k md i=.imm∧RV K S v x) ∨ (a0k md i=.own∧∃ a,x=.ref a∧a3n K S H a v∧c.H0 a=none∧(∀ p∈c.pr,p.1≠a)∧∀ j w,j≠i→a0k md j≠.imm→L[j]?=some (some w)→σ[j]?≠some (some (.ref a)))) :
  Iv K c md (L.set i (some v)) (σ.set i (some x)) S H:=by
 have look:∀ j w,(L.set i (some v))[j]?=some (some w)→(j=i∧w=v∧(σ.set i (some x))[j]?=some (some x)) ∨ (j≠i∧L[j]?=some (some w)∧(σ.set i (some x))[j]?=σ[j]?):=fun j w z=>by
  by_cases q:j=i
  ·subst q
   have hj:j < L.length:=by have:=(List.getElem?_eq_some_iff.mp z).1; rwa [List.length_set] at this
   rw [List.getElem?_set_self hj] at z; cases z
   exact .inl ⟨rfl,rfl,by rw [List.getElem?_set_self (by rw [← I.len]; exact hj)]⟩
  ·rw [List.getElem?_set_ne (Ne.symm q)] at z
   exact .inr ⟨q,z,List.getElem?_set_ne (Ne.symm q)⟩
 have far:∀ j,j≠i→(L.set i (some v))[j]?=L[j]?∧(σ.set i (some x))[j]?=σ[j]?:=fun j q=>⟨List.getElem?_set_ne (Ne.symm q),List.getElem?_set_ne (Ne.symm q)⟩
 refine ⟨by rw [List.length_set,List.length_set]; exact I.len,fun j w hm z=>?_,fun j w hm z=>?_,fun j k w u b m1 m2 z1 z2 y1 y2=>?_,I.sub,I.frame,I.s0,I.grow,fun b z=>?_,fun p hp=>?_,fun j w hm z=>?_,I.fzp,fun p hp=>?_,I.ntp⟩
 ·rcases look j w z with ⟨rfl,rfl,y⟩ | ⟨q,z,y⟩
  ·rcases h with ⟨_,r⟩ | ⟨hm',_⟩
   ·exact ⟨x,y,r⟩
   ·rw [hm] at hm'; cases hm'
  ·rw [y]; exact I.imm j w hm z
 ·rcases look j w z with ⟨rfl,rfl,y⟩ | ⟨q,z,y⟩
  ·rcases h with ⟨hm',_⟩ | ⟨_,a,rfl,o,h0,_,_⟩
   ·exact absurd hm' hm
   ·exact ⟨a,y,o,.inr h0⟩
  ·rw [y]; exact I.own j w hm z
 ·rcases look j w z1 with ⟨p1,p2,p3⟩ | ⟨p1,p2,p3⟩
  ·rcases look k u z2 with ⟨q1,q2,q3⟩ | ⟨q1,q2,q3⟩
   ·rw [p1,q1]
   ·rcases h with ⟨hm',_⟩ | ⟨_,a,rfl,_,_,_,n⟩
    ·rw [p1] at m1; exact absurd hm' m1
    ·rw [p3] at y1; cases y1
     rw [q3] at y2
     exact absurd y2 (n k u q1 m2 q2)
  ·rw [p3] at y1
   rcases look k u z2 with ⟨q1,q2,q3⟩ | ⟨q1,q2,q3⟩
   ·rcases h with ⟨hm',_⟩ | ⟨_,a,rfl,_,_,_,n⟩
    ·rw [q1] at m2; exact absurd hm' m2
    ·rw [q3] at y2; cases y2
     exact absurd y1 (n j w p1 m1 p2)
   ·rw [q3] at y2
    exact I.dis j k w u b m1 m2 p2 q2 y1 y2
 ·obtain ⟨g1,g2,g3⟩:=I.lent b z
  obtain ⟨f1,f2⟩:=far 0 (Ne.symm (ni b z))
  rw [f1,f2]; exact ⟨g1,g2,g3⟩
 ·obtain ⟨g1,g2,g4⟩:=I.fzs p hp
  obtain ⟨f1,f2⟩:=far p.1 fun y=>nf (by rw [← y]; exact g1)
  rw [f1,f2]; exact ⟨g1,g2,g4⟩
 ·rcases look j w z with ⟨rfl,_,_⟩ | ⟨_,z,_⟩
  ·exact absurd hm nf
  ·exact I.fzm j w hm z
 ·obtain ⟨g1,g2,g3⟩:=I.prs p hp
  refine ⟨g1,g2,fun j w hm z=>?_⟩
  rcases look j w z with ⟨q1,q2,q3⟩ | ⟨q1,q2,q3⟩
  ·rcases h with ⟨hm',_⟩ | ⟨_,a,rfl,_,_,n,_⟩
   ·rw [q1,hm'] at hm; cases hm
   ·rw [q3]; exact fun y=>n p hp (by cases y; rfl)
  ·rw [q3]; exact g3 j w hm q2
theorem Iv.tup (I:Iv K c md L σ S H) {b:Addr} {xs:List V} (h:H b=some (.tup xs)):Iv K c md L σ (upd S b (.tup xs)) H∧Same S (upd S b (.tup xs)):=by
 have s:Same S (upd S b (.tup xs)):=fun a o e=>by
  by_cases z:a=b
  ·subst z; rw [I.sub _ _ e] at h; rw [h,a0e]
  ·rw [a0f z]; exact e
 refine ⟨I.go3 s (fun a o e=>?_) (fun a o e=>?_) fun a o e=>e,s⟩
 ·by_cases z:a=b
  ·subst z; rw [a0e] at e; rw [← e]; exact h
  ·rw [a0f z] at e; exact I.sub a o e
 ·by_cases z:a=b
  ·subst z; rw [a0e] at e; cases e; exact .inr (.inr rfl)
  ·rw [a0f z] at e; exact .inl e
end
end Kq
end
section
namespace Kq
noncomputable def a4i {α β:Type} (f:α→Option β):List α→Option (List β)
 | []=>some []
 | x :: xs=>(f x).bind fun y=>(a4i f xs).map (y :: ·)
noncomputable def fD:Nat→FV→Option D
 | 0,_=>none
 | n + 1,v=>match v with
  | .non=>some .non
  | .bl b=>some (.bl b)
  | .int i=>some (.int i)
  | .str x=>some (.str x)
  | .tup xs=>(a4i (fD n) xs).map .tup
  | .lst xs=>(a4i (fD n) xs).map .lst
  | .scr _=>none
  | .shn _=>none
  | .dct _ _=>none
  | .dci _ _=>none
  | .dcz _ _ _=>none
noncomputable def a0j:Nat:=40
noncomputable def b3y:FV→Option Bool
 | .non=>some false
 | .bl b=>some b
 | .int i=>some (i != 0)
 | .str _=>none
 | .tup xs=>some (!xs.isEmpty)
 | .lst xs=>some (!xs.isEmpty)
 | .scr xs=>some (!xs.isEmpty)
 | .shn _=>none
 | .dct _ _=>none
 | .dci _ _=>none
 | .dcz _ _ _=>none
noncomputable def a2t:FV→Option Int | .int i=>some i | _=>none
noncomputable def blF:FV→Option Bool | .bl b=>some b | _=>none
noncomputable def a8y:FV→Option (List FV) | .tup xs=>some xs | _=>none
noncomputable def a6w:FV→Option (List FV) | .lst xs=>some xs | _=>none
noncomputable def small (i:Int):Bool:=decide (-(2 ^ 64) < i∧i < 2 ^ 64)
noncomputable def a0q (i:Int):Bool:=decide (-(2 ^ 62)≤i∧i < 2 ^ 62)
noncomputable def a5k (i:Int):Bool:=decide (-(2 ^ 40)≤i∧i≤2 ^ 40)
noncomputable def eqD (a b:FV):Option Bool:=(fD a0j a).bind fun x=>(fD a0j b).bind fun y=>some (D.eqv x y)
noncomputable def eqF (a b:FV):Option Bool:=match a,b with
 | .shn x,.shn y=>open Classical in if x=y then some true else none
 | a,b=>eqD a b
noncomputable def inD:D→D→Option Bool
 | x,.lst xs=>some (xs.any fun y=>D.eqv y x)
 | x,.tup xs=>some (xs.any fun y=>D.eqv y x)
 | _,_=>none
noncomputable def inF (a b:FV):Option Bool:=(fD a0j a).bind fun x=>(fD a0j b).bind fun y=>inD x y
noncomputable def a0z:List FV→Option (List Int)
 | []=>some []
 | .int i :: r=>(a0z r).map (i :: ·)
 | _=>none
noncomputable def a4r:List FV→Option (List Bool)
 | []=>some []
 | .bl b :: r=>(a4r r).map (b :: ·)
 | _=>none
noncomputable def c7p:List FV→Option (List (List Int))
 | []=>some []
 | .tup xs :: r=>(a0z xs).bind fun t=>(c7p r).map (t :: ·)
 | _=>none
noncomputable def lexLt:List Int→List Int→Bool
 | [],[]=>false
 | [],_ :: _=>true
 | _ :: _,[]=>false
 | a :: r,b :: q=>if a=b then lexLt r q else decide (a < b)
noncomputable def lexLe:List Int→List Int→Bool
 | [],[]=>true
 | [],_ :: _=>true
 | _ :: _,[]=>false
 | a :: r,b :: q=>if a=b then lexLe r q else decide (a≤b)
noncomputable def a2u (f:Int→Int→Option FV) (v w:FV):Option FV:=(a2t v).bind fun i=>(a2t w).bind fun j=>f i j
noncomputable def a3b (v w:FV):Option FV:=match v with
 | .tup xs=>(a8y w).bind fun ys=>if xs.length + ys.length≤big then some (.tup (xs++ys)) else none
 | .lst xs=>(a6w w).bind fun ys=>if xs.length + ys.length≤big then some (.lst (xs++ys)) else none
 | v=>a2u (fun i j=>some (.int (i + j))) v w
noncomputable def b2d:FV→FV→Option FV:=a2u fun i j=>some (.int (i - j))
noncomputable def b7c (v w:FV):Option FV:=match v with
 | .lst xs=>(a2t w).bind fun k=>if -(2 ^ 63)≤k∧k < 2 ^ 63∧xs.length * k.toNat≤big then some (.lst (Γj k.toNat xs).flatten) else none
 | v=>a2u (fun i j=>if (small i || small j)=true then some (.int (i * j)) else none) v w
noncomputable def b8d:FV→FV→Option FV:=a2u fun i j=>if 0 < j∧j < 1073741824 then some (.int (i / j)) else none
noncomputable def c3e:FV→FV→Option FV:=a2u fun i j=>if 0 < j then some (.int (i % j)) else none
noncomputable def c8t:FV→FV→Option FV:=a2u fun i j=>if 0≤j∧j≤1000∧small i=true then some (.int (i ^ j.toNat)) else none
noncomputable def eqB (a b:FV):Option FV:=(eqF a b).map .bl
noncomputable def neB (a b:FV):Option FV:=(eqF a b).map fun r=>.bl (!r)
noncomputable def inB (a b:FV):Option FV:=(inF a b).map .bl
noncomputable def niB (a b:FV):Option FV:=(inF a b).map fun r=>.bl (!r)
noncomputable def ltB (v w:FV):Option FV:=match v with
 | .tup xs=>(a8y w).bind fun ys=>(a0z xs).bind fun a=>(a0z ys).bind fun b=>some (.bl (lexLt a b))
 | v=>a2u (fun i j=>some (.bl (decide (i < j)))) v w
noncomputable def leB (v w:FV):Option FV:=match v with
 | .tup xs=>(a8y w).bind fun ys=>(a0z xs).bind fun a=>(a0z ys).bind fun b=>some (.bl (lexLe a b))
 | v=>a2u (fun i j=>some (.bl (decide (i≤j)))) v w
noncomputable def gtB:FV→FV→Option FV:=a2u fun i j=>some (.bl (decide (j < i)))
noncomputable def geB:FV→FV→Option FV:=a2u fun i j=>some (.bl (decide (j≤i)))
noncomputable def ixN (n:Nat) (i:Int):Option Nat:=if 0≤i then (if i < n then some i.toNat else none) else if -(n:Int)≤i then some (i + n).toNat else none
noncomputable def atF (xs:List FV) (i:Int):Option FV:=(ixN xs.length i).bind fun j=>xs[j]?
noncomputable def ixF (v w:FV):Option FV:=(a2t w).bind fun j=>(a3o v).bind fun xs=>atF xs j
noncomputable def b7e:FV→FV→Option FV:=a2u fun i j=>some (.int (if j < i then j else i))
noncomputable def max2F:FV→FV→Option FV:=a2u fun i j=>some (.int (if j > i then j else i))
noncomputable def a1i:FV→Option FV | .non=>some (.bl true) | _=>some (.bl false)
noncomputable def a1k:FV→Option FV | .non=>some (.bl false) | _=>some (.bl true)
noncomputable def isBlF (c:Bool):FV→Option FV | .bl b=>some (.bl (b == c)) | _=>some (.bl false)
noncomputable def notBlF (c:Bool):FV→Option FV | .bl b=>some (.bl (b != c)) | _=>some (.bl true)
noncomputable def d5x (v:FV):Option FV:=(blF v).map fun b=>.bl (!b)
noncomputable def c1d (v:FV):Option FV:=(a2t v).map fun i=>.int (-i)
noncomputable def turnF (v:FV):Option FV:=(a8y v).map fun xs=>.tup xs.reverse
noncomputable def b0w (v:FV):Option FV:=(a3o v).map fun xs=>.int xs.length
noncomputable def d2g (v:FV):Option FV:=(a2t v).map fun i=>.int (if i < 0 then -i else i)
noncomputable def a9g:FV→Option FV | .int i=>some (.int i) | .bl b=>some (.int (if b then 1 else 0)) | _=>none
noncomputable def c2v (xs:List FV):Option Int:=(a0z xs).bind fun ns=>if ns.length≤big∧ns.all a5k=true then some ns.sum else none
noncomputable def d2k (v:FV):Option FV:=(a1n v).bind fun xs=>(c2v xs).map .int
noncomputable def d3t (v:FV):Option FV:=(a1n v).bind fun xs=>(a4r xs).map fun bs=>.bl (bs.all id)
noncomputable def d3s (v:FV):Option FV:=(a1n v).bind fun xs=>(a4r xs).map fun bs=>.bl (bs.any id)
noncomputable def a1c (b:Int):List Int→Int
 | []=>b
 | x :: r=>a1c (if x < b then x else b) r
noncomputable def c3l (b:List Int):List (List Int)→List Int
 | []=>b
 | x :: r=>c3l (if lexLt x b=true then x else b) r
noncomputable def d2r (xs:List FV):Option FV:=(a0z xs).bind fun ns=>match ns with
 | n :: r=>some (.int (a1c n r))
 | []=>none
noncomputable def minT (xs:List FV):Option FV:=(c7p xs).bind fun ns=>match ns with
 | n :: r=>some (.tup ((c3l n r).map .int))
 | []=>none
noncomputable def c1e (v:FV):Option FV:=(a1n v).bind d2r
noncomputable def minTF (v:FV):Option FV:=(a1n v).bind minT
noncomputable def a6r (v:FV):Option FV:=(a3o v).map .tup
noncomputable def a8i (v:FV):Option FV:=(a3o v).map .lst
noncomputable def d4k (v:FV):Option FV:=(fD a0j v).bind fun d=>if d.fit=true∧d.wt≤big then some (.shn d) else none
noncomputable def c7w (v:FV):Option FV:=match v with
 | .non=>some (.str "None")
 | .bl b=>some (.str (if b then "True" else "False"))
 | .str x=>some (.str x)
 | .int i=>if -(2 ^ 150) < i∧i < 2 ^ 150 then some (.str (toString i)) else none
 | .tup xs=>d4k (.tup xs)
 | .lst xs=>d4k (.lst xs)
 | .scr _=>none | .shn _=>none | .dct _ _=>none | .dci _ _=>none | .dcz _ _ _=>none
inductive Ty where | int | bool | str | list | tuple
 deriving DecidableEq
noncomputable def a4z:FV→Ty→Option Bool
 | .non,_=>some false
 | .bl _,t=>some (t == .int || t == .bool)
 | .int _,t=>some (t == .int)
 | .str _,t=>some (t == .str)
 | .tup _,t=>some (t == .tuple)
 | .lst _,t=>some (t == .list)
 | .scr _,_=>none
 | .shn _,t=>some (t == .str)
 | .dct _ _,_=>none
 | .dci _ _,_=>none
 | .dcz _ _ _,_=>none
noncomputable def b4r (t:Ty) (v:FV):Option FV:=(a4z v t).map .bl
noncomputable def c1k (t u:Ty) (v:FV):Option FV:=(a4z v t).bind fun a=>(a4z v u).map fun b=>.bl (a || b)
noncomputable def sIx (n d:Nat):Option Int→Nat
 | none=>d
 | some v=>if v < 0 then (v + n).toNat else min v.toNat n
noncomputable def b0k {α:Type} (xs:List α) (lo hi:Option Int):List α:=(xs.drop (sIx xs.length 0 lo)).take (sIx xs.length xs.length hi - sIx xs.length 0 lo)
noncomputable def a4d (v:FV) (lo hi:Option Int):Option FV:=match v with
 | .tup xs=>some (.tup (b0k xs lo hi))
 | .lst xs=>some (.lst (b0k xs lo hi))
 | _=>none
abbrev EW:=a0a→(FV→a0a→Prop)→Prop
abbrev BW:=a0a→(Bool→a0a→Prop)→Prop
abbrev AW:=a0a→(List FV→a0a→Prop)→Prop
abbrev OW:=a0a→(Option Int→a0a→Prop)→Prop
noncomputable def a0c (i:Nat):EW:=fun L Q=>wp (lk L i) fun x=>Q x L
noncomputable def eC (v:FV):EW:=fun L Q=>Q v L
noncomputable def eUn (f:FV→Option FV) (a:EW):EW:=fun L Q=>a L fun x L1=>wp (f x) fun z=>Q z L1
noncomputable def eOp (f:FV→FV→Option FV) (a b:EW):EW:=fun L Q=>a L fun x L1=>b L1 fun y L2=>wp (f x y) fun z=>Q z L2
noncomputable def a5y (f:FV→FV→Option FV) (i:Nat) (b:EW):EW:=fun L Q=>wp (lk L i) fun _=>b L fun y L1=>wp (lk L1 i) fun x=>wp (f x y) fun z=>Q z L1
noncomputable def eChain (f g:FV→FV→Option FV) (a b c:EW):EW:=fun L Q=>a L fun x L1=>b L1 fun y L2=>wp (f x y) fun r=>wp (blF r) fun r=>if r=true then c L2 fun z L3=>wp (g y z) fun q=>Q q L3 else Q (.bl false) L2
noncomputable def c1y (a b:EW):EW:=fun L Q=>a L fun x L1=>wp (b3y x) fun r=>if r=true then b L1 Q else Q x L1
noncomputable def eOr (a b:EW):EW:=fun L Q=>a L fun x L1=>wp (b3y x) fun r=>if r=true then Q x L1 else b L1 Q
noncomputable def eIf (c:BW) (a b:EW):EW:=fun L Q=>c L fun r L1=>if r=true then a L1 Q else b L1 Q
noncomputable def a2h (a:EW):BW:=fun L Q=>a L fun x L1=>wp (b3y x) fun b=>Q b L1
noncomputable def d2f (a b:BW):BW:=fun L Q=>a L fun r L1=>if r=true then b L1 Q else Q false L1
noncomputable def bOr (a b:BW):BW:=fun L Q=>a L fun r L1=>if r=true then Q true L1 else b L1 Q
noncomputable def d2e (a:BW):BW:=fun L Q=>a L fun r L1=>Q (!r) L1
noncomputable def a3y:BW:=fun L Q=>Q true L
noncomputable def a1d:AW:=fun L Q=>Q [] L
noncomputable def a0b (a:EW) (r:AW):AW:=fun L Q=>a L fun x L1=>r L1 fun xs L2=>Q (x :: xs) L2
noncomputable def b1t (a:AW):EW:=fun L Q=>a L fun xs L1=>xs.length≤big∧Q (.tup xs) L1
noncomputable def a9a (a:AW):EW:=fun L Q=>a L fun xs L1=>xs.length≤big∧Q (.lst xs) L1
noncomputable def c0z:OW:=fun L Q=>Q none L
noncomputable def a9p (a:EW):OW:=fun L Q=>a L fun x L1=>wp (a2t x) fun i=>Q (some i) L1
noncomputable def eSl (a:EW) (l h:OW):EW:=fun L Q=>a L fun x L1=>l L1 fun i L2=>h L2 fun j L3=>wp (a4d x i j) fun z=>Q z L3
noncomputable def d1f (k:Nat) (l h:OW):EW:=fun L Q=>wp (lk L k) fun _=>l L fun i L2=>h L2 fun j L3=>wp (lk L3 k) fun x=>wp (a4d x i j) fun z=>Q z L3
abbrev CW:=Nat→List FV→(FV×FV→Prop)→Prop
noncomputable def a2g (call:CW) (f:Nat) (a:AW):EW:=fun L Q=>a L fun xs L1=>call f xs fun z=>Q z.1 L1
noncomputable def a1o (call:CW) (f i:Nat) (a:AW):EW:=fun L Q=>wp (lk L i) fun _=>a L fun xs L1=>wp (lk L1 i) fun x=>call f (x :: xs) fun z=>Q z.1 (L1.set i (some z.2))
noncomputable def c7c (v y:FV):Option FV:=(a6w v).bind fun xs=>if xs.length < big then some (.lst (xs++[y])) else none
noncomputable def nscF:FV→Option (List FV) | .tup xs=>some xs | .lst xs=>some xs | _=>none
noncomputable def extF (v y:FV):Option FV:=(a6w v).bind fun xs=>(nscF y).bind fun ys=>if xs.length + ys.length≤big then some (.lst (xs++ys)) else none
noncomputable def b1u (f:FV→FV→Option FV) (i:Nat) (a:EW):EW:=fun L Q=>wp (lk L i) fun v=>wp (a6w v) fun _=>a L fun y L1=>wp (lk L1 i) fun x=>wp (f x y) fun z=>Q .non (L1.set i (some z))
noncomputable def upF (lo:Int):Nat→List FV
 | 0=>[]
 | n + 1=>.int lo :: upF (lo + 1) n
noncomputable def a2d (xs ys:List FV):List FV:=xs.zipWith (fun p q=>.tup [p,q]) ys
noncomputable def c1n (a:EW):AW:=fun L Q=>a L fun x L1=>wp (a3o x) fun xs=>Q xs L1
noncomputable def c1o (a:EW):AW:=fun L Q=>a L fun x L1=>wp (a2t x) fun j=>a0q j=true∧Q (upF 0 j.toNat) L1
noncomputable def iRng2 (a b:EW):AW:=fun L Q=>a L fun x L1=>b L1 fun y L2=>wp (a2t x) fun i=>wp (a2t y) fun j=>(a0q i && a0q j)=true∧Q (upF i (j - i).toNat) L2
noncomputable def d6l (a b:EW):AW:=fun L Q=>a L fun x L1=>b L1 fun y L2=>wp (a3o x) fun xs=>wp (a3o y) fun ys=>Q (a2d xs ys) L2
noncomputable def iEnum (a:EW):AW:=fun L Q=>a L fun x L1=>wp (a3o x) fun xs=>Q (a2d (upF 0 xs.length) xs) L1
inductive Tg where | nm (i:Nat) | tp (is:List Nat) | tn (i:Nat) (is:List Nat)
noncomputable def d5p:List FV→Option (FV×FV) | [a,b]=>some (a,b) | _=>none
noncomputable def a7t:a0a→List Nat→List FV→Option a0a
 | L,[],[]=>some L
 | L,i :: is,v :: vs=>a7t (L.set i (some v)) is vs
 | _,_,_=>none
noncomputable def gW (tg:Tg) (v:FV) (L:a0a) (Q:a0a→Prop):Prop:=match tg with
 | .nm i=>Q (L.set i (some v))
 | .tp is=>wp (a8y v) fun xs=>wp (a7t L is xs) Q
 | .tn i is=>wp (a8y v) fun xs=>wp (d5p xs) fun p=>wp (a8y p.2) fun ys=>wp (a7t (L.set i (some p.1)) is ys) Q
noncomputable def a3w (n m:Nat) (tg:Tg) (t:BW) (e:EW):List FV→List FV→a0a→(List FV→a0a→Prop)→Prop
 | [],acc,L,Q=>Q acc L
 | x :: xs,acc,L,Q=>gW tg x (L++Γj m none) fun L1=>t L1 fun b L2=>if b=true then e L2 fun v L3=>a3w n m tg t e xs (acc++[v]) (L3.take n) Q else a3w n m tg t e xs acc (L2.take n) Q
noncomputable def a2v (n m:Nat) (it:AW) (tg:Tg) (t:BW) (e:EW):EW:=fun L Q=>it L fun xs L1=>L1.length=n∧xs.length≤big∧a3w n m tg t e xs [] L1 fun ys L2=>Q (.lst ys) L2
inductive FFl where | next | ret (v:FV) | brk | cont
abbrev SW:=a0a→(FFl→a0a→Prop)→Prop
noncomputable def aft (k:a0a→Prop) (Q:FFl→a0a→Prop):FFl→a0a→Prop
 | .next,L=>k L
 | .ret v,L=>Q (.ret v) L
 | .brk,L=>Q .brk L
 | .cont,L=>Q .cont L
noncomputable def a8z:SW:=fun L Q=>Q .next L
noncomputable def a1f (s r:SW):SW:=fun L Q=>s L (aft (fun L1=>r L1 Q) Q)
noncomputable def a2a (e:EW) (tg:Tg):SW:=fun L Q=>e L fun x L1=>gW tg x L1 fun L2=>Q .next L2
noncomputable def d4l (v j x:FV):Option FV:=(a6w v).bind fun xs=>(a2t j).bind fun n=>(ixN xs.length n).map fun p=>.lst (xs.set p x)
noncomputable def c8b (k:Nat) (i e:EW):SW:=fun L Q=>wp (lk L k) fun _=>e L fun x L1=>i L1 fun j L2=>wp (lk L2 k) fun y=>wp (d4l y j x) fun z=>Q .next (L2.set k (some z))
noncomputable def sAug (f:FV→FV→Option FV) (i:Nat) (e:EW):SW:=fun L Q=>wp (lk L i) fun a=>e L fun x L1=>wp (f a x) fun z=>Q .next (L1.set i (some z))
noncomputable def a3d (e:EW):SW:=fun L Q=>e L fun x L1=>Q (.ret x) L1
noncomputable def sRetN:SW:=fun L Q=>Q (.ret .non) L
noncomputable def c2w (e:EW):SW:=fun L Q=>e L fun _ L1=>Q .next L1
noncomputable def sIf (c:BW) (a b:SW):SW:=fun L Q=>c L fun r L1=>if r=true then a L1 Q else b L1 Q
noncomputable def sBrk:SW:=fun L Q=>Q .brk L
noncomputable def sCont:SW:=fun L Q=>Q .cont L
noncomputable def b1c (k:a0a→Prop) (Q:FFl→a0a→Prop):FFl→a0a→Prop
 | .next,L=>k L
 | .cont,L=>k L
 | .brk,L=>Q .next L
 | .ret v,L=>Q (.ret v) L
noncomputable def c5z (tg:Tg) (b:SW):List FV→a0a→(FFl→a0a→Prop)→Prop
 | [],L,Q=>Q .next L
 | x :: xs,L,Q=>gW tg x L fun L1=>b L1 (b1c (fun L2=>c5z tg b xs L2 Q) Q)
noncomputable def b6a (it:AW) (tg:Tg) (b:SW):SW:=fun L Q=>it L fun xs L1=>c5z tg b xs L1 Q
noncomputable def c7h (c:BW) (b:SW):Nat→a0a→(FFl→a0a→Prop)→Prop
 | 0,_,_=>False
 | n + 1,L,Q=>c L fun r L1=>if r=true then b L1 (b1c (fun L2=>c7h c b n L2 Q) Q) else Q .next L1
noncomputable def d2l (c:BW) (b:SW):SW:=fun L Q=>∃ n,c7h c b n L Q
structure FD where
 np:Nat
 ns:Nat
 body:CW→SW
 io:Bool
 fr:Bool
noncomputable def b9x (io fr:Bool) (Q:FV×FV→Prop):FFl→a0a→Prop
 | .ret v,L=>match io with
  | true=>wp (lk L 0) fun x=>Q (v,x)
  | false=>Q (v,.non)
 | .next,L=>match fr with
  | true=>False
  | false=>match io with
   | true=>wp (lk L 0) fun x=>Q (.non,x)
   | false=>Q (.non,.non)
 | _,_=>False
noncomputable def callW (tb:List FD):Nat→CW
 | 0,_,_,_=>False
 | d + 1,f,args,Q=>match tb[f]? with
  | none=>False
  | some fd=>args.length=fd.np∧fd.body (callW tb d) (args.map some++Γj (fd.ns - fd.np) none) (b9x fd.io fd.fr Q)
end Kq
end
section
namespace Kq
open PySem PySem.Spec PyProof.Rows L2
theorem a9o {x y:String} (h:Γe x=Γe y):x=y:=by
 rw [Str.ofString_eq_toList,Str.ofString_eq_toList] at h
 have h2:x.toList.map Char.toNat=y.toList.map Char.toNat:=by
  injection h with h
  simpa using congrArg Array.toList h
 have inj:∀ (a b:List Char),a.map Char.toNat=b.map Char.toNat→a=b:=by
  intro a
  induction a with
  | nil=>intro b hb; cases b <;> simp_all
  | cons c a ih =>
   intro b hb
   cases b with
   | nil=>simp at hb
   | cons d b =>
    simp only [List.map_cons,List.cons.injEq] at hb
    rw [ih b hb.2,Char.toNat_inj.mp hb.1]
 exact String.toList_inj.mp (inj _ _ h2)
theorem c7x (a b:String):(Γe a == Γe b)=(a == b):=by
 rw [Bool.eq_iff_iff]
 simp only [beq_iff_eq]
 exact ⟨a9o,fun h=>by rw [h]⟩
theorem c7u (x:String):PyData.strOk (Γe x)=true:=by
 rw [Str.ofString_eq_toList]
 unfold PyData.strOk
 simp only [List.all_toArray,List.all_map,List.all_eq_true,Function.comp_apply,decide_eq_true_eq]
 intro c _
 have h:c.val.toNat < 0xd800 ∨ (0xdfff < c.val.toNat∧c.val.toNat < 0x110000):=c.valid
 show c.val.toNat < 1114112
 lia
mutual
theorem a5f:∀ d:D,(dPy d).canLay0=true
 | .non=>rfl
 | .bl _=>rfl
 | .int _=>rfl
 | .str x=>by simp only [dPy,PyData.canLay0]; exact c7u x
 | .tup xs=>by simp only [dPy,PyData.canLay0]; exact a6a xs
 | .lst xs=>by simp only [dPy,PyData.canLay0]; exact a6a xs
theorem a6a:∀ xs:List D,PyData.canLayAll0 (a4p xs)=true
 | []=>rfl
 | x :: xs=>by simp only [a4p,PyData.canLayAll0,a5f x,a6a xs,Bool.and_self]
end
mutual
theorem b9a:∀ a b:D,PyData.eqv (dPy a) (dPy b)=D.eqv a b
 | .non,b=>by cases b <;> simp only [dPy,PyData.eqv,D.eqv]
 | .bl _,b=>by cases b <;> simp only [dPy,PyData.eqv,D.eqv]
 | .int _,b=>by cases b <;> simp only [dPy,PyData.eqv,D.eqv]
 | .str x,b=>by cases b <;> simp only [dPy,PyData.eqv,D.eqv,c7x]
 | .tup xs,b=>by cases b <;> simp only [dPy,PyData.eqv,D.eqv,b8z]
 | .lst xs,b=>by cases b <;> simp only [dPy,PyData.eqv,D.eqv,b8z]
theorem b8z:∀ a b:List D,PyData.eqvAll (a4p a) (a4p b)=D.eqvs a b
 | [],b=>by cases b <;> simp only [a4p,PyData.eqvAll,D.eqvs]
 | x :: xs,b=>by cases b <;> simp only [a4p,PyData.eqvAll,D.eqvs,b9a,b8z]
end
theorem b9b (x:D):∀ xs:List D,((a4p xs).any fun y=>PyData.eqv y (dPy x))=xs.any fun y=>D.eqv y x
 | []=>rfl
 | y :: r=>by simp only [a4p,List.any_cons,b9a,b9b x r]
mutual
theorem b3m:∀ d:D,(dPy d).hasDict=false
 | .non=>rfl
 | .bl _=>rfl
 | .int _=>rfl
 | .str x=>rfl
 | .tup xs=>by simp only [dPy,PyData.hasDict]; exact a5z xs
 | .lst xs=>by simp only [dPy,PyData.hasDict]; exact a5z xs
theorem a5z:∀ xs:List D,PyData.hasDictAll (a4p xs)=false
 | []=>rfl
 | x :: xs=>by simp only [a4p,PyData.hasDictAll,b3m x,a5z xs,Bool.or_self]
end
theorem log2_lt {i:Int} {k:Nat} (hk:0 < k) (h:-(2 ^ k:Int) < i∧i < 2 ^ k):i.natAbs.log2 < k:=by
 by_cases h0:i.natAbs=0
 ·rw [h0]; simpa using hk
 ·rw [Nat.log2_lt h0]
  have e:((2 ^ k:Nat):Int)=(2:Int) ^ k:=by rw [Int.natCast_pow]; rfl
  lia
mutual
theorem c6q:∀ d:D,d.fit=true→(dPy d).showable=true∧(dPy d).intsShort 160=true∧(dPy d).weight≤d.wt
 | .non,_=>⟨rfl,rfl,Γi _⟩
 | .bl _,_=>⟨rfl,rfl,Γi _⟩
 | .int i,h=>by
  have h:-(2 ^ 150:Int) < i∧i < 2 ^ 150:=by simpa [D.fit] using h
  have l1:=log2_lt (k:=150) (by decide) h
  refine ⟨?_,?_,?_⟩
  ·simp only [dPy,PyData.showable,decide_eq_true_eq]; lia
  ·simp only [dPy,PyData.intsShort,decide_eq_true_eq]
   have e:=int_text_length_le (k:=150) (by decide) l1
   show (Γe (toString i)).length≤160
   rw [PySem.ofString_length]; lia
  ·simp only [dPy,PyData.weight,D.wt]
   split
   ·lia
   ·split
    ·rename_i hs
     have l2:=log2_lt (k:=40) (by decide) hs
     lia
    ·lia
 | .str x,_=>by
  refine ⟨rfl,rfl,?_⟩
  simp only [dPy,PyData.weight,D.wt]
  have:(Γe x).length=x.length:=PySem.ofString_length x
  exact Nat.le_of_eq this
 | .tup xs,h=>by
  obtain ⟨h1,h2,h3⟩:=b8y xs (by simpa only [D.fit] using h)
  exact ⟨by simpa only [dPy,PyData.showable] using h1,by simpa only [dPy,PyData.intsShort] using h2,by simpa only [dPy,PyData.weight,D.wt] using h3⟩
 | .lst xs,h=>by
  obtain ⟨h1,h2,h3⟩:=b8y xs (by simpa only [D.fit] using h)
  exact ⟨by simpa only [dPy,PyData.showable] using h1,by simpa only [dPy,PyData.intsShort] using h2,by simpa only [dPy,PyData.weight,D.wt] using h3⟩
theorem b8y:∀ xs:List D,D.fits xs=true→PyData.showableAll (a4p xs)=true∧PyData.intsShortAll 160 (a4p xs)=true∧PyData.weightAll (a4p xs)≤D.wts xs
 | [],_=>⟨rfl,rfl,Γi _⟩
 | x :: xs,h=>by
  have h:x.fit=true∧D.fits xs=true:=by simpa only [D.fits,Bool.and_eq_true] using h
  obtain ⟨a1,a2,a3⟩:=c6q x h.1
  obtain ⟨b1,b2,b3⟩:=b8y xs h.2
  refine ⟨?_,?_,?_⟩
  ·simp only [a4p,PyData.showableAll,a1,b1,Bool.and_self]
  ·simp only [a4p,PyData.intsShortAll,a2,b2,Bool.and_self]
  ·simp only [a4p,PyData.weightAll,D.wts]; lia
end
theorem c6p {d:D} (h:d.fit=true) (hw:d.wt≤big):(dPy d).shown.length≤sizeLine:=by
 obtain ⟨_,h2,h3⟩:=c6q d h
 have:=PyData.shown_le 160 (by decide) (dPy d) (PyData.leavesShort_of_canLay0 160 _ (a5f d) h2)
 unfold big at hw
 have e:sizeLine=16777216:=rfl
 lia
theorem b2v {α β:Type} {f:α→Option β}:∀ {xs:List α} {ys:List β},a4i f xs=some ys→ys.length=xs.length
 | [],ys,h=>by cases h; rfl
 | x :: xs,ys,h=>by
  simp only [a4i] at h
  cases e1:f x with
  | none=>rw [e1] at h; cases h
  | some y =>
   rw [e1] at h
   cases e2:a4i f xs with
   | none=>simp only [Option.bind_some,e2] at h; cases h
   | some zs=>simp only [Option.bind_some,e2,Option.map_some] at h; cases h; rw [List.length_cons,List.length_cons,b2v e2]
theorem bnd {α β:Type} {o:Option α} {f:α→Option β} {z:β} (h:o.bind f=some z):∃ a,o=some a∧f a=some z:=Option.bind_eq_some_iff.mp h
theorem mpd {α β:Type} {o:Option α} {f:α→β} {z:β} (h:o.map f=some z):∃ a,o=some a∧f a=z:=Option.map_eq_some_iff.mp h
theorem itd {α:Type} {c:Prop} [Decidable c] {a b:α} (h:(if c then some a else none)=some b):c∧a=b:=by
 by_cases z:c
 ·rw [if_pos z] at h; exact ⟨z,Option.some.inj h⟩
 ·rw [if_neg z] at h; cases h
theorem a4m:∀ {n:Nat} {p:FV} {d:D},fD n p=some d→(dPy d).depth≤n
 | 0,p,d,h=>by cases h
 | n + 1,p,d,h=>by
  have ds:∀ {ps:List FV} {ds:List D},a4i (fD n) ps=some ds→PyData.depthAll (a4p ds)≤n:=by
   intro ps
   induction ps with
   | nil=>intro ds h; cases h; simp [a4p,PyData.depthAll]
   | cons q ps ih =>
    intro ds h
    obtain ⟨y,e1,h⟩:=bnd h
    obtain ⟨zs,e2,rfl⟩:=mpd h
    simp only [a4p,PyData.depthAll]
    exact Nat.max_le.mpr ⟨a4m e1,ih e2⟩
  cases p with
  | tup ps=>obtain ⟨zs,e,rfl⟩:=mpd (show (a4i (fD n) ps).map D.tup=some d from h); simp only [dPy,PyData.depth]; have:=ds e; lia
  | lst ps=>obtain ⟨zs,e,rfl⟩:=mpd (show (a4i (fD n) ps).map D.lst=some d from h); simp only [dPy,PyData.depth]; have:=ds e; lia
  | non=>cases h; simp [dPy,PyData.depth]
  | bl _=>cases h; simp [dPy,PyData.depth]
  | int _=>cases h; simp [dPy,PyData.depth]
  | str _=>cases h; simp [dPy,PyData.depth]
  | scr _=>cases h
  | shn _=>cases h
  | dct _ _=>cases h
  | dci _ _=>cases h
  | dcz _ _ _=>cases h
section
variable {X:Cx} {pins:List (Addr×Obj)} {σ:L2.St} {S H:Hp} {s:Shared}
noncomputable def d9v (X:Cx) (S:Hp) (s:Shared) (n:Nat):Prop:=∀ (p:FV) (v:V) (u:Value) (d:D),RV X.K S p v→RelV v u→fD n p=some d→∃ as,Reads s.heap u (dPy d) as
theorem a5m {n:Nat} (R:d9v X S s n):∀ {ps:List FV} {vs:List V} {us:List Value} {ds:List D},RVs X.K S ps vs→Vals vs us→a4i (fD n) ps=some ds→∃ as,ReadsAll s.heap us (a4p ds) as
 | [],vs,us,ds,r,q,h=>by
  cases (show vs=[] from r)
  cases q
  cases h
  exact ⟨[],.nil⟩
 | p :: ps,vs,us,ds,r,rq,h=>by
  obtain ⟨v1,vr,rfl,r1,r2⟩:=r
  cases rq with
  | cons q1 q2 =>
   obtain ⟨y,e1,h⟩:=bnd h
   obtain ⟨zs,e2,rfl⟩:=mpd h
   obtain ⟨as,ra⟩:=R _ _ _ _ r1 q1 e1
   obtain ⟨bs,rb⟩:=a5m R r2 q2 e2
   exact ⟨as++bs,.cons ra rb⟩
theorem a9l {n:Nat} (I:Inv X pins σ H s) (R:d9v X S s n) {a:Addr} {xs:List V} {ps:List FV} {d:D} (h1:H a=some (.lst xs)) (h2:RVs X.K S ps xs) (h:(a4i (fD n) ps).map D.lst=some d):∃ as,Reads s.heap (.ref a) (dPy d) as:=by
 obtain ⟨zs,e,rfl⟩:=mpd h
 obtain ⟨its,rr,⟨o,k,e1,e2,e2',e3⟩,_⟩:=I.list (SqL.of h1)
 obtain ⟨as,ra⟩:=a5m R h2 rr e
 exact ⟨a :: as,.list e1 e2 e3 (by simpa using ra)⟩
theorem a7u (I:Inv X pins σ H s) (hs:Same S H):∀ n,d9v X S s n
 | 0,p,v,u,d,_,_,h=>by cases h
 | n + 1,p,v,u,d,rp,rv,h=>by
  have R:=a7u I hs n
  cases p with
  | tup ps =>
   obtain ⟨a,xs,rfl,h1,h2⟩:=rp
   cases (show u=Value.ref a from rv)
   obtain ⟨zs,e,rfl⟩:=mpd (show (a4i (fD n) ps).map D.tup=some d from h)
   obtain ⟨its,rr,⟨o,e1,e2,k,e3⟩,_⟩:=I.tuple (SqT.of (hs _ _ h1))
   obtain ⟨as,ra⟩:=a5m R h2 rr e
   exact ⟨as,.tuple e1 e2 e3 (by simpa using ra)⟩
  | lst ps =>
   obtain ⟨a,xs,rfl,h1,h2⟩:=rp
   cases (show u=Value.ref a from rv)
   exact a9l I R (hs _ _ h1) h2 h
  | non=>cases h; cases (show v=_ from rp); cases (show u=_ from rv); exact ⟨_,.none⟩
  | bl _=>cases h; cases (show v=_ from rp); cases (show u=_ from rv); exact ⟨_,.bool _⟩
  | int _=>cases h; cases (show v=_ from rp); obtain ⟨t,rfl⟩:=rv; exact ⟨_,.int _ _⟩
  | str _=>cases h; cases (show v=_ from rp); obtain ⟨t,rfl⟩:=rv; exact ⟨_,.str _ _⟩
  | scr _=>cases h
  | shn _=>cases h
  | dct _ _=>cases h
  | dci _ _=>cases h
  | dcz _ _ _=>cases h
theorem a2l (I:Inv X pins σ H s) (hs:Same S H) {n:Nat} {p:FV} {v:V} {u:Value} {d:D} (rp:RH X.K S H p v) (rv:RelV v u) (h:fD n p=some d):∃ as,Reads s.heap u (dPy d) as:=by
 rcases rp with rp | ⟨a,rfl,_,ps,xs,e,h1,h2⟩
 ·exact a7u I hs n p v u d rp rv h
 ·cases (show u=Value.ref a from rv)
  cases n with
  | zero=>cases h
  | succ n =>
   cases p with
   | lst qs=>cases e; exact a9l I (a7u I hs n) h1 h2 h
   | dct _ _=>cases h
   | dci _ _=>cases h
   | dcz _ _ _=>cases h
   | _=>cases e
end
theorem a1m:big≤sizeLine:=by decide
theorem a0u {v:FV} {i:Int} (h:a2t v=some i):v=.int i:=by cases v <;> cases h; rfl
theorem d2d {v:FV} {i:Bool} (h:blF v=some i):v=.bl i:=by cases v <;> cases h; rfl
theorem a2c {v:FV} {i:List FV} (h:a8y v=some i):v=.tup i:=by cases v <;> cases h; rfl
theorem a3s {v:FV} {i:List FV} (h:a6w v=some i):v=.lst i:=by cases v <;> cases h; rfl
structure NewOr (K:Γd) (S H:Hp) (Q:VK) (z:FV):Prop where
 old:∀ x,(∀ ps,z≠.lst ps)→RV K S z x→Q x H
 tup:∀ ps xs p,z=.tup ps→RVs K S ps xs→H p=none→Q (.ref p) (upd H p (.tup xs))
 lst:∀ ps xs p,z=.lst ps→RVs K S ps xs→H p=none→Q (.ref p) (upd H p (.lst xs))
section
variable {X:Cx} {K:Γd} {S H:Hp} {Q:VK}
theorem NewOr.bl {b:Bool} (k:NewOr K S H Q (.bl b)):Q (.bl b) H:=k.old _ (fun _ z=>nomatch z) rfl
theorem NewOr.int {b:Int} (k:NewOr K S H Q (.int b)):Q (.int b) H:=k.old _ (fun _ z=>nomatch z) rfl
theorem NewOr.str {b:String} (k:NewOr K S H Q (.str b)):Q (.str (Γe b)) H:=k.old _ (fun _ z=>nomatch z) rfl
theorem RH.int {i:Int} {x:V} (h:RH K S H (.int i) x):x=.int i:=h.val rfl
theorem RH.bl {i:Bool} {x:V} (h:RH K S H (.bl i) x):x=.bl i:=h.val rfl
noncomputable def Rq (K:Γd) (f:FV→FV→Option FV):R2:=fun x y H Q=>∃ S v w z,Same S H∧RH K S H v x∧RH K S H w y∧f v w=some z∧NewOr K S H Q z
theorem a6h {g:Value→Value→Sem Value} {f:Int→Int→Option FV} {r:R2} (o:OpR X g r) (h:∀ i j z H Q,f i j=some z→(∀ x,(∀ S,RV X.K S z x)→Q x H)→r (.int i) (.int j) H Q) (n:∀ i j z,f i j=some z→∀ ps,z≠.lst ps):OpR X g (Rq X.K (a2u f)):=by
 intro pins s σ H x y u1 u2 Q I rx ry ⟨S,v,w,z,hs,hv,hw,e,k⟩
 obtain ⟨i,e1,e⟩:=bnd e
 obtain ⟨j,e2,e⟩:=bnd e
 cases a0u e1; cases a0u e2
 obtain rfl:=hv.int
 obtain rfl:=hw.int
 exact o pins s σ H _ _ u1 u2 Q I rx ry (h i j z H Q e fun x hx=>k.old x (n i j z e) (hx S))
theorem d4y:OpR X (binaryOp .Sub) (Rq X.K b2d):=a6h c9i (fun i j z H Q e k=>⟨i,j,rfl,rfl,k _ fun S=>by cases e; rfl⟩) fun i j z e ps=>by cases e; exact fun z=>nomatch z
theorem c8j:OpR X (binaryOp .FloorDiv) (Rq X.K b8d):=a6h c5k (fun i j z H Q e k=>⟨i,j,rfl,rfl,(itd e).1,k _ fun S=>by cases (itd e).2; rfl⟩) fun i j z e ps=>by cases (itd e).2; exact fun z=>nomatch z
theorem d5b:OpR X (binaryOp .Mod) (Rq X.K c3e):=a6h c9m (fun i j z H Q e k=>⟨i,j,rfl,rfl,(itd e).1,k _ fun S=>by cases (itd e).2; rfl⟩) fun i j z e ps=>by cases (itd e).2; exact fun z=>nomatch z
theorem d4z:OpR X (binaryOp .Pow) (Rq X.K c8t):=a6h c9k (fun i j z H Q e k=>⟨i,j,rfl,rfl,by
 obtain ⟨h1,h2,h3⟩:=(itd e).1
 have:-(2 ^ 64) < i∧i < 2 ^ 64:=by simpa [small] using h3
 exact ⟨h1,by lia,by lia⟩,k _ fun S=>by cases (itd e).2; rfl⟩) fun i j z e ps=>by cases (itd e).2; exact fun z=>nomatch z
theorem q_gt:OpR X (compareOp .Gt) (Rq X.K gtB):=a6h d5u (fun i j z H Q e k=>⟨i,j,rfl,rfl,k _ fun S=>by cases e; rfl⟩) fun i j z e ps=>by cases e; exact fun z=>nomatch z
theorem q_ge:OpR X (compareOp .GtE) (Rq X.K geB):=a6h d5v (fun i j z H Q e k=>⟨i,j,rfl,rfl,k _ fun S=>by cases e; rfl⟩) fun i j z e ps=>by cases e; exact fun z=>nomatch z
theorem c8m:OpR X (binaryOp .Add) (Rq X.K (a2u fun i j=>some (.int (i + j)))):=a6h c9q (fun i j z H Q e k=>⟨i,j,rfl,rfl,k _ fun S=>by cases e; rfl⟩) fun i j z e ps=>by cases e; exact fun z=>nomatch z
theorem c8i:OpR X (binaryOp .Mult) (Rq X.K (a2u fun i j=>if (small i || small j)=true then some (.int (i * j)) else none)):=a6h c9l (fun i j z H Q e k=>⟨i,j,rfl,rfl,by
 have:=(itd e).1
 simp only [small,Bool.or_eq_true,decide_eq_true_eq] at this
 exact this,k _ fun S=>by cases (itd e).2; rfl⟩) fun i j z e ps=>by cases (itd e).2; exact fun z=>nomatch z
theorem d5c:OpR X (compareOp .Lt) (Rq X.K (a2u fun i j=>some (.bl (decide (i < j))))):=a6h d5s (fun i j z H Q e k=>⟨i,j,rfl,rfl,k _ fun S=>by cases e; rfl⟩) fun i j z e ps=>by cases e; exact fun z=>nomatch z
theorem d5d:OpR X (compareOp .LtE) (Rq X.K (a2u fun i j=>some (.bl (decide (i≤j))))):=a6h d5t (fun i j z H Q e k=>⟨i,j,rfl,rfl,k _ fun S=>by cases e; rfl⟩) fun i j z e ps=>by cases e; exact fun z=>nomatch z
theorem c8l {xs ys:List FV} {x y:V} {z:FV} {pins:List (Addr×Obj)} {σ:L2.St} {s:Shared} {u1 u2:Value} (I:Inv X pins σ H s) (rx:RelV x u1) (ry:RelV y u2) (hs:Same S H) (hv:RH X.K S H (.tup xs) x) (hw:RH X.K S H (.tup ys) y)
  (e:(if xs.length + ys.length≤big then some (FV.tup (xs++ys)) else none)=some z) (k:NewOr X.K S H Q z):wpAny (model X.prog X.w) X.A (binaryOp .Add u1 u2) (EP X pins σ Q) X.xe s:=by
 obtain ⟨hc,rfl⟩:=itd e
 have rv:=hv.val rfl
 have rw':=hw.val rfl
 obtain ⟨a,as,rfl,ha,ra⟩:=hv.tup hs
 obtain ⟨b,bs,rfl,hb,rb⟩:=hw.tup hs
 have l1:=ra.length
 have l2:=rb.length
 have hl:=a1m
 by_cases h0:as=[]
 ·subst h0
  have z2:xs=[]:=List.eq_nil_of_length_eq_zero (by simpa using l1)
  subst z2
  exact c0x pins s σ H _ _ u1 u2 Q I rx ry ⟨a,b,bs,rfl,rfl,SqT.of ha,SqT.of hb,k.old _ (fun _ z=>nomatch z) rw'⟩
 refine c5l pins s σ H _ _ u1 u2 Q I rx ry ⟨a,b,as,bs,rfl,rfl,SqT.of ha,SqT.of hb,h0,by lia,fun z=>?_,fun _ p hp=>k.tup _ _ p rfl (ra.append rb) hp⟩
 subst z
 have z2:ys=[]:=List.eq_nil_of_length_eq_zero (by simpa using l2)
 subst z2
 exact k.old _ (fun _ z=>nomatch z) (by rw [List.append_nil]; exact rv)
theorem c8n:OpR X (binaryOp .Add) (Rq X.K a3b):=by
 intro pins s σ H x y u1 u2 Q I rx ry ⟨S,v,w,z,hs,hv,hw,e,k⟩
 cases v with
 | tup xs =>
  obtain ⟨ys,e1,e⟩:=bnd e
  cases a2c e1
  exact c8l I rx ry hs hv hw e k
 | lst xs =>
  obtain ⟨ys,e1,e⟩:=bnd e
  cases a3s e1
  obtain ⟨hc,rfl⟩:=itd e
  obtain ⟨a,as,rfl,ha,ra⟩:=hv.lst hs
  obtain ⟨b,bs,rfl,hb,rb⟩:=hw.lst hs
  have l1:=ra.length
  have l2:=rb.length
  have hl:=a1m
  exact c9p pins s σ H _ _ u1 u2 Q I rx ry ⟨a,b,as,bs,rfl,rfl,ha,hb,by lia,fun p hp=>k.lst _ _ p rfl (ra.append rb) hp⟩
 | _=>exact c8m pins s σ H x y u1 u2 Q I rx ry ⟨S,_,w,z,hs,hv,hw,e,k⟩
theorem d5a:OpR X (binaryOp .Mult) (Rq X.K b7c):=by
 intro pins s σ H x y u1 u2 Q I rx ry ⟨S,v,w,z,hs,hv,hw,e,k⟩
 cases v with
 | lst xs =>
  obtain ⟨j,e1,e⟩:=bnd e
  cases a0u e1
  obtain ⟨hc,rfl⟩:=itd e
  obtain ⟨a,as,rfl,ha,ra⟩:=hv.lst hs
  obtain rfl:=hw.int
  have l1:=ra.length
  have hl:=a1m
  exact c9j pins s σ H _ _ u1 u2 Q I rx ry ⟨a,j,as,rfl,rfl,ha,hc.1,hc.2.1,by rw [← l1]; lia,fun p hp=>k.lst _ _ p rfl (ra.rep _) hp⟩
 | _=>exact c8i pins s σ H x y u1 u2 Q I rx ry ⟨S,_,w,z,hs,hv,hw,e,k⟩
theorem a0y:∀ {ps:List FV} {xs:List V} {ns:List Int},RVs K S ps xs→a0z ps=some ns→xs=ns.map V.int
 | [],xs,ns,r,e=>by cases (show xs=[] from r); cases e; rfl
 | p :: ps,xs,ns,r,e=>by
  obtain ⟨v,q,rfl,h1,h2⟩:=r
  cases p with
  | int i =>
   obtain ⟨ms,z,rfl⟩:=mpd (show (a0z ps).map (i :: ·)=some ns from e)
   rw [a0y h2 z,List.map_cons,show v=.int i from h1]
  | _=>cases e
theorem a5d:∀ {ps:List FV} {xs:List V} {ns:List Bool},RVs K S ps xs→a4r ps=some ns→xs=ns.map V.bl
 | [],xs,ns,r,e=>by cases (show xs=[] from r); cases e; rfl
 | p :: ps,xs,ns,r,e=>by
  obtain ⟨v,q,rfl,h1,h2⟩:=r
  cases p with
  | bl i =>
   obtain ⟨ms,z,rfl⟩:=mpd (show (a4r ps).map (i :: ·)=some ns from e)
   rw [a5d h2 z,List.map_cons,show v=.bl i from h1]
  | _=>cases e
theorem c3j:∀ a b:List Int,Kq.lexLt a b=HT.lexLt a b
 | [],[]=>by simp [Kq.lexLt,HT.lexLt]
 | [],_ :: _=>by simp [Kq.lexLt,HT.lexLt]
 | _ :: _,[]=>by simp [Kq.lexLt,HT.lexLt]
 | a :: r,b :: q=>by
  simp only [Kq.lexLt,HT.lexLt,c3j r q]
  try (by_cases h:a=b <;> simp [h])
theorem b2z:∀ a b:List Int,Kq.lexLe a b=HT.lexLe a b
 | [],[]=>by simp [Kq.lexLe,HT.lexLe]
 | [],_ :: _=>by simp [Kq.lexLe,HT.lexLe]
 | _ :: _,[]=>by simp [Kq.lexLe,HT.lexLe]
 | a :: r,b :: q=>by
  simp only [Kq.lexLe,HT.lexLe,b2z r q]
  try (by_cases h:a=b <;> simp [h])
theorem q_lt (hu:X.A.units + 64 < cLine):OpR X (compareOp .Lt) (Rq X.K ltB):=by
 intro pins s σ H x y u1 u2 Q I rx ry ⟨S,v,w,z,hs,hv,hw,e,k⟩
 cases v with
 | tup xs =>
  obtain ⟨ys,e1,e⟩:=bnd e
  cases a2c e1
  obtain ⟨ns,e2,e⟩:=bnd e
  obtain ⟨ms,e3,e⟩:=bnd e
  cases e
  obtain ⟨a,as,rfl,ha,ra⟩:=hv.tup hs
  obtain ⟨b,bs,rfl,hb,rb⟩:=hw.tup hs
  cases a0y ra e2; cases a0y rb e3
  exact c9n (by lia) pins s σ H _ _ u1 u2 Q I rx ry ⟨a,b,ns,ms,rfl,rfl,SqT.of ha,SqT.of hb,by rw [← c3j]; exact k.bl⟩
 | _=>exact d5c pins s σ H x y u1 u2 Q I rx ry ⟨S,_,w,z,hs,hv,hw,e,k⟩
theorem q_le (hu:X.A.units + 64 < cLine):OpR X (compareOp .LtE) (Rq X.K leB):=by
 intro pins s σ H x y u1 u2 Q I rx ry ⟨S,v,w,z,hs,hv,hw,e,k⟩
 cases v with
 | tup xs =>
  obtain ⟨ys,e1,e⟩:=bnd e
  cases a2c e1
  obtain ⟨ns,e2,e⟩:=bnd e
  obtain ⟨ms,e3,e⟩:=bnd e
  cases e
  obtain ⟨a,as,rfl,ha,ra⟩:=hv.tup hs
  obtain ⟨b,bs,rfl,hb,rb⟩:=hw.tup hs
  cases a0y ra e2; cases a0y rb e3
  exact c9o (by lia) pins s σ H _ _ u1 u2 Q I rx ry ⟨a,b,ns,ms,rfl,rfl,SqT.of ha,SqT.of hb,by rw [← b2z]; exact k.bl⟩
 | _=>exact d5d pins s σ H x y u1 u2 Q I rx ry ⟨S,_,w,z,hs,hv,hw,e,k⟩
theorem d1a {p q:FV} {b:Bool} (e:eqF p q=some b):(∃ d,p=.shn d∧q=.shn d∧b=true) ∨ ∃ x y,fD a0j p=some x∧fD a0j q=some y∧b=D.eqv x y:=by
 have gen:eqD p q=some b→∃ x y,fD a0j p=some x∧fD a0j q=some y∧b=D.eqv x y:=fun e=>by
  obtain ⟨x,e1,e⟩:=bnd e
  obtain ⟨y,e2,e⟩:=bnd e
  cases e
  exact ⟨x,y,e1,e2,rfl⟩
 unfold eqF at e
 split at e
 ·obtain ⟨rfl,rfl⟩:=@itd _ _ (Classical.propDecidable _) _ _ e
  exact .inl ⟨_,rfl,rfl,rfl⟩
 ·exact .inr (gen e)
theorem c8k (hu:X.A.units + 64 < cLine) (neg:Bool):OpR X (compareOp (if neg then .NotEq else .Eq)) (Rq X.K fun p q=>(eqF p q).map fun r=>.bl (neg != r)):=by
 intro pins s σ H x y v u Q I rx ry ⟨S,p,q,z,hs,rp,rq,e,k⟩
 obtain ⟨b,e',rfl⟩:=mpd (show (eqF p q).map (fun r=>FV.bl (neg != r))=some z from e)
 have fin:=k.bl
 rcases d1a e' with ⟨d,rfl,rfl,rfl⟩ | ⟨dx,dy,e1,e2,rfl⟩
 ·obtain rfl:x=.str (dPy d).shown:=rp.val rfl
  obtain rfl:y=.str (dPy d).shown:=rq.val rfl
  cases neg with
  | false=>exact d5w pins s σ H _ _ v u Q I rx ry ⟨rfl,by simpa using fin⟩
  | true=>exact d5r pins s σ H _ _ v u Q I rx ry ⟨rfl,by simpa using fin⟩
 ·obtain ⟨as,ra⟩:=a2l I hs rp rx e1
  obtain ⟨bs,rb⟩:=a2l I hs rq ry e2
  have hd:X.A.units + min (dPy dx).depth (dPy dy).depth < cLine:=by
   have h1:=a4m e1
   unfold a0j at h1
   lia
  cases neg with
  | false=>exact PySem.SeqAt.compareEq_reads ra rb (a5f dx) (a5f dy) hd ⟨.bl _,H,I,rfl,by rw [b9a]; simpa using fin⟩
  | true=>exact PySem.SeqAt.compareNe_reads ra rb (a5f dx) (a5f dy) hd ⟨.bl _,H,I,rfl,by rw [b9a]; simpa using fin⟩
theorem d5g (hu:X.A.units + 64 < cLine):OpR X (compareOp .Eq) (Rq X.K eqB):=fun pins s σ H x y v u Q I rx ry ⟨S,p,q,z,hs,rp,rq,e,k⟩=>c8k hu false pins s σ H x y v u Q I rx ry ⟨S,p,q,z,hs,rp,rq,by
 obtain ⟨b,e1,rfl⟩:=mpd e
 show (eqF p q).map _=_
 rw [e1]; cases b <;> rfl,k⟩
theorem q_ne (hu:X.A.units + 64 < cLine):OpR X (compareOp .NotEq) (Rq X.K neB):=fun pins s σ H x y v u Q I rx ry ⟨S,p,q,z,hs,rp,rq,e,k⟩=>c8k hu true pins s σ H x y v u Q I rx ry ⟨S,p,q,z,hs,rp,rq,by
 obtain ⟨b,e1,rfl⟩:=mpd e
 show (eqF p q).map _=_
 rw [e1]; cases b <;> rfl,k⟩
theorem d5e (hu:X.A.units + 64 < cLine) (neg:Bool):OpR X (compareOp (if neg then .NotIn else .In)) (Rq X.K fun p q=>(inF p q).map fun r=>.bl (neg != r)):=by
 intro pins s σ H x y v u Q I rx ry ⟨S,p,q,z,hs,rp,rq,e,k⟩
 obtain ⟨b,e',rfl⟩:=mpd (show (inF p q).map (fun r=>FV.bl (neg != r))=some z from e)
 have fin:=k.bl
 obtain ⟨dx,e1,e'⟩:=bnd e'
 obtain ⟨dy,e2,e'⟩:=bnd e'
 obtain ⟨as,ra⟩:=a2l I hs rp rx e1
 obtain ⟨bs,rb⟩:=a2l I hs rq ry e2
 have hd:∀ ys,X.A.units + 1 + min (PyData.depthAll (a4p ys)) (dPy dx).depth < cLine:=fun ys=>by
  have h1:=a4m e1
  unfold a0j at h1
  lia
 cases dy with
 | lst ys =>
  cases e'
  simp only [dPy] at rb
  cases neg with
  | false=>exact PySem.SeqAt.in_list_reads rb ra (a6a ys) (a5f dx) (hd ys) ⟨.bl _,H,I,rfl,by rw [b9b]; simpa using fin⟩
  | true=>exact PySem.SeqAt.notIn_list_reads rb ra (a6a ys) (a5f dx) (hd ys) ⟨.bl _,H,I,rfl,by rw [b9b]; simpa using fin⟩
 | tup ys =>
  cases e'
  simp only [dPy] at rb
  cases neg with
  | false=>exact PySem.SeqAt.in_tuple_reads rb ra (a6a ys) (a5f dx) (hd ys) ⟨.bl _,H,I,rfl,by rw [b9b]; simpa using fin⟩
  | true=>exact PySem.SeqAt.notIn_tuple_reads rb ra (a6a ys) (a5f dx) (hd ys) ⟨.bl _,H,I,rfl,by rw [b9b]; simpa using fin⟩
 | _=>cases e'
theorem q_in (hu:X.A.units + 64 < cLine):OpR X (compareOp .In) (Rq X.K inB):=fun pins s σ H x y v u Q I rx ry ⟨S,p,q,z,hs,rp,rq,e,k⟩=>d5e hu false pins s σ H x y v u Q I rx ry ⟨S,p,q,z,hs,rp,rq,by
 obtain ⟨b,e1,rfl⟩:=mpd e
 show (inF p q).map _=_
 rw [e1]; cases b <;> rfl,k⟩
theorem c6z {ps:List FV} {xs:List V} {i:Int} {p:FV} (r:RVs K S ps xs) (e:atF ps i=some p):∃ v,L2.atI xs i=some v∧RV K S p v:=by
 obtain ⟨j,e1,e2⟩:=bnd e
 obtain ⟨v,h1,h2⟩:=r.get e2
 refine ⟨v,?_,h2⟩
 show (L2.ixN xs.length i).bind (fun j=>xs[j]?)=some v
 rw [← r.length,show L2.ixN ps.length i=some j from e1]
 exact h1
noncomputable def Ri (K:Γd):R2:=fun x y H Q=>∃ S v w z,Same S H∧RH K S H v x∧RH K S H w y∧ixF v w=some z∧∀ u,RV K S z u→Q u H
theorem q_ix:IxR X (Ri X.K):=by
 intro value slice pins s σ H x y v u Q I rx ry ⟨S,p,q,z,hs,rp,rq,e,k⟩ hsl
 obtain ⟨j,e1,e3⟩:=bnd e
 obtain ⟨ps,e2,e4⟩:=bnd e3
 cases a0u e1
 obtain rfl:=rq.int
 obtain ⟨a,xs,rfl,hq,r⟩:=rp.seq hs e2
 obtain ⟨w,h1,h2⟩:=c6z r e4
 cases hb:isL p with
 | true=>rw [hb] at hq; exact c5r value slice pins s σ H _ _ v u Q I rx ry ⟨a,xs,j,w,rfl,rfl,hq,h1,k w h2⟩ hsl
 | false=>rw [hb] at hq; exact d0i value slice pins s σ H _ _ v u Q I rx ry ⟨a,xs,j,w,rfl,rfl,hq,h1,k w h2⟩ hsl
theorem b2j (n d:Nat) (o:Option Int):Kq.sIx n d o=HT.sIx n d o:=by
 cases o with
 | none=>rfl
 | some v=>simp only [Kq.sIx,HT.sIx]; try (split <;> split <;> lia)
theorem b9d {ps:List FV} {xs:List V} {lo hi:Option Int} (r:RVs K S ps xs):RVs K S (b0k ps lo hi) (c3v xs lo hi):=by
 unfold b0k c3v
 rw [b2j,b2j,r.length]
 exact (r.drop _).take _
noncomputable def Rsl (K:Γd):V→Option Int→Option Int→Hp→VK→Prop:=fun x lo hi H Q=>∃ S v z,Same S H∧RH K S H v x∧a4d v lo hi=some z∧NewOr K S H Q z
theorem q_sl:SlR X (Rsl X.K):=by
 intro pins s σ H x v vl vu lo hi sl Q I rx hsl pl pu ⟨S,p,z,hs,rp,e,k⟩
 cases p with
 | tup ps =>
  cases e
  have rv:=rp.val rfl
  obtain ⟨a,xs,rfl,ha,ra⟩:=rp.tup hs
  by_cases hc:HT.sIx xs.length 0 lo=0∧HT.sIx xs.length xs.length hi=xs.length
  ·refine c0e pins s σ H _ v vl vu lo hi sl Q I rx hsl pl pu ⟨a,xs,rfl,SqT.of ha,hc.1,hc.2,k.old _ (fun _ z=>nomatch z) ?_⟩
   have e:b0k ps lo hi=ps:=by
    unfold b0k
    rw [b2j,b2j,ra.length,hc.1,hc.2,List.drop_zero,Nat.sub_zero,List.take_of_length_le (Nat.le_of_eq ra.length)]
   rw [e]; exact rv
  ·exact c7z pins s σ H _ v vl vu lo hi sl Q I rx hsl pl pu ⟨a,xs,rfl,SqT.of ha,hc,fun p hp=>k.tup _ _ p rfl (b9d ra) hp⟩
 | lst ps =>
  cases e
  obtain ⟨a,xs,rfl,ha,ra⟩:=rp.lst hs
  exact c4j pins s σ H _ v vl vu lo hi sl Q I rx hsl pl pu ⟨a,xs,rfl,SqL.of ha,fun p hp=>k.lst _ _ p rfl (b9d ra) hp⟩
 | _=>cases e
end
section
variable {X:Cx} {K:Γd} {S H:Hp} {Q:VK}
noncomputable def Rc (K:Γd) (f:FV→Option FV):List V→Hp→VK→Prop:=fun xs H Q=>∃ S v x z,xs=[x]∧Same S H∧RH K S H v x∧f v=some z∧NewOr K S H Q z
noncomputable def Rc2 (K:Γd) (f:FV→FV→Option FV):List V→Hp→VK→Prop:=fun xs H Q=>∃ S v w x y z,xs=[x,y]∧Same S H∧RH K S H v x∧RH K S H w y∧f v w=some z∧NewOr K S H Q z
theorem c7y {b:Bool} {a:Addr} {xs:List V} (h:SqB b K H a xs):SqL K H a xs ∨ SqT K H a xs:=by cases b; exact .inr h; exact .inl h
theorem d8w:a1b X (.builtin "len") (Rc X.K b0w):=by
 rintro pins s σ H xs us Q I r ⟨S,v,x,z,rfl,hs,rv,e,k⟩
 obtain ⟨ps,e1,rfl⟩:=mpd e
 obtain ⟨a,ys,rfl,hq,ry⟩:=rv.seq hs e1
 refine b0p pins s σ H _ us Q I r ⟨a,ys,rfl,c7y hq,?_⟩
 rw [← ry.length]
 exact k.int
theorem d9a:a1b X (.builtin "abs") (Rc X.K d2g):=by
 rintro pins s σ H xs us Q I r ⟨S,v,x,z,rfl,hs,rv,e,k⟩
 obtain ⟨i,e1,rfl⟩:=mpd e
 cases a0u e1
 obtain rfl:=rv.int
 exact c2h pins s σ H _ us Q I r ⟨i,rfl,k.int⟩
theorem d8x:a1b X (.type "int") (Rc X.K a9g):=by
 rintro pins s σ H xs us Q I r ⟨S,v,x,z,rfl,hs,rv,e,k⟩
 cases v with
 | int i =>
  cases e
  obtain rfl:=rv.int
  exact b0q pins s σ H _ us Q I r (.inl ⟨i,rfl,k.int⟩)
 | bl b =>
  cases e
  obtain rfl:=rv.bl
  exact b0q pins s σ H _ us Q I r (.inr ⟨b,rfl,k.int⟩)
 | _=>cases e
theorem c6v:a1b X (.type "tuple") (Rc X.K a6r):=by
 rintro pins s σ H xs us Q I r ⟨S,v,x,z,rfl,hs,rv,e,k⟩
 obtain ⟨ps,e1,rfl⟩:=mpd e
 obtain ⟨a,ys,rfl,hq,ry⟩:=rv.seq hs e1
 cases v with
 | tup qs=>cases e1; exact a2p pins s σ H _ us Q I r ⟨a,ys,rfl,.inr ⟨hq,k.old _ (fun _ z=>nomatch z) (rv.val rfl)⟩⟩
 | lst qs=>exact a2p pins s σ H _ us Q I r ⟨a,ys,rfl,.inl ⟨hq,fun l hl=>k.tup _ _ l rfl ry hl⟩⟩
 | scr qs=>exact a2p pins s σ H _ us Q I r ⟨a,ys,rfl,.inl ⟨hq,fun l hl=>k.tup _ _ l rfl ry hl⟩⟩
 | _=>cases e1
theorem d2a:a1b X (.type "list") (Rc X.K a8i):=by
 rintro pins s σ H xs us Q I r ⟨S,v,x,z,rfl,hs,rv,e,k⟩
 obtain ⟨ps,e1,rfl⟩:=mpd e
 obtain ⟨a,ys,rfl,hq,ry⟩:=rv.seq hs e1
 exact b0o pins s σ H _ us Q I r ⟨a,ys,rfl,c7y hq,fun l hl=>k.lst _ _ l rfl ry hl⟩
theorem d1y (hc:X.calm=true):a1b X (.builtin "min") (Rc2 X.K b7e):=by
 rintro pins s σ H xs us Q I r ⟨S,v,w,x,y,z,rfl,hs,rv,rw',e,k⟩
 obtain ⟨i,e1,e2⟩:=bnd e
 obtain ⟨j,e3,e4⟩:=bnd e2
 cases a0u e1; cases a0u e3; cases e4
 obtain rfl:=rv.int
 obtain rfl:=rw'.int
 exact b9j hc pins s σ H _ us Q I r ⟨i,j,rfl,k.int⟩
theorem Vals.mapInt {ns:List Int}:∀ {us:List Value},Vals (ns.map V.int) us→∀ i:Nat,i < ns.length→∃ t,us[i]?=some (.int (ns.getD i 0) t):=fun {us} r i hi=>by
 obtain ⟨u,e,t,rfl⟩:=r.get (i:=i) (x:=.int (ns.getD i 0)) (by simp [hi])
 exact ⟨t,e⟩
theorem a1t (ns:List Int):∀ j,j≤ns.length→preSum (fun i=>ns.getD i 0) j=(ns.take j).sum
 | 0,_=>by simp [preSum]
 | j + 1,h=>by
  have hj:j < ns.length:=h
  show preSum _ j + ns.getD j 0=_
  rw [a1t ns j (by lia),List.take_succ_eq_append_getElem hj,List.sum_append]
  simp [List.getD,hj]
theorem b5v (B:Int) (hB:0≤B):∀ ns:List Int,(∀ n∈ns,-B≤n∧n≤B)→-(B * ns.length)≤ns.sum∧ns.sum≤B * ns.length
 | [],_=>by simp
 | n :: r,h=>by
  have ih:=b5v B hB r fun m hm=>h m (Γh _ hm)
  have hn:=h n Γn
  rw [List.sum_cons,List.length_cons]
  have e:B * ((r.length + 1:Nat):Int)=B * (r.length:Int) + B:=by rw [Int.natCast_add,Int.mul_add]; simp
  rw [e]
  lia
theorem b5a (hc:X.calm=true):a1b X (.builtin "sum") (fun xs H Q=>∃ (a:Addr) (ns:List Int),xs=[.ref a]∧SqL X.K H a (ns.map V.int)∧ns.length≤big∧(∀ n∈ns,-(2 ^ 40)≤n∧n≤2 ^ 40)∧Q (.int ns.sum) H):=by
 intro pins s σ H xs us Q I r h
 obtain ⟨a,ns,rfl,hq,hz,hb,q⟩:=h
 obtain ⟨u,rfl,rx⟩:=a3k r
 cases rx
 obtain ⟨its,r',pl,hz'⟩:=I.list hq
 have hlen:ns.length=its.length:=by have:=r'.length; simpa using this
 have alt:a < s.heap.objs.size:=by obtain ⟨_,e,_⟩:=pl.isList; exact Γl e
 have hh:X.A.in1.handled=none:=I.ok.hd hc
 refine call_sum_walk (wpAny_pyIter_list pl.isList ?_)
 refine ⟨s.heap.objs.size,_,_,_,_,_,fun i=>ns.getD i 0,rfl,Walks.list hh s.heap.objs.size a (Γo alt) its.toArray,⟨⟨_,Γm _ rfl,rfl,rfl⟩,pl.isList.at fun o e=>Γc _ e⟩,?_,?_,?_,?_⟩
 ·intro b hb'
  simp at hb'
  rcases hb' with rfl | rfl
  ·show _ < (s.heap.push _).objs.size; rw [Heap.size_push]; exact Nat.lt_succ_self _
  ·show _ < (s.heap.push _).objs.size; rw [Heap.size_push]; exact Nat.lt_succ_of_lt alt
 ·intro i v hv
  have hv:its.toArray[i]?=some v:=hv
  have hi:i < ns.length:=by rw [hlen]; simpa using (Array.getElem?_eq_some_iff.mp hv).1
  obtain ⟨t,e⟩:=Vals.mapInt r' i hi
  refine ⟨t,?_⟩
  have e':its.toArray[i]?=some (.int (ns.getD i 0) t):=by simpa using e
  rw [hv] at e'
  exact Option.some.inj e'
 ·intro j hj
  have hj':j < ns.length:=by rw [hlen]; simpa using hj
  have hm:ns.getD j 0∈ns:=by simp [List.getD,hj']
  refine ⟨?_,?_⟩
  ·have:=hb _ hm
   show -(2 ^ 63)≤ns.getD j 0∧ns.getD j 0 < 2 ^ 63
   lia
  ·rw [a1t ns (j + 1) hj']
   have b2:=b5v 1099511627776 (by decide) (ns.take (j + 1)) fun n hn=>by have:=hb n (List.mem_of_mem_take hn); lia
   have l2:(ns.take (j + 1)).length≤100000:=by rw [List.length_take]; unfold big at hz; lia
   unfold InLong; lia
 ·intro h' tk t' hk
  have e:preSum (fun i=>ns.getD i 0) its.toArray.size=ns.sum:=by
   rw [List.size_toArray,← hlen,a1t ns _ (Γi _),List.take_length]
  rw [e]
  refine ⟨.int ns.sum,H,?_,⟨t',rfl⟩,q⟩
  exact I.kept (t':=tk) fun b o e=>hk b o (by simp; exact Γo (Γl e)) (Γc _ e)
theorem b2c {prog:Program} {w:World} {A:Around} {its:List Value} {bs:List Bool} (r:Vals (bs.map V.bl) its):TruthOf prog w A (fun i v=>its.toArray[i]?=some v) (fun i=>bs.getD i false):=by
 intro i v s Q E hv hq
 have hlen:bs.length=its.length:=by have:=r.length; simpa using this
 have hi:i < bs.length:=by rw [hlen]; simpa using (Array.getElem?_eq_some_iff.mp hv).1
 obtain ⟨u,e,ru⟩:=r.get (i:=i) (x:=.bl (bs.getD i false)) (by simp [hi])
 have e':its.toArray[i]?=some u:=by simpa using e
 rw [hv] at e'
 cases e'
 cases ru
 exact Γb hq
theorem b6e (bs:List Bool):(List.range bs.length).all (fun i=>bs.getD i false)=bs.all id:=by
 rw [Bool.eq_iff_iff]
 simp only [List.all_eq_true,List.mem_range,id]
 constructor
 ·intro h b hb
  obtain ⟨i,hi,e⟩:=List.mem_iff_getElem.mp hb
  have:=h i hi
  simpa [List.getD,hi,e] using this
 ·intro h i hi
  have:=h bs[i] (List.getElem_mem hi)
  simpa [List.getD,hi] using this
theorem b6d (bs:List Bool):(List.range bs.length).any (fun i=>bs.getD i false)=bs.any id:=by
 rw [Bool.eq_iff_iff]
 simp only [List.any_eq_true,List.mem_range,id]
 constructor
 ·rintro ⟨i,hi,e⟩
  exact ⟨bs[i],List.getElem_mem hi,by simpa [List.getD,hi] using e⟩
 ·rintro ⟨b,hb,e⟩
  obtain ⟨i,hi,e'⟩:=List.mem_iff_getElem.mp hb
  exact ⟨i,hi,by simpa [List.getD,hi,e'] using e⟩
theorem b5d (hc:X.calm=true):a1b X (.builtin "all") (fun xs H Q=>∃ (a:Addr) (bs:List Bool),xs=[.ref a]∧SqL X.K H a (bs.map V.bl)∧Q (.bl (bs.all id)) H):=by
 intro pins s σ H xs us Q I r h
 obtain ⟨a,bs,rfl,hq,q⟩:=h
 obtain ⟨u,rfl,rx⟩:=a3k r
 cases rx
 obtain ⟨its,r',pl,hz'⟩:=I.list hq
 have hlen:bs.length=its.length:=by have:=r'.length; simpa using this
 have alt:a < s.heap.objs.size:=by obtain ⟨_,e,_⟩:=pl.isList; exact Γl e
 have hh:X.A.in1.handled=none:=I.ok.hd hc
 refine call_all_walk (wpAny_pyIter_list pl.isList ?_)
 refine ⟨s.heap.objs.size,_,_,_,_,_,fun i=>bs.getD i false,rfl,Walks.list hh s.heap.objs.size a (Γo alt) its.toArray,⟨⟨_,Γm _ rfl,rfl,rfl⟩,pl.isList.at fun o e=>Γc _ e⟩,b2c r',?_⟩
 intro h' tk hk
 rw [List.size_toArray,← hlen,b6e]
 exact ⟨.bl _,H,I.kept (t':=tk) fun b o e=>hk b o (by simp; exact Γo (Γl e)) (Γc _ e),rfl,q⟩
theorem b5c (hc:X.calm=true):a1b X (.builtin "any") (fun xs H Q=>∃ (a:Addr) (bs:List Bool),xs=[.ref a]∧SqL X.K H a (bs.map V.bl)∧Q (.bl (bs.any id)) H):=by
 intro pins s σ H xs us Q I r h
 obtain ⟨a,bs,rfl,hq,q⟩:=h
 obtain ⟨u,rfl,rx⟩:=a3k r
 cases rx
 obtain ⟨its,r',pl,hz'⟩:=I.list hq
 have hlen:bs.length=its.length:=by have:=r'.length; simpa using this
 have alt:a < s.heap.objs.size:=by obtain ⟨_,e,_⟩:=pl.isList; exact Γl e
 have hh:X.A.in1.handled=none:=I.ok.hd hc
 refine call_any_walk (wpAny_pyIter_list pl.isList ?_)
 refine ⟨s.heap.objs.size,_,_,_,_,_,fun i=>bs.getD i false,rfl,Walks.list hh s.heap.objs.size a (Γo alt) its.toArray,⟨⟨_,Γm _ rfl,rfl,rfl⟩,pl.isList.at fun o e=>Γc _ e⟩,b2c r',?_⟩
 intro h' tk hk
 rw [List.size_toArray,← hlen,b6d]
 exact ⟨.bl _,H,I.kept (t':=tk) fun b o e=>hk b o (by simp; exact Γo (Γl e)) (Γc _ e),rfl,q⟩
theorem c6w (hc:X.calm=true):a1b X (.builtin "sum") (Rc X.K d2k):=by
 rintro pins s σ H xs us Q I r ⟨S,v,x,z,rfl,hs,rv,e,k⟩
 obtain ⟨ps,e1,e2⟩:=bnd e
 obtain ⟨n,e3,rfl⟩:=mpd e2
 obtain ⟨ns,e4,e5⟩:=bnd e3
 obtain ⟨hb,rfl⟩:=itd e5
 obtain ⟨a,ys,rfl,hq,ry⟩:=rv.list hs e1
 cases a0y ry e4
 refine b5a hc pins s σ H _ us Q I r ⟨a,ns,rfl,hq,hb.1,fun n hn=>?_,k.int⟩
 have:=List.all_eq_true.mp hb.2 n hn
 simpa [a5k] using this
theorem d8z (hc:X.calm=true):a1b X (.builtin "all") (Rc X.K d3t):=by
 rintro pins s σ H xs us Q I r ⟨S,v,x,z,rfl,hs,rv,e,k⟩
 obtain ⟨ps,e1,e2⟩:=bnd e
 obtain ⟨bs,e3,rfl⟩:=mpd e2
 obtain ⟨a,ys,rfl,hq,ry⟩:=rv.list hs e1
 cases a5d ry e3
 exact b5d hc pins s σ H _ us Q I r ⟨a,bs,rfl,hq,k.bl⟩
theorem d8y (hc:X.calm=true):a1b X (.builtin "any") (Rc X.K d3s):=by
 rintro pins s σ H xs us Q I r ⟨S,v,x,z,rfl,hs,rv,e,k⟩
 obtain ⟨ps,e1,e2⟩:=bnd e
 obtain ⟨bs,e3,rfl⟩:=mpd e2
 obtain ⟨a,ys,rfl,hq,ry⟩:=rv.list hs e1
 cases a5d ry e3
 exact b5c hc pins s σ H _ us Q I r ⟨a,bs,rfl,hq,k.bl⟩
theorem a6y:∀ (xs:List Int) (b x:Int),a1c b (xs++[x])=if x < a1c b xs then x else a1c b xs
 | [],b,x=>rfl
 | y :: ys,b,x=>by
  show a1c (if y < b then y else b) (ys++[x])=_
  rw [a6y ys]; rfl
theorem b0a (n:Int) (r:List Int):∀ k,k≤r.length→(n :: r)[argBest (fun i j=>decide ((n :: r).getD i 0 < (n :: r).getD j 0)) k]?=some (a1c n (r.take k))
 | 0,_=>by simp [argBest,a1c]
 | k + 1,h=>by
  have ih:=b0a n r k (by lia)
  have hk:k < r.length:=h
  have e1:(n :: r).getD (argBest (fun i j=>decide ((n :: r).getD i 0 < (n :: r).getD j 0)) k) 0=a1c n (r.take k):=by rw [List.getD_eq_getElem?_getD,ih]; rfl
  have e2:(n :: r).getD (k + 1) 0=r[k]:=by simp [List.getD,hk]
  rw [List.take_succ_eq_append_getElem hk,a6y]
  simp only [argBest,e1,e2,decide_eq_true_eq]
  split
  ·simp [hk]
  ·exact ih
theorem d1w (hc:X.calm=true):a1b X (.builtin "min") (Rc X.K c1e):=by
 rintro pins s σ H xs us Q I r ⟨S,v,x,z,rfl,hs,rv,e,k⟩
 obtain ⟨ps,e1,e2⟩:=bnd e
 obtain ⟨ns,e3,e4⟩:=bnd e2
 obtain ⟨a,ys,rfl,hq,ry⟩:=rv.list hs e1
 obtain ⟨u,rfl,ru⟩:=a3k r
 cases (show u=Value.ref a from ru)
 obtain ⟨its,r',pl,hz'⟩:=I.list hq
 have hh:X.A.in1.handled=none:=I.ok.hd hc
 have hlen:ys.length=its.length:=r'.length
 cases a0y ry e3
 cases ns with
 | nil=>cases e4
 | cons n r =>
  cases e4
  have hl2:its.length=r.length + 1:=by rw [← hlen]; simp
  have it:∀ (i:Nat) (v:Value),its.toArray[i]?=some v→∃ t,v=Value.int ((n :: r).getD i 0) t:=fun i v hv=>by
   have hv:its[i]?=some v:=by simpa using hv
   have hi:=(List.getElem?_eq_some_iff.mp hv).1
   obtain ⟨t,e⟩:=Vals.mapInt r' i (by simp; lia)
   rw [hv] at e
   exact ⟨t,Option.some.inj e⟩
  refine a7h (bt:=fun i j=>decide ((n :: r).getD i 0 < (n :: r).getD j 0)) hh pl.isList (by simp; lia) (fun i j u v s1 Q1 E1 _ hi hj q1=>?_) fun v h' tk hv hk=>?_
  ·obtain ⟨t1,rfl⟩:=it i u hi
   obtain ⟨t2,rfl⟩:=it j v hj
   exact PyProof.Rows.lt_int q1
  ·have hv:its[argBest (fun i j=>decide ((n :: r).getD i 0 < (n :: r).getD j 0)) (its.toArray.size - 1)]?=some v:=by simpa using hv
   have hb:=b0a n r r.length (Γi _)
   rw [List.take_length] at hb
   have hsz:its.toArray.size - 1=r.length:=by simp; lia
   rw [hsz] at hv
   generalize argBest (fun i j=>decide ((n :: r).getD i 0 < (n :: r).getD j 0)) r.length=z at hv hb
   obtain ⟨t,rfl⟩:=it z v (by simpa using hv)
   rw [List.getD_eq_getElem?_getD,hb]
   exact ⟨.int (a1c n r),H,I.kept (t':=tk) hk,⟨t,rfl⟩,k.int⟩
theorem b2e (hu:X.A.units + 64 < cLine) (hg:X.A.guards=some []) {pins:List (Addr×Obj)} {s:Shared} {σ:L2.St} {v z:FV} {a:Addr} (I:Inv X pins σ H s) (hs:Same S H) (rv:RH X.K S H v (.ref a)) (e:d4k v=some z) (k:NewOr X.K S H Q z):wpAny (model X.prog X.w) X.A (PySem.call (.type "str") [.ref a]) (EP X pins σ Q) X.xe s:=by
 obtain ⟨d,e1,e2⟩:=bnd e
 obtain ⟨hf,rfl⟩:=itd e2
 obtain ⟨as,ra⟩:=a2l I hs rv (show RelV (.ref a) (.ref a) from rfl) e1
 have hdp:=a4m e1
 unfold a0j at hdp
 refine str_of_reads (h₀:=s.heap) ra (c6q d hf.1).1 (fun z=>by rw [b3m] at z; cases z) hg (by lia) (fun _ _ h=>h) (fun h' u' tk hk=>?_) (c6p hf.1 hf.2)
 exact ⟨.str (dPy d).shown,H,I.kept (t':=tk) hk,⟨u',rfl⟩,k.old _ (fun _ z=>nomatch z) rfl⟩
theorem d8v (hu:X.A.units + 64 < cLine) (hg:X.A.guards=some []):a1b X (.type "str") (Rc X.K c7w):=by
 rintro pins s σ H xs us Q I r ⟨S,v,x,z,rfl,hs,rv,e,k⟩
 obtain ⟨u,rfl,ru⟩:=a3k r
 cases v with
 | int i =>
  obtain ⟨hc,rfl⟩:=itd e
  obtain rfl:=rv.int
  exact b0n pins s σ H _ _ Q I r ⟨i,rfl,by have:=log2_lt (k:=150) (by decide) hc; lia,k.str⟩
 | non =>
  cases e
  cases (show x=.non from rv.val rfl); cases (show u=_ from ru)
  exact PySem.P.str_of_none ⟨.str _,H,I.tok _,⟨_,rfl⟩,k.str⟩
 | bl b =>
  cases e
  obtain rfl:=rv.bl
  cases (show u=_ from ru)
  exact PySem.P.str_of_bool ⟨.str (Γe (if b then "True" else "False")),H,I.tok _,⟨_,by cases b <;> rfl⟩,k.str⟩
 | str x =>
  cases e
  cases (show _=V.str _ from rv.val rfl); obtain ⟨t,rfl⟩:=ru
  exact PySem.P.str_of_str ⟨.str _,H,I,⟨_,rfl⟩,k.str⟩
 | tup xs =>
  obtain ⟨a,ys,rfl,_⟩:=rv.tup hs
  cases (show u=_ from ru)
  exact b2e hu hg I hs rv e k
 | lst xs =>
  obtain ⟨a,ys,rfl,_⟩:=rv.lst hs
  cases (show u=_ from ru)
  exact b2e hu hg I hs rv e k
 | _=>cases e
end
structure CC where
 N:List Str
 sc:List (Str×NameKind)
 fns:List Str
 md:Md
 top:Bool
 oc:List (Str×NameKind)
noncomputable def CC.vis (C:CC) (x:Str):Bool:=match C.sc.lookup x with
 | some .local=>true
 | some .cell=>true
 | some .free=>true
 | _=>false
noncomputable def CC.gl (C:CC) (x:Str):Bool:=decide (C.sc.lookup x=some .globalImplicit)
noncomputable def CC.loc (C:CC) (x:Str):Bool:=match C.sc.lookup x with
 | some .local=>true
 | some .cell=>C.top || C.oc.lookup x == some .cell
 | _=>false
noncomputable def CC.nm (C:CC) (i:Nat) (x:Str):Bool:=decide (C.N[i]?=some x) && C.vis x && !(x == ("__debug__":Str)) && !(x == ("__classdict__":Str))
noncomputable def bltNames:List String:=["len","abs","int","sum","all","any","min","max","tuple","list","isinstance","range","zip","bool","str","enumerate","reversed","sorted","dict","set"]
structure Good (X:Cx) (C:CC) (n:Nat) (sp:Γd→Nat→Sp):Prop where
 N:X.N=C.N
 sc:X.env.scope.names=C.sc
 kind:X.env.scope.kind=.function
 nd:C.N.Nodup
 calm:X.calm=true
 fn:∀ x,(C.top || C.oc.lookup x == some .cell)=true→X.fn x=true
 room:Room n X.A
 fns:∀ (f:Nat) (x:Str),C.fns[f]?=some x→∃ fa fd ps,X.mg x=some (.ref fa)∧PySem.W.keepIn X.K (.ref fa)=true∧Binds X.K fd ps []∧FnOk X.prog X.w X.K X.mg X.base CX0 n fa fd ps (sp X.K f)
 blt:∀ b∈bltNames,X.mg (Γe b)=none
theorem b2 {a b:Bool} (h:(a && b)=true):a=true∧b=true:=by simpa using h
theorem nb {a:Bool} (h:(!a)=true):a=false:=by simpa using h
theorem de {p:Prop} [Decidable p] (h:decide p=true):p:=by simpa using h
noncomputable def lv (K:Γd) (md:Md) (e:EW):TE:=fun σ H Q=>∃ c L S Q0,Iv K c md L σ S H∧e L Q0∧∀ v L',Q0 v L'→∀ x S' H',RV K S' v x→Iv K c md L' σ S' H'→Same S S'→Q x H'
noncomputable def lr (K:Γd) (md:Md) (e:EW):TE:=fun σ H Q=>∃ c L S Q0,Iv K c md L σ S H∧e L Q0∧∀ v L',Q0 v L'→∀ x S' H',RH K S' H' v x→Iv K c md L' σ S' H'→Same S S'→Q x H'
noncomputable def b1z (c:Cn) (md:Md) (L:a0a) (σ:L2.St) (a:Addr):Prop:=c.H0 a=none∧(∀ p∈c.pr,p.1≠a)∧∀ j w,a0k md j≠.imm→L[j]?=some (some w)→σ[j]?≠some (some (.ref a))
noncomputable def lf (K:Γd) (md:Md) (e:EW):TE:=fun σ H Q=>∃ c L S Q0,Iv K c md L σ S H∧e L Q0∧∀ v L',Q0 v L'→∀ a S' H',a3n K S' H' a v→b1z c md L' σ a→Iv K c md L' σ S' H'→Same S S'→Q (.ref a) H'
noncomputable def lb (K:Γd) (md:Md) (e:BW):TT:=fun σ H Q=>∃ c L S Q0,Iv K c md L σ S H∧e L Q0∧∀ v L',Q0 v L'→∀ S' H',Iv K c md L' σ S' H'→Same S S'→Q v H'
noncomputable def la (K:Γd) (md:Md) (e:AW):TA:=fun σ H Q=>∃ c L S Q0,Iv K c md L σ S H∧e L Q0∧∀ v L',Q0 v L'→∀ x S' H',RVs K S' v x→Iv K c md L' σ S' H'→Same S S'→Q x H'
noncomputable def lo (K:Γd) (md:Md) (e:OW):TO:=fun σ H Q=>∃ c L S Q0,Iv K c md L σ S H∧e L Q0∧∀ v L',Q0 v L'→∀ S' H',Iv K c md L' σ S' H'→Same S S'→Q v H'
noncomputable def FE (X:Cx) (C:CC) (x:Expr) (e:EW):Prop:=PE X.nox x (lv X.K C.md e)
noncomputable def FR (X:Cx) (C:CC) (x:Expr) (e:EW):Prop:=PE X.nox x (lr X.K C.md e)
noncomputable def FF (X:Cx) (C:CC) (x:Expr) (e:EW):Prop:=PE X.nox x (lf X.K C.md e)
noncomputable def FB (X:Cx) (C:CC) (x:Expr) (e:BW):Prop:=PT X.nox x (lb X.K C.md e)
noncomputable def FW (X:Cx) (C:CC) (x:Expr) (e:BW):Prop:=PW X.nox x (lb X.K C.md e)
noncomputable def FA (X:Cx) (C:CC) (x:List Expr) (e:AW):Prop:=PA X.nox x (la X.K C.md e)
noncomputable def FO (X:Cx) (C:CC) (x:Option Expr) (e:OW):Prop:=L2.PO X.nox x (lo X.K C.md e)
section
variable {X:Cx}
theorem PE.imp {e:Expr} {t u:TE} (h:PE X e t) (f:∀ σ H Q,u σ H Q→t σ H Q):PE X e u:=fun pins s σ H Q I hu=>h pins s σ H Q I (f σ H Q hu)
theorem PT.imp {e:Expr} {t u:TT} (h:PT X e t) (f:∀ σ H Q,u σ H Q→t σ H Q):PT X e u:=fun pins s σ H Q I hu=>h pins s σ H Q I (f σ H Q hu)
theorem PW.imp {e:Expr} {t u:TT} (h:PW X e t) (f:∀ σ H Q,u σ H Q→t σ H Q):PW X e u:=fun w pins s σ H Q I hu=>h w pins s σ H Q I (f σ H Q hu)
theorem PA.imp {e:List Expr} {t u:TA} (h:PA X e t) (f:∀ σ H Q,u σ H Q→t σ H Q):PA X e u:=fun p pins s σ H Q I hu=>h p pins s σ H Q I (f σ H Q hu)
theorem PO.imp {e:Option Expr} {t u:TO} (h:L2.PO X e t) (f:∀ σ H Q,u σ H Q→t σ H Q):L2.PO X e u:=fun pins s σ H Q I hu=>h pins s σ H Q I (f σ H Q hu)
end
section
variable {X:Cx} {C:CC} {n:Nat} {sp:Γd→Nat→Sp}
theorem Good.vis (G:Good X C n sp) {x:Str} (h:C.vis x=true):Vis X.env.scope x:=by
 unfold CC.vis at h
 unfold Vis
 rw [G.sc]
 split at h
 ·rename_i e; exact .inl e
 ·rename_i e; exact .inr (.inl e)
 ·rename_i e; exact .inr (.inr e)
 ·cases h
theorem Good.gl (G:Good X C n sp) {x:Str} (h:C.gl x=true):Gl X x:=by
 show X.env.scope.names.lookup x=_
 rw [G.sc]; exact de h
theorem Good.loc (G:Good X C n sp) {x:Str} (h:C.loc x=true):L2.Loc X.env.scope x∧(X.fn x=true ∨ X.env.scope.names.lookup x=some .local):=by
 unfold CC.loc at h
 unfold L2.Loc
 rw [G.sc]
 split at h
 ·rename_i e; exact ⟨.inl e,.inr e⟩
 ·rename_i e; exact ⟨.inr e,.inl (G.fn x h)⟩
 ·cases h
variable {K:Γd} {c:Cn} {md:Md} {L:a0a} {σ:L2.St} {S H:Hp}
theorem Iv.rd (I:Iv K c md L σ S H) {i:Nat} {v:FV} (e:lk L i=some v):∃ x,σ[i]?=some (some x)∧RH K S H v x:=by
 rw [a2s] at e
 by_cases m:a0k md i=.imm
 ·obtain ⟨x,h1,h2⟩:=I.imm i v m e
  exact ⟨x,h1,.inl h2⟩
 ·obtain ⟨a,h1,h2,_⟩:=I.own i v m e
  exact ⟨_,h1,.inr ⟨a,rfl,h2⟩⟩
theorem b1i {Q:VK} {z:FV} (I:Iv K c md L σ S H) (k:∀ x S' H',RV K S' z x→Iv K c md L σ S' H'→Same S S'→Q x H'):NewOr K S H Q z where
 old:=fun x _ r=>k x S H r I (Same.refl S)
 tup:=fun ps xs p e r hp=>k _ _ _ (by rw [e]; exact ⟨p,xs,rfl,a0e,r.mono (a0p (I.sn hp))⟩) (I.new hp _) (a0p (I.sn hp))
 lst:=fun ps xs p e r hp=>k _ _ _ (by rw [e]; exact ⟨p,xs,rfl,a0e,r.mono (a0p (I.sn hp))⟩) (I.new hp _) (a0p (I.sn hp))
theorem Iv.fresh (I:Iv K c md L σ S H) {p:Addr} (h:H p=none):b1z c md L σ p:=by
 refine ⟨I.h0 h,fun q hq z=>?_,fun j w m e z=>?_⟩
 ·rw [← z,(I.prs q hq).1] at h; cases h
 ·obtain ⟨a,e1,⟨_,_,_,_,e2,_⟩,_⟩:=I.own j w m e
  rw [z] at e1; cases e1
  rw [h] at e2; cases e2
theorem c9s {Q:VK} {z:FV} (I:Iv K c md L σ S H) (hz:∃ ps,z=.lst ps) (k:∀ a S' H',a3n K S' H' a z→b1z c md L σ a→Iv K c md L σ S' H'→Same S S'→Q (.ref a) H'):NewOr K S H Q z where
 old:=fun x n _=>let ⟨ps,e⟩:=hz; absurd e (n ps)
 tup:=fun ps xs p e r hp=>by obtain ⟨qs,e2⟩:=hz; rw [e2] at e; cases e
 lst:=fun ps xs p e r hp=>by subst e; exact k p S _ ⟨I.sn hp,ps,xs,rfl,a0e,r⟩ (I.fresh hp) (I.lay hp _) (Same.refl S)
theorem fe_var (G:Good X C n sp) {i:Nat} {x:Str} {pos:Pos} (h:C.nm i x=true) (m:a0k C.md i=.imm):FE X C (.Name x pos) (a0c i):=by
 have h:=b2 h; have h1:=b2 h.1; have h2:=b2 h1.1
 refine PE.imp (b6s (by show X.N[i]?=_; rw [G.N]; exact de h2.1) (G.vis h2.2) (nb h1.2) (nb h.2)) fun σ H Q ⟨c,L,S,Q0,I,h,k⟩=>?_
 obtain ⟨v,e,q⟩:=wpx h
 obtain ⟨x,e1,r⟩:=I.imm i v m ((a2s _ _ _).mp e)
 exact ⟨x,e1,k v L q x S H r I (Same.refl S)⟩
theorem fr_var (G:Good X C n sp) {i:Nat} {x:Str} {pos:Pos} (h:C.nm i x=true):FR X C (.Name x pos) (a0c i):=by
 have h:=b2 h; have h1:=b2 h.1; have h2:=b2 h1.1
 refine PE.imp (b6s (by show X.N[i]?=_; rw [G.N]; exact de h2.1) (G.vis h2.2) (nb h1.2) (nb h.2)) fun σ H Q ⟨c,L,S,Q0,I,h,k⟩=>?_
 obtain ⟨v,e,q⟩:=wpx h
 obtain ⟨x,e1,r⟩:=I.rd e
 exact ⟨x,e1,k v L q x S H r I (Same.refl S)⟩
theorem fr_of {x:Expr} {e:EW} (h:FE X C x e):FR X C x e:=PE.imp h fun σ H Q ⟨c,L,S,Q0,I,h,k⟩=>⟨c,L,S,Q0,I,h,fun v L' q x S' H' r=>k v L' q x S' H' (.inl r)⟩
theorem d7v {x:Expr} {v:FV} {u:V} (h:PE X.nox x (tC u)) (r:∀ S,RV X.K S v u):FE X C x (eC v):=PE.imp h fun σ H Q ⟨c,L,S,Q0,I,h,k⟩=>k v L h u S H (r S) I (Same.refl S)
theorem d0w {i j pos}:FE X C (.Constant (.int i) j pos) (eC (.int i)):=d7v c9d fun _=>rfl
theorem fe_bl {i j pos}:FE X C (.Constant (.bool i) j pos) (eC (.bl i)):=d7v d5m fun _=>rfl
theorem fe_non {j pos}:FE X C (.Constant .none j pos) (eC .non):=d7v c9b fun _=>rfl
section
variable {f:FV→FV→Option FV} {a b:Expr} {ea eb:EW} {pos:Pos} {i:Nat} {x:Str}
theorem a1g (G:Good X C n sp) (h:C.nm i x=true):PE X.nox (.Name x pos) (c7j i):=by
 have h:=b2 h; have h1:=b2 h.1; have h2:=b2 h1.1
 exact b6s (by show X.N[i]?=_; rw [G.N]; exact de h2.1) (G.vis h2.2) (nb h1.2) (nb h.2)
theorem go2 {r:R2} {σ:L2.St} {H:Hp} {Q:VK} (hh:∃ (c:Cn) (L:a0a) (S:Hp) (Q0:FV→FV→a0a→Prop),Iv K c md L σ S H∧ea L (fun x L1=>eb L1 fun y L2=>Q0 x y L2)∧∀ v w L' S' H' x y,Q0 v w L'→RV K S' v x→RH K S' H' w y→Iv K c md L' σ S' H'→Same S S'→r x y H' Q):tOp r (lv K md ea) (lr K md eb) σ H Q:=by
 obtain ⟨c,L,S,Q0,I,h,k⟩:=hh
 exact ⟨c,L,S,_,I,h,fun v L1 hv x S1 H1 r1 I1 s1=>⟨c,L1,S1,_,I1,hv,fun w L2 hw y S2 H2 r2 I2 s2=>k v w L2 S2 H2 x y hw (r1.mono s2) r2 I2 (s1.trans s2)⟩⟩
theorem go2N {r:R2} {σ:L2.St} {H:Hp} {Q:VK} (hh:∃ (c:Cn) (L:a0a) (S:Hp) (Q0:FV→FV→a0a→Prop),Iv K c md L σ S H∧(wp (lk L i) fun _=>eb L fun y L1=>wp (lk L1 i) fun x=>Q0 x y L1)∧∀ v w L' S' H' x y,Q0 v w L'→RH K S' H' v x→RH K S' H' w y→Iv K c md L' σ S' H'→Same S S'→r x y H' Q):tOp r (c7j i) (lr K md eb) σ H Q:=by
 obtain ⟨c,L,S,Q0,I,h,k⟩:=hh
 obtain ⟨_,e,h⟩:=wpx h
 obtain ⟨x,e1,_⟩:=I.rd e
 refine ⟨x,e1,c,L,S,_,I,h,fun w L2 hw y S2 H2 r2 I2 s2=>?_⟩
 obtain ⟨v,e2,q⟩:=wpx hw
 obtain ⟨x',e3,r1⟩:=I2.rd e2
 rw [e1] at e3; cases e3
 exact k v w L2 S2 H2 x y q r1 r2 I2 s2
theorem rq_v {Q0:FV→a0a→Prop} {Q:VK} {v w:FV} {x y:V} (I:Iv K c md L σ S H) (rv:RH K S H v x) (rw':RH K S H w y) (h:wp (f v w) fun z=>Q0 z L) (k:∀ z,Q0 z L→∀ x S' H',RV K S' z x→Iv K c md L σ S' H'→Same S S'→Q x H'):Rq K f x y H Q:=by
 obtain ⟨z,e,q⟩:=wpx h
 exact ⟨S,v,w,z,I.sub,rv,rw',e,b1i I (k z q)⟩
theorem op_v (h:PE X.nox a (tOp (Rq X.K f) (lv X.K C.md ea) (lr X.K C.md eb))):FE X C a (eOp f ea eb):=PE.imp h fun σ H Q ⟨c,L,S,Q0,I,h,k⟩ =>
 go2 ⟨c,L,S,fun x y L2=>wp (f x y) fun z=>Q0 z L2,I,h,fun v w L' S' H' x y q r1 r2 I' s'=>rq_v I' (.inl r1) r2 q fun z qz x S2 H2 r I2 s2=>k z L' qz x S2 H2 r I2 (s'.trans s2)⟩
variable {op:Operator}
theorem b4t (ho:OpR X.nox (binaryOp op) (Rq X.K f)) (ha:FE X C a ea) (hb:FR X C b eb):FE X C (.BinOp a op b pos) (eOp f ea eb):=op_v (c8y ho ha hb)
theorem fe_add (ha:FE X C a ea) (hb:FR X C b eb):FE X C (.BinOp a .Add b pos) (eOp a3b ea eb):=b4t c8n ha hb
theorem fe_sub (ha:FE X C a ea) (hb:FR X C b eb):FE X C (.BinOp a .Sub b pos) (eOp b2d ea eb):=b4t d4y ha hb
theorem fe_mul (ha:FE X C a ea) (hb:FR X C b eb):FE X C (.BinOp a .Mult b pos) (eOp b7c ea eb):=b4t d5a ha hb
theorem d7t (ha:FE X C a ea) (hb:FR X C b eb):FE X C (.BinOp a .FloorDiv b pos) (eOp b8d ea eb):=b4t c8j ha hb
theorem fe_mod (ha:FE X C a ea) (hb:FR X C b eb):FE X C (.BinOp a .Mod b pos) (eOp c3e ea eb):=b4t d5b ha hb
theorem fe_pow (ha:FE X C a ea) (hb:FR X C b eb):FE X C (.BinOp a .Pow b pos) (eOp c8t ea eb):=b4t d4z ha hb
noncomputable def a4y (f:FV→FV→Option FV) (v w:FV):Option FV:=(f v w).bind fun z=>(a6w z).map fun xs=>.lst xs
theorem d7i (ho:OpR X.nox (binaryOp op) (Rq X.K f)) (ha:FE X C a ea) (hb:FR X C b eb):FF X C (.BinOp a op b pos) (eOp (a4y f) ea eb):=PE.imp (c8y ho ha hb) fun σ H Q ⟨c,L,S,Q0,I,h,k⟩ =>
 go2 ⟨c,L,S,fun x y L2=>wp (a4y f x y) fun z=>Q0 z L2,I,h,fun v w L' S' H' x y q r1 r2 I' s'=>by
  obtain ⟨z,e,q⟩:=wpx q
  obtain ⟨z',e1,e2⟩:=bnd e
  obtain ⟨xs,e3,rfl⟩:=mpd e2
  cases a3s e3
  exact ⟨S',v,w,_,I'.sub,.inl r1,r2,e1,c9s I' ⟨xs,rfl⟩ fun a S2 H2 o fr I2 s2=>k _ L' q a S2 H2 o fr I2 (s'.trans s2)⟩⟩
theorem ff_add (ha:FE X C a ea) (hb:FR X C b eb):FF X C (.BinOp a .Add b pos) (eOp (a4y a3b) ea eb):=d7i c8n ha hb
variable {cop:CmpOp}
theorem b3h (ho:OpR X.nox (compareOp cop) (Rq X.K f)) (ha:FE X C a ea) (hb:FR X C b eb) (hm:behindInMarks cop b=false):FE X C (.Compare a [cop] [b] pos) (eOp f ea eb):=op_v (c5f ho ha hb hm)
noncomputable def a6f (f:FV→FV→Option FV):Prop:=∀ v w z,f v w=some z→∃ b,z=.bl b
theorem c2q {Q0:Bool→a0a→Prop} {Q:Bool→Hp→Prop} {v w:FV} {x y:V} (tb:a6f f) (I:Iv K c md L σ S H) (rv:RH K S H v x) (rw':RH K S H w y) (h:wp (f v w) fun z=>wp (b3y z) fun b=>Q0 b L) (k:∀ z,Q0 z L→Q z H):Rq K f x y H (fun x H'=>∃ k,x=.bl k∧Q k H'):=by
 obtain ⟨z,e,q⟩:=wpx h
 obtain ⟨b,rfl⟩:=tb v w z e
 exact ⟨S,v,w,_,I.sub,rv,rw',e,⟨fun x _ r=>⟨b,r,k b q⟩,fun _ _ _ e=>(nomatch e),fun _ _ _ e=>(nomatch e)⟩⟩
theorem b0g (tb:a6f f) (ho:OpR X.nox (compareOp cop) (Rq X.K f)) (ha:FE X C a ea) (hb:FR X C b eb) (hm:behindInMarks cop b=false):FB X C (.Compare a [cop] [b] pos) (a2h (eOp f ea eb)):=PT.imp (b6i ho ha hb hm) fun σ H Q ⟨c,L,S,Q0,I,h,k⟩ =>
 go2 ⟨c,L,S,fun x y L2=>wp (f x y) fun z=>wp (b3y z) fun b=>Q0 b L2,I,h,fun v w L' S' H' x y q r1 r2 I' s'=>c2q tb I' (.inl r1) r2 q fun z qz=>k z L' qz S' H' I' s'⟩
theorem c6a (tb:a6f f) (ho:OpR X.nox (compareOp cop) (Rq X.K f)) (G:Good X C n sp) {p:Pos} (h:C.nm i x=true) (hb:FR X C b eb) (hm:behindInMarks cop b=false):FB X C (.Compare (.Name x p) [cop] [b] pos) (a2h (a5y f i eb)):=PT.imp (b6i ho (a1g G h) hb hm) fun σ H Q ⟨c,L,S,Q0,I,h,k⟩ =>
 go2N ⟨c,L,S,fun x y L2=>wp (f x y) fun z=>wp (b3y z) fun b=>Q0 b L2,I,h,fun v w L' S' H' x y q r1 r2 I' s'=>c2q tb I' r1 r2 q fun z qz=>k z L' qz S' H' I' s'⟩
end
end
noncomputable def a0g:Expr→Bool | .Starred ..=>true | _=>false
noncomputable def a3u:Expr→Bool | .Slice ..=>true | _=>false
noncomputable def c2z:Expr→Bool
 | .UnaryOp .Not _ _=>false
 | .BoolOp ..=>false
 | .IfExp ..=>false
 | .Compare ..=>false
 | _=>true
section
variable {X:Cx} {C:CC} {n:Nat} {sp:Γd→Nat→Sp} {a b d x y z:Expr} {ea eb ec:EW} {pos:Pos}
theorem a0d {xs:List Expr} {env:Env} (h:a0g x=false):starEach (x :: xs) env=(false,eval x env) :: starEach xs env:=by
 cases x <;> first | rfl | (cases h; done)
theorem a7x (h:a3u y=false):b9s y:=by
 intro o i
 cases y <;> first | rfl | (cases h; done)
theorem a9m {env:Env} (h:c2z x=true):∀ whole,isTrue x env whole=(do let v ← whole; standAt x.pos; holding [v] (PySem.truthy v)):=by
 intro whole
 cases x <;> first | rfl | (cases h; done) | (rename_i op x pos; cases op <;> first | rfl | (cases h; done))
theorem fe_eq (G:Good X C n sp) (ha:FE X C a ea) (hb:FR X C b eb):FE X C (.Compare a [.Eq] [b] pos) (eOp eqB ea eb):=b3h (d5g G.room.units) ha hb (a1h _ (by decide) (by decide))
theorem fe_ne (G:Good X C n sp) (ha:FE X C a ea) (hb:FR X C b eb):FE X C (.Compare a [.NotEq] [b] pos) (eOp neB ea eb):=b3h (q_ne G.room.units) ha hb (a1h _ (by decide) (by decide))
theorem fe_le (G:Good X C n sp) (ha:FE X C a ea) (hb:FR X C b eb):FE X C (.Compare a [.LtE] [b] pos) (eOp leB ea eb):=b3h (q_le G.room.units) ha hb (a1h _ (by decide) (by decide))
theorem fe_ge (ha:FE X C a ea) (hb:FR X C b eb):FE X C (.Compare a [.GtE] [b] pos) (eOp geB ea eb):=b3h q_ge ha hb (a1h _ (by decide) (by decide))
theorem b5t {f:FV→FV→Option Bool} {g:Bool→FV} (h:∀ b,∃ c,g b=.bl c):a6f fun v w=>(f v w).map g:=fun v w z e=>by
 obtain ⟨b,_,rfl⟩:=mpd e
 exact h b
theorem c2r {f:Int→Int→Bool}:a6f (a2u fun i j=>some (.bl (f i j))):=fun v w z e=>by
 obtain ⟨i,_,e⟩:=bnd e
 obtain ⟨j,_,e⟩:=bnd e
 cases e; exact ⟨_,rfl⟩
theorem d3w:a6f ltB:=fun v w z e=>by
 cases v with
 | tup xs =>
  obtain ⟨_,_,e⟩:=bnd e
  obtain ⟨_,_,e⟩:=bnd e
  obtain ⟨_,_,e⟩:=bnd e
  cases e; exact ⟨_,rfl⟩
 | _=>exact c2r _ w z e
theorem fb_eq (G:Good X C n sp) (ha:FE X C a ea) (hb:FR X C b eb):FB X C (.Compare a [.Eq] [b] pos) (a2h (eOp eqB ea eb)):=b0g (b5t fun b=>⟨b,rfl⟩) (d5g G.room.units) ha hb (a1h _ (by decide) (by decide))
theorem fb_ne (G:Good X C n sp) (ha:FE X C a ea) (hb:FR X C b eb):FB X C (.Compare a [.NotEq] [b] pos) (a2h (eOp neB ea eb)):=b0g (b5t fun b=>⟨!b,rfl⟩) (q_ne G.room.units) ha hb (a1h _ (by decide) (by decide))
theorem fb_lt (G:Good X C n sp) (ha:FE X C a ea) (hb:FR X C b eb):FB X C (.Compare a [.Lt] [b] pos) (a2h (eOp ltB ea eb)):=b0g d3w (q_lt G.room.units) ha hb (a1h _ (by decide) (by decide))
theorem fb_gt (ha:FE X C a ea) (hb:FR X C b eb):FB X C (.Compare a [.Gt] [b] pos) (a2h (eOp gtB ea eb)):=b0g c2r q_gt ha hb (a1h _ (by decide) (by decide))
variable {i:Nat} {nx:Str} {p:Pos}
theorem fb_eqN (G:Good X C n sp) (h:C.nm i nx=true) (hb:FR X C b eb):FB X C (.Compare (.Name nx p) [.Eq] [b] pos) (a2h (a5y eqB i eb)):=c6a (b5t fun b=>⟨b,rfl⟩) (d5g G.room.units) G h hb (a1h _ (by decide) (by decide))
section
variable {cop cop':CmpOp} {f g:FV→FV→Option FV}
end
end
section
variable {X:Cx} {C:CC} {n:Nat} {sp:Γd→Nat→Sp} {a b d x y z:Expr} {ea eb ec:EW} {ba bb:BW} {pos p:Pos}
variable {K:Γd} {c:Cn} {md:Md} {L:a0a} {σ:L2.St} {S H:Hp}
theorem b7a {v:FV} {x:V} (r1:RH K S H v x):a1i v=some (.bl (decide (x=V.non)))∧a1k v=some (.bl (!decide (x=V.non))):=by
 rcases r1 with r1 | ⟨a,rfl,_,ps,xs,e9,_⟩
 ·cases v <;> first | (cases (show x=_ from r1); simp [a1i,a1k]; done) | (obtain ⟨a,_,rfl,_⟩:=r1; simp [a1i,a1k]; done) | (obtain ⟨a,rfl,_⟩:=r1; simp [a1i,a1k]; done)
 ·cases v <;> first | (cases e9; done) | simp [a1i,a1k]
theorem fe_isN {j pos'} (ha:FR X C a ea):FE X C (.Compare a [.Is] [.Constant .none j pos'] pos) (eUn a1i ea):=PE.imp (c9e (c3c ha)) fun σ H Q ⟨c,L,S,Q0,I,h,k⟩ =>
 ⟨c,L,S,_,I,h,fun v L1 hv x S1 H1 r1 I1 s1=>by
  obtain ⟨z,e3,q⟩:=wpx hv
  rw [(b7a r1).1] at e3; cases e3
  exact k _ L1 q _ S1 H1 rfl I1 s1⟩
theorem fb_isN {j pos'} (ha:FR X C a ea):FB X C (.Compare a [.Is] [.Constant .none j pos'] pos) (a2h (eUn a1i ea)):=PT.imp (c2x (c3c ha)) fun σ H Q ⟨c,L,S,Q0,I,h,k⟩ =>
 ⟨c,L,S,_,I,h,fun v L1 hv x S1 H1 r1 I1 s1=>by
  obtain ⟨z,e3,q⟩:=wpx hv
  rw [(b7a r1).1] at e3; cases e3
  exact ⟨_,rfl,k _ L1 q S1 H1 I1 s1⟩⟩
theorem d8g {j pos'} (ha:FR X C a ea):FB X C (.Compare a [.IsNot] [.Constant .none j pos'] pos) (a2h (eUn a1k ea)):=PT.imp (c2x (c5i ha)) fun σ H Q ⟨c,L,S,Q0,I,h,k⟩ =>
 ⟨c,L,S,_,I,h,fun v L1 hv x S1 H1 r1 I1 s1=>by
  obtain ⟨z,e3,q⟩:=wpx hv
  rw [(b7a r1).2] at e3; cases e3
  exact ⟨_,rfl,k _ L1 q S1 H1 I1 s1⟩⟩
theorem fe_not (ha:FE X C a ea):FE X C (.UnaryOp .Not a pos) (eUn d5x ea):=PE.imp (c9a ha) fun σ H Q ⟨c,L,S,Q0,I,h,k⟩ =>
 ⟨c,L,S,_,I,h,fun v L1 hv x S1 H1 r1 I1 s1=>by
  obtain ⟨z,e,q⟩:=wpx hv
  obtain ⟨b,e1,rfl⟩:=mpd e
  cases d2d e1
  exact ⟨b,r1,k _ L1 q _ S1 H1 rfl I1 s1⟩⟩
theorem d0v (ha:FE X C a ea):FE X C (.UnaryOp .USub a pos) (eUn c1d ea):=PE.imp (d5k c7o ha) fun σ H Q ⟨c,L,S,Q0,I,h,k⟩ =>
 ⟨c,L,S,_,I,h,fun v L1 hv x S1 H1 r1 I1 s1=>by
  obtain ⟨z,e,q⟩:=wpx hv
  obtain ⟨b,e1,rfl⟩:=mpd e
  cases a0u e1
  exact ⟨b,r1,k _ L1 q _ S1 H1 rfl I1 s1⟩⟩
theorem b1d {v:FV} {u:V} {t:Bool} (s:Same S H) (r:RH K S H v u) (e:b3y v=some t):d2i K u H t:=by
 have em:∀ {ps:List FV} {xs:List V},RVs K S ps xs→(!ps.isEmpty) = !xs.isEmpty:=fun {ps xs} h=>by cases ps <;> cases xs <;> first | rfl | (have:=h.length; simp at this)
 cases v with
 | non=>cases (show u=V.non from r.val rfl); cases e; exact rfl
 | bl c=>cases r.bl; cases e; exact rfl
 | int c=>cases r.int; cases e; exact rfl
 | str c=>cases e
 | shn c=>cases e
 | dct _ _=>cases e
 | dci _ _=>cases e
 | dcz _ _ _=>cases e
 | tup ps =>
  obtain ⟨a,xs,rfl,h1,h2⟩:=r.tup s
  cases e
  exact .inr (.inl ⟨xs,SqT.of h1,em h2⟩)
 | lst l =>
  obtain ⟨a,xs,rfl,h1,h2⟩:=r.lst s
  cases e
  exact .inl ⟨xs,SqL.of h1,em h2⟩
 | scr ns =>
  cases e
  obtain ⟨a,xs,rfl,h1,h2⟩:=r.list s (show a1n (.scr ns)=_ from rfl)
  refine .inl ⟨_,h1,?_⟩
  rw [← em h2]; cases ns <;> rfl
theorem c5h {rest:List Expr} {ta tb:TE} (ha:PE X a ta) (hb:PE X (.BoolOp .And (b :: rest) pos) tb) :
  PE X (.BoolOp .And (a :: b :: rest) pos) (fun σ H Q=>ta σ H fun x H1=>∃ c,d2i X.K x H1 c∧(if c=true then tb σ H1 Q else Q x H1)):=by
 intro pins s σ H Q I h
 refine BoolOp_and (thn (ha pins s σ H _ I h) fun v s1 ⟨x,H1,I1,r1,c,tv,q1⟩=>?_)
 refine thn (b5s pins s1 σ H1 x v (fun c' H'=>c'=c∧H'=H1) I1 r1 ⟨c,tv,rfl,rfl⟩) fun b s2 ⟨H2,I2,e1,e2⟩=>?_
 subst e1 e2
 cases b with
 | true=>exact hb pins s2 σ H2 Q I2 (by simpa using q1)
 | false=>exact ⟨x,H2,I2,r1,by simpa using q1⟩
theorem c8x {rest:List Expr} {ta tb:TE} (ha:PE X a ta) (hb:PE X (.BoolOp .Or (b :: rest) pos) tb) :
  PE X (.BoolOp .Or (a :: b :: rest) pos) (fun σ H Q=>ta σ H fun x H1=>∃ c,d2i X.K x H1 c∧(if c=true then Q x H1 else tb σ H1 Q)):=by
 intro pins s σ H Q I h
 refine BoolOp_or (thn (ha pins s σ H _ I h) fun v s1 ⟨x,H1,I1,r1,c,tv,q1⟩=>?_)
 refine thn (b5s pins s1 σ H1 x v (fun c' H'=>c'=c∧H'=H1) I1 r1 ⟨c,tv,rfl,rfl⟩) fun b s2 ⟨H2,I2,e1,e2⟩=>?_
 subst e1 e2
 cases b with
 | false=>exact hb pins s2 σ H2 Q I2 (by simpa using q1)
 | true=>exact ⟨x,H2,I2,r1,by simpa using q1⟩
theorem fe_one {op:BoolOp} (ha:FE X C a ea):FE X C (.BoolOp op [a] pos) ea:=c8z ha
theorem fe_and {rest:List Expr} (ha:FE X C a ea) (hb:FE X C (.BoolOp .And (b :: rest) pos) eb):FE X C (.BoolOp .And (a :: b :: rest) pos) (c1y ea eb):=PE.imp (c5h ha hb) fun σ H Q ⟨c,L,S,Q0,I,h,k⟩ =>
 ⟨c,L,S,_,I,h,fun v L1 hv x S1 H1 r1 I1 s1=>by
  obtain ⟨t,e,q⟩:=wpx hv
  refine ⟨t,b1d I1.sub (.inl r1) e,?_⟩
  cases t with
  | true=>exact ⟨c,L1,S1,Q0,I1,q,fun v L' q x S' H' r I' s'=>k v L' q x S' H' r I' (s1.trans s')⟩
  | false=>exact k v L1 q x S1 H1 r1 I1 s1⟩
theorem fe_or {rest:List Expr} (ha:FE X C a ea) (hb:FE X C (.BoolOp .Or (b :: rest) pos) eb):FE X C (.BoolOp .Or (a :: b :: rest) pos) (eOr ea eb):=PE.imp (c8x ha hb) fun σ H Q ⟨c,L,S,Q0,I,h,k⟩ =>
 ⟨c,L,S,_,I,h,fun v L1 hv x S1 H1 r1 I1 s1=>by
  obtain ⟨t,e,q⟩:=wpx hv
  refine ⟨t,b1d I1.sub (.inl r1) e,?_⟩
  cases t with
  | false=>exact ⟨c,L1,S1,Q0,I1,q,fun v L' q x S' H' r I' s'=>k v L' q x S' H' r I' (s1.trans s')⟩
  | true=>exact k v L1 q x S1 H1 r1 I1 s1⟩
theorem fe_if (hc:FB X C d ba) (ha:FE X C a ea) (hb:FE X C b eb):FE X C (.IfExp d a b pos) (eIf ba ea eb):=PE.imp (c0u hc ha hb) fun σ H Q ⟨c,L,S,Q0,I,h,k⟩ =>
 ⟨c,L,S,_,I,h,fun t L1 hv S1 H1 I1 s1=>by
  cases t with
  | true=>exact ⟨c,L1,S1,Q0,I1,hv,fun v L' q x S' H' r I' s'=>k v L' q x S' H' r I' (s1.trans s')⟩
  | false=>exact ⟨c,L1,S1,Q0,I1,hv,fun v L' q x S' H' r I' s'=>k v L' q x S' H' r I' (s1.trans s')⟩⟩
theorem fb_val (hp:c2z a=true) (ha:FR X C a ea):FB X C a (a2h ea):=PT.imp (c0n ha (a9m hp)) fun σ H Q ⟨c,L,S,Q0,I,h,k⟩ =>
 ⟨c,L,S,_,I,h,fun v L1 hv x S1 H1 r1 I1 s1=>by
  obtain ⟨t,e,q⟩:=wpx hv
  exact ⟨t,b1d I1.sub r1 e,k t L1 q S1 H1 I1 s1⟩⟩
theorem fb_not (ha:FB X C a ba):FB X C (.UnaryOp .Not a pos) (d2e ba):=PT.imp (c8q ha) fun σ H Q ⟨c,L,S,Q0,I,h,k⟩=>⟨c,L,S,_,I,h,fun t L1 hv S1 H1 I1 s1=>k _ L1 hv S1 H1 I1 s1⟩
theorem d6q (ha:FB X C a ba):FW X C (.BoolOp .And [a] pos) ba:=c4p ha
theorem fw_or1 (ha:FB X C a ba):FW X C (.BoolOp .Or [a] pos) ba:=c8o ha
theorem fw_and {rest:List Expr} (ha:FB X C a ba) (hb:FW X C (.BoolOp .And (b :: rest) pos) bb):FW X C (.BoolOp .And (a :: b :: rest) pos) (d2f ba bb):=PW.imp (c8p ha hb) fun σ H Q ⟨c,L,S,Q0,I,h,k⟩ =>
 ⟨c,L,S,_,I,h,fun t L1 hv S1 H1 I1 s1=>by
  cases t with
  | true=>exact ⟨c,L1,S1,Q0,I1,hv,fun v L' q S' H' I' s'=>k v L' q S' H' I' (s1.trans s')⟩
  | false=>exact k _ L1 hv S1 H1 I1 s1⟩
theorem fw_or {rest:List Expr} (ha:FB X C a ba) (hb:FW X C (.BoolOp .Or (b :: rest) pos) bb):FW X C (.BoolOp .Or (a :: b :: rest) pos) (bOr ba bb):=PW.imp (d5h ha hb) fun σ H Q ⟨c,L,S,Q0,I,h,k⟩ =>
 ⟨c,L,S,_,I,h,fun t L1 hv S1 H1 I1 s1=>by
  cases t with
  | false=>exact ⟨c,L1,S1,Q0,I1,hv,fun v L' q S' H' I' s'=>k v L' q S' H' I' (s1.trans s')⟩
  | true=>exact k _ L1 hv S1 H1 I1 s1⟩
theorem fb_w (h:FW X C a ba):FB X C a ba:=PW.pt h
theorem fa_nil:FA X C [] a1d:=PA.imp a1u fun σ H Q ⟨c,L,S,Q0,I,h,k⟩=>k [] L h [] S H rfl I (Same.refl S)
theorem d8i {xs:List Expr} {as:AW} (hs:a0g a=false) (ha:FE X C a ea) (hr:FA X C xs as):FA X C (a :: xs) (a0b ea as):=PA.imp (a0h ha hr (a0d hs)) fun σ H Q ⟨c,L,S,Q0,I,h,k⟩ =>
 ⟨c,L,S,_,I,h,fun v L1 hv x S1 H1 r1 I1 s1=>⟨c,L1,S1,_,I1,hv,fun vs L2 hvs us S2 H2 r2 I2 s2=>k _ L2 hvs _ S2 H2 ⟨x,us,rfl,r1.mono s2,r2⟩ I2 (s1.trans s2)⟩⟩
theorem fe_tup {xs:List Expr} {as:AW} {m:Nat} (h:FA X C xs as):FE X C (.Tuple xs m pos) (b1t as):=PE.imp (c3a h) fun σ H Q ⟨c,L,S,Q0,I,h,k⟩ =>
 ⟨c,L,S,_,I,h,fun vs L1 hv us S1 H1 r1 I1 s1=>⟨by have:=a1m; rw [← r1.length]; exact Nat.le_trans hv.1 this,fun p hp=>(b1i I1 fun x S' H' r I' s'=>k _ L1 hv.2 x S' H' r I' (s1.trans s')).tup _ _ p rfl r1 hp⟩⟩
theorem fe_lst {xs:List Expr} {as:AW} (h:FA X C xs as):FE X C (.List xs pos) (a9a as):=PE.imp (c3b h) fun σ H Q ⟨c,L,S,Q0,I,h,k⟩ =>
 ⟨c,L,S,_,I,h,fun vs L1 hv us S1 H1 r1 I1 s1=>⟨by have:=a1m; rw [← r1.length]; exact Nat.le_trans hv.1 this,fun p hp=>(b1i I1 fun x S' H' r I' s'=>k _ L1 hv.2 x S' H' r I' (s1.trans s')).lst _ _ p rfl r1 hp⟩⟩
theorem ff_lst {xs:List Expr} {as:AW} (h:FA X C xs as):FF X C (.List xs pos) (a9a as):=PE.imp (c3b h) fun σ H Q ⟨c,L,S,Q0,I,h,k⟩ =>
 ⟨c,L,S,_,I,h,fun vs L1 hv us S1 H1 r1 I1 s1=>⟨by have:=a1m; rw [← r1.length]; exact Nat.le_trans hv.1 this,fun p hp=>(c9s I1 ⟨vs,rfl⟩ fun a S' H' o fr I' s'=>k _ L1 hv.2 a S' H' o fr I' (s1.trans s')).lst _ _ p rfl r1 hp⟩⟩
theorem fe_ix (hs:a3u b=false) (ha:FE X C a ea) (hb:FR X C b eb):FE X C (.Subscript a b pos) (eOp ixF ea eb):=PE.imp (c9c q_ix ha hb (a7x hs)) fun σ H Q ⟨c,L,S,Q0,I,h,k⟩ =>
 go2 ⟨c,L,S,fun x y L2=>wp (ixF x y) fun z=>Q0 z L2,I,h,fun v w L' S' H' x y q r1 r2 I' s'=>by
  obtain ⟨z,e,q⟩:=wpx q
  exact ⟨S',v,w,z,I'.sub,.inl r1,r2,e,fun u r=>k z L' q u S' H' r I' s'⟩⟩
theorem fe_ixN (G:Good X C n sp) {i:Nat} {nx:Str} (hs:a3u b=false) (h:C.nm i nx=true) (hb:FR X C b eb):FE X C (.Subscript (.Name nx p) b pos) (a5y ixF i eb):=PE.imp (c9c q_ix (a1g G h) hb (a7x hs)) fun σ H Q ⟨c,L,S,Q0,I,h,k⟩ =>
 go2N ⟨c,L,S,fun x y L2=>wp (ixF x y) fun z=>Q0 z L2,I,h,fun v w L' S' H' x y q r1 r2 I' s'=>by
  obtain ⟨z,e,q⟩:=wpx q
  exact ⟨S',v,w,z,I'.sub,r1,r2,e,fun u r=>k z L' q u S' H' r I' s'⟩⟩
theorem d6z:FO X C none c0z:=PO.imp c4y fun σ H Q ⟨c,L,S,Q0,I,h,k⟩=>k none L h S H I (Same.refl S)
theorem d6y (h:FE X C a ea):FO X C (some a) (a9p ea):=PO.imp (c4x h) fun σ H Q ⟨c,L,S,Q0,I,h,k⟩ =>
 ⟨c,L,S,_,I,h,fun v L1 hv x S1 H1 r1 I1 s1=>by
  obtain ⟨i,e,q⟩:=wpx hv
  cases a0u e
  exact ⟨i,r1,k _ L1 q S1 H1 I1 s1⟩⟩
variable {xl xh:Option Expr} {wl wh:OW} {p2:Pos}
theorem fe_sl (ha:FE X C a ea) (hl:FO X C xl wl) (hh:FO X C xh wh):FE X C (.Subscript a (.Slice xl xh none p2) pos) (eSl ea wl wh):=PE.imp (b2m q_sl ha hl hh) fun σ H Q ⟨c,L,S,Q0,I,h,k⟩ =>
 ⟨c,L,S,_,I,h,fun v L1 hv x S1 H1 r1 I1 s1=>⟨c,L1,S1,_,I1,hv,fun o1 L2 h1 S2 H2 I2 s2=>⟨c,L2,S2,_,I2,h1,fun o2 L3 h2 S3 H3 I3 s3=>by
  obtain ⟨z,e,q⟩:=wpx h2
  exact ⟨S3,v,z,I3.sub,.inl (r1.mono (s2.trans s3)),e,b1i I3 fun x S' H' r I' s'=>k z L3 q x S' H' r I' (s1.trans (s2.trans (s3.trans s')))⟩⟩⟩⟩
theorem sl_n {σ:L2.St} {i:Nat} {Q:VK} {Q1:FV→a0a→Prop} (I:Iv K c md L σ S H) (h:d1f i wl wh L Q1) (k:∀ v z o1 o2 L' S' H' x,a4d v o1 o2=some z→Q1 z L'→RH K S' H' v x→Iv K c md L' σ S' H'→Same S S'→NewOr K S' H' Q z):tSl (Rsl K) (c7j i) (lo K md wl) (lo K md wh) σ H Q:=by
 obtain ⟨_,e,h⟩:=wpx h
 obtain ⟨x,e1,_⟩:=I.rd e
 refine ⟨x,e1,c,L,S,_,I,h,fun o1 L2 h1 S2 H2 I2 s2=>⟨c,L2,S2,_,I2,h1,fun o2 L3 h2 S3 H3 I3 s3=>?_⟩⟩
 obtain ⟨v,e2,h3⟩:=wpx h2
 obtain ⟨z,e3,q⟩:=wpx h3
 obtain ⟨x',e4,r⟩:=I3.rd e2
 rw [e1] at e4; cases e4
 exact ⟨S3,v,z,I3.sub,r,e3,k v z o1 o2 L3 S3 H3 x e3 q r I3 (s2.trans s3)⟩
end
section
variable {X:Cx} {C:CC} {n:Nat} {sp:Γd→Nat→Sp} {a b d x y z:Expr} {ea eb ec:EW} {ba bb:BW} {pos p:Pos}
variable {K:Γd} {c:Cn} {md:Md} {L:a0a} {σ:L2.St} {S H:Hp} {i:Nat} {nx:Str}
variable {xl xh:Option Expr} {wl wh:OW} {p2:Pos}
theorem fe_slN (G:Good X C n sp) (h:C.nm i nx=true) (hl:FO X C xl wl) (hh:FO X C xh wh):FE X C (.Subscript (.Name nx p) (.Slice xl xh none p2) pos) (d1f i wl wh):=PE.imp (b2m q_sl (a1g G h) hl hh) fun σ H Q ⟨c,L,S,Q0,I,h,k⟩ =>
 sl_n I h fun v z o1 o2 L' S' H' x e q r I' s'=>b1i I' fun x S2 H2 r I2 s2=>k z L' q x S2 H2 r I2 (s'.trans s2)
noncomputable def sliceL (k:Nat) (l h:OW):EW:=fun L Q=>d1f k l h L fun z L'=>isL z=true∧(∃ ps,z=.lst ps)∧Q z L'
theorem d1u {f:FV→Option FV} {Q:VK} (hh:lv K md (eUn f ea) σ H Q):tCB (Rc K f) (c0c (lr K md ea) tNil) σ H Q:=by
 obtain ⟨c,L,S,Q0,I,h,k⟩:=hh
 refine ⟨c,L,S,_,I,h,fun v L1 hv x S1 H1 r1 I1 s1=>?_⟩
 obtain ⟨z,e,q⟩:=wpx hv
 exact ⟨S1,v,x,z,rfl,I1.sub,r1,e,b1i I1 fun x S' H' r I' s'=>k z L1 q x S' H' r I' (s1.trans s')⟩
theorem a8q {id nm:String} {f:FV→Option FV} (hc:a1b X.nox (.builtin id) (Rc X.K f)) (G:Good X C n sp) (hb:nm∈bltNames) (hv:bootBuiltins (Γe nm)=some (.builtin id)) (h1:Γe nm≠"__name__") (h2:(Γe nm == ("__debug__":Str))=false) (hg:C.gl (Γe nm)=true) (hs:a0g a=false) (ha:FR X C a ea) :
  FE X C (.Call (.Name (Γe nm) p) [a] [] pos) (eUn f ea):=PE.imp (a4f hc (G.gl hg) (G.blt nm hb) hv (a0h ha a1u (a0d hs)) h1 h2 (a0d hs) rfl) fun σ H Q h=>d1u h
theorem c1u {T nm:String} {f:FV→Option FV} (hc:a1b X.nox (.type T) (Rc X.K f)) (G:Good X C n sp) (hb:nm∈bltNames) (hv:bootBuiltins (Γe nm)=some (.type T)) (h1:Γe nm≠"__name__") (h2:(Γe nm == ("__debug__":Str))=false) (hg:C.gl (Γe nm)=true) (hs:a0g a=false) (ha:FR X C a ea) :
  FE X C (.Call (.Name (Γe nm) p) [a] [] pos) (eUn f ea):=PE.imp (b6u hc (G.gl hg) (G.blt nm hb) hv (a0h ha a1u (a0d hs)) h1 h2 (a0d hs) rfl) fun σ H Q h=>d1u h
theorem fe_len (G:Good X C n sp) (hg:C.gl (Γe "len")=true) (hs:a0g a=false) (ha:FR X C a ea):FE X C (.Call (.Name (Γe "len") p) [a] [] pos) (eUn b0w ea):=a8q d8w G (by decide) (by nofun) (by nofun) (by nofun) hg hs ha
theorem fe_abs (G:Good X C n sp) (hg:C.gl (Γe "abs")=true) (hs:a0g a=false) (ha:FR X C a ea):FE X C (.Call (.Name (Γe "abs") p) [a] [] pos) (eUn d2g ea):=a8q d9a G (by decide) (by nofun) (by nofun) (by nofun) hg hs ha
theorem fe_sum (G:Good X C n sp) (hg:C.gl (Γe "sum")=true) (hs:a0g a=false) (ha:FR X C a ea):FE X C (.Call (.Name (Γe "sum") p) [a] [] pos) (eUn d2k ea):=a8q (c6w G.calm) G (by decide) (by nofun) (by nofun) (by nofun) hg hs ha
theorem fe_all (G:Good X C n sp) (hg:C.gl (Γe "all")=true) (hs:a0g a=false) (ha:FR X C a ea):FE X C (.Call (.Name (Γe "all") p) [a] [] pos) (eUn d3t ea):=a8q (d8z G.calm) G (by decide) (by nofun) (by nofun) (by nofun) hg hs ha
theorem fe_any (G:Good X C n sp) (hg:C.gl (Γe "any")=true) (hs:a0g a=false) (ha:FR X C a ea):FE X C (.Call (.Name (Γe "any") p) [a] [] pos) (eUn d3s ea):=a8q (d8y G.calm) G (by decide) (by nofun) (by nofun) (by nofun) hg hs ha
theorem d7m (G:Good X C n sp) (hg:C.gl (Γe "min")=true) (hs:a0g a=false) (ha:FR X C a ea):FE X C (.Call (.Name (Γe "min") p) [a] [] pos) (eUn c1e ea):=a8q (d1w G.calm) G (by decide) (by nofun) (by nofun) (by nofun) hg hs ha
theorem d3f (G:Good X C n sp) (hg:C.gl (Γe "int")=true) (hs:a0g a=false) (ha:FR X C a ea):FE X C (.Call (.Name (Γe "int") p) [a] [] pos) (eUn a9g ea):=c1u d8x G (by decide) (by nofun) (by nofun) (by nofun) hg hs ha
theorem d3d (G:Good X C n sp) (hg:C.gl (Γe "tuple")=true) (hs:a0g a=false) (ha:FR X C a ea):FE X C (.Call (.Name (Γe "tuple") p) [a] [] pos) (eUn a6r ea):=c1u c6v G (by decide) (by nofun) (by nofun) (by nofun) hg hs ha
theorem d7q (G:Good X C n sp) (hg:C.gl (Γe "list")=true) (hs:a0g a=false) (ha:FR X C a ea):FE X C (.Call (.Name (Γe "list") p) [a] [] pos) (eUn a8i ea):=c1u d2a G (by decide) (by nofun) (by nofun) (by nofun) hg hs ha
theorem d3e (G:Good X C n sp) (hg:C.gl (Γe "str")=true) (hs:a0g a=false) (ha:FR X C a ea):FE X C (.Call (.Name (Γe "str") p) [a] [] pos) (eUn c7w ea):=c1u (d8v G.room.units G.room.gd) G (by decide) (by nofun) (by nofun) (by nofun) hg hs ha
theorem d7w {id nm:String} {f:FV→FV→Option FV} (hc:a1b X.nox (.builtin id) (Rc2 X.K f)) (G:Good X C n sp) (hb:nm∈bltNames) (hv:bootBuiltins (Γe nm)=some (.builtin id)) (h1:Γe nm≠"__name__") (h2:(Γe nm == ("__debug__":Str))=false) (hg:C.gl (Γe nm)=true) (hs:a0g a=false) (hs2:a0g b=false) (ha:FE X C a ea) (hb':FR X C b eb) :
  FE X C (.Call (.Name (Γe nm) p) [a,b] [] pos) (eOp f ea eb):=PE.imp (a4f hc (G.gl hg) (G.blt nm hb) hv (a0h ha (a0h hb' a1u (a0d hs2)) (a0d hs)) h1 h2 (a0d hs) (by rw [a0d hs2]; rfl)) fun σ H Q ⟨c,L,S,Q0,I,h,k⟩ =>
 ⟨c,L,S,_,I,h,fun v L1 hv x S1 H1 r1 I1 s1=>⟨c,L1,S1,_,I1,hv,fun w L2 hw y S2 H2 r2 I2 s2=>by
  obtain ⟨z,e,q⟩:=wpx hw
  exact ⟨S2,v,w,x,y,z,rfl,I2.sub,.inl (r1.mono s2),r2,e,b1i I2 fun x S' H' r I' s'=>k z L2 q x S' H' r I' (s1.trans (s2.trans s'))⟩⟩⟩
theorem d7o (G:Good X C n sp) (hg:C.gl (Γe "min")=true) (hs:a0g a=false) (hs2:a0g b=false) (ha:FE X C a ea) (hb':FR X C b eb):FE X C (.Call (.Name (Γe "min") p) [a,b] [] pos) (eOp b7e ea eb):=d7w (d1y G.calm) G (by decide) (by nofun) (by nofun) (by nofun) hg hs hs2 ha hb'
noncomputable def a2i:Ty→String | .int=>"int" | .bool=>"bool" | .str=>"str" | .list=>"list" | .tuple=>"tuple"
theorem a7l {v:FV} {u:V} {t:Ty} {r:Bool} (s:Same S H) (rv:RH K S H v u) (e:a4z v t=some r):∃ T,TyOf K H u (.type T)∧PySem.W.kitOne K (.type T) (.type (a2i t))=some r:=by
 cases v with
 | non=>cases (show u=V.non from rv.val rfl); exact ⟨_,.non,by cases e; cases t <;> rfl⟩
 | bl c=>cases rv.bl; exact ⟨_,.bl _,by cases e; cases t <;> rfl⟩
 | int c=>cases rv.int; exact ⟨_,.int _,by cases e; cases t <;> rfl⟩
 | str c=>cases (show u=V.str _ from rv.val rfl); exact ⟨_,.str _,by cases e; cases t <;> rfl⟩
 | tup ps =>
  obtain ⟨a,xs,rfl,h1,h2⟩:=rv.tup s
  exact ⟨_,.tup h1,by cases e; cases t <;> rfl⟩
 | lst l =>
  obtain ⟨a,xs,rfl,h1,h2⟩:=rv.lst s
  exact ⟨_,.lst h1,by cases e; cases t <;> rfl⟩
 | scr ns=>cases e
 | dct _ _=>cases e
 | dci _ _=>cases e
 | dcz _ _ _=>cases e
 | shn d=>cases (show u=V.str _ from rv.val rfl); exact ⟨_,.str _,by cases e; cases t <;> rfl⟩
theorem fe_isi {t:Ty} {tn:Str} (G:Good X C n sp) (hg:C.gl (Γe "isinstance")=true) (ht:tn=Γe (a2i t)) (hg2:C.gl tn=true) (hs:a0g a=false) (ha:FR X C a ea) :
  FE X C (.Call (.Name (Γe "isinstance") p) [a,.Name tn p2] [] pos) (eUn (b4r t) ea):=by
 subst ht
 have cc:a1b X.nox (.builtin "isinstance") (fun xs H Q=>∃ v c b T,xs=[v,.ty c]∧TyOf X.K H v (.type T)∧PySem.W.kitOne X.K (.type T) (.type c)=some b∧Q (.bl b) H):=by
  rintro pins s σ H xs us Q I r ⟨v,c,b,T,rfl,h1,h2,q⟩
  obtain ⟨u,u',rfl,ru,ru'⟩:=b3v r
  obtain rfl:u'=.type c:=ru'
  exact b7s I ru h1 h2 fun tk=>⟨.bl b,H,I.tok _,rfl,q⟩
 have tt:PE X.nox (.Name (Γe (a2i t)) p2) (tC (.ty (a2i t))):=by
  cases t <;> exact b6v (G.gl hg2) (G.blt _ (by decide)) (by nofun) rfl (by nofun) (by nofun)
 refine PE.imp (a4f cc (G.gl hg) (G.blt "isinstance" (by decide)) (by nofun) (a0h ha (a0h tt a1u rfl) (a0d hs)) (by nofun) (by nofun) (a0d hs) rfl) fun σ H Q ⟨c,L,S,Q0,I,h,k⟩ =>
  ⟨c,L,S,_,I,h,fun v L1 hv x S1 H1 r1 I1 s1=>?_⟩
 obtain ⟨z,e,q⟩:=wpx hv
 obtain ⟨r,e1,rfl⟩:=mpd e
 obtain ⟨T,t1,t2⟩:=a7l I1.sub r1 e1
 exact ⟨x,_,_,T,rfl,t1,t2,k _ L1 q _ S1 H1 rfl I1 s1⟩
noncomputable def d9b (apos cpos:Pos):Bool:=apos.endLine == cpos.line
theorem fe_app (G:Good X C n sp) {apos cpos:Pos} (h:C.nm i nx=true) (m:a0k C.md i=.own) (hl:d9b apos cpos=true) (hs:a0g a=false) (ha:FE X C a ea):FE X C (.Call (.Attribute (.Name nx p) (Γe "append") apos) [a] [] cpos) (b1u c7c i ea):=by
 refine PE.imp (d5l PySem.F.plainAttrs_list PySem.F.slot_list_append PySem.F.type_list_append a9s (a1g G h) (a0h ha a1u (a0d hs)) rfl (by rw [a0d hs]; rfl) hl (a0d hs) rfl) fun σ H Q ⟨c,L,S,Q0,I,h,k⟩=>?_
 obtain ⟨v,e,h⟩:=wpx h
 obtain ⟨v9,e9,h⟩:=wpx h
 cases a3s e9
 have e':=(a2s _ _ _).mp e
 have mi:a0k C.md i≠.imm:=fun z=>by rw [m] at z; cases z
 obtain ⟨l,e1,⟨_,ps,xs,e8,h1,_⟩,_⟩:=I.own i _ mi e'
 refine ⟨_,e1,.inl ⟨rfl,xs,SqL.of h1⟩,c,L,S,_,I,h,fun w L1 hw y S1 H1 r1 I1 s1=>?_⟩
 obtain ⟨v1,e2,hw⟩:=wpx hw
 obtain ⟨z,e3,q⟩:=wpx hw
 have e2':=(a2s _ _ _).mp e2
 obtain ⟨qs,e4,e5⟩:=bnd e3
 cases a3s e4
 obtain ⟨hb,rfl⟩:=itd e5
 obtain ⟨l',f1,⟨f2,rs,zs,f3,f4,f5⟩,_⟩:=I1.own i _ mi e2'
 rw [e1] at f1; cases f1
 cases f3
 have:=a1m
 exact ⟨l,zs,y,rfl,rfl,f4,by rw [← f5.length]; lia,k _ _ q .non S1 _ rfl (I1.write m e2' e1 (f5.append (RVs.one r1))) s1⟩
end
noncomputable def ArgsOk (K:Γd) (S H:Hp) (args:List FV) (vs:List V):Bool→Prop
 | false=>RVs K S args vs
 | true=>∃ v r a us,args=v :: r∧vs=.ref a :: us∧a3n K S H a v∧RVs K S r us
noncomputable def c7e (K:Γd) (S' H' H:Hp) (v:FV) (x:V):Bool→Prop
 | false=>RV K S' v x
 | true=>∃ a,x=.ref a∧a3n K S' H' a v∧H a=none
noncomputable def b3b (vs:List V):Bool→Option Addr
 | false=>none
 | true=>match vs with
  | .ref a :: _=>some a
  | _=>none
structure Kept (K:Γd) (S H S' H':Hp) (P:Option Addr) (w:FV):Prop where
 same:Same S S'
 sub:Same S' H'
 grow:∀ a o,S' a=some o→S a=some o ∨ H a=none ∨ a8p o=true
 keep:∀ a o,H a=some o→P≠some a→H' a=some o
 back:∀ a,P=some a→a3n K S' H' a w
noncomputable def spQ (K:Γd) (call:CW) (io fr:Bool) (f:Nat):Sp:=fun vs H Q E=>∃ S args Q0,Same S H∧ArgsOk K S H args vs io∧call f args Q0∧∀ z,Q0 z→∀ x S' H',Kept K S H S' H' (b3b vs io) z.2→c7e K S' H' H z.1 x fr→Q x H'
section
variable {X:Cx} {C:CC} {n:Nat} {sp:Γd→Nat→Sp} {a b d x y z:Expr} {ea eb ec:EW} {pos p:Pos} {call:CW}
variable {K:Γd} {c:Cn} {md:Md} {L:a0a} {σ:L2.St} {S H S' H':Hp} {i f:Nat} {nx:Str} {xs:List Expr} {as:AW}
noncomputable def a2e (xs:List Expr):Bool:=xs.all fun x=>!a0g x
theorem b2g:∀ {xs:List Expr} {env:Env},a2e xs=true→(backTo pos (starEach xs env)).any (·.1)=false
 | [],_,_=>rfl
 | x :: xs,env,h=>by
  have h:=b2 (show (!a0g x && a2e xs)=true from h)
  rw [a0d (nb h.1)]
  show (false || (backTo pos (starEach xs env)).any (·.1))=false
  rw [b2g h.2]; rfl
theorem Kept.iv (I:Iv K c md L σ S H) {w:FV} (k:Kept K S H S' H' none w):Iv K c md L σ S' H':=I.go3 k.same k.sub k.grow fun a o e=>k.keep a o e (by simp)
theorem a6d (G:Good X C n sp) {t:TA} (hf:C.fns[f]?=some nx) (hg:C.gl nx=true) (hd:(nx == ("__debug__":Str))=false) (hs:a2e (a :: xs)=true) (ha:PA X.nox (a :: xs) t):PE X.nox (.Call (.Name nx p) (a :: xs) [] pos) (fun σ H Q=>t σ H fun vs H1=>sp X.K f vs H1 Q E0):=by
 obtain ⟨fa,fd,ps,h1,h2,h3,h4⟩:=G.fns f nx hf
 have h:=b2 (show (!a0g a && a2e xs)=true from hs)
 refine PE.imp (c5g (X:=X.nox) h4 G.room (G.gl hg) h1 h2 h3 .nil d5n ha hd (a0d (nb h.1)) (b2g h.2)) fun σ H Q q=>?_
 show t σ H fun vs H1=>sp X.K f (vs++[]) H1 Q E0
 have e:(fun vs H1=>sp X.K f (vs++[]) H1 Q E0)=fun vs H1=>sp X.K f vs H1 Q E0:=by funext vs H1; rw [List.append_nil]
 rw [e]; exact q
theorem d7u (G:Good X C n sp) (e:sp X.K f=spQ X.K call false false f) (hf:C.fns[f]?=some nx) (hg:C.gl nx=true) (hd:(nx == ("__debug__":Str))=false) (hs:a2e (a :: xs)=true) (ha:FA X C (a :: xs) as):FE X C (.Call (.Name nx p) (a :: xs) [] pos) (a2g call f as) :=
 PE.imp (a6d G hf hg hd hs ha) fun σ H Q ⟨c,L,S,Q0,I,h,k⟩=>⟨c,L,S,_,I,h,fun vs L1 hv us S1 H1 r1 I1 s1=>by
  rw [e]
  exact ⟨S1,vs,_,I1.sub,r1,hv,fun z q x S' H' kp r=>k _ L1 q x S' H' r (kp.iv I1) (s1.trans kp.same)⟩⟩
theorem d7k (G:Good X C n sp) (e:sp X.K f=spQ X.K call false true f) (hf:C.fns[f]?=some nx) (hg:C.gl nx=true) (hd:(nx == ("__debug__":Str))=false) (hs:a2e (a :: xs)=true) (ha:FA X C (a :: xs) as):FF X C (.Call (.Name nx p) (a :: xs) [] pos) (a2g call f as) :=
 PE.imp (a6d G hf hg hd hs ha) fun σ H Q ⟨c,L,S,Q0,I,h,k⟩=>⟨c,L,S,_,I,h,fun vs L1 hv us S1 H1 r1 I1 s1=>by
  rw [e]
  refine ⟨S1,vs,_,I1.sub,r1,hv,fun z q x S' H' kp r=>?_⟩
  obtain ⟨a,rfl,o,hn⟩:=r
  exact k _ L1 q a S' H' o (I1.fresh hn) (kp.iv I1) (s1.trans kp.same)⟩
theorem b7b {v:FV} {q:Addr} (I:Iv K c md L σ S H) (o:a3n K S H q v) (fr:b1z c md L σ q):∃ u,H q=some u∧Iv K c md L σ (upd S q u) H∧RV K (upd S q u) v (.ref q):=by
 obtain ⟨h1,ps,us,e0,h2,h3⟩:=o
 have s:=a0p (o:=c7k v us) h1
 refine ⟨_,h2,⟨I.len,fun i v h e=>let ⟨x,e1,r⟩:=I.imm i v h e; ⟨x,e1,r.mono s⟩,fun i v h e=>?_,I.dis,fun a u e=>?_,I.frame,I.s0.trans s,fun a u e=>?_,I.lent,I.fzs,I.fzm,I.fzp,fun p hp=>let ⟨g1,g2,g3⟩:=I.prs p hp; ⟨g1,by rw [a0f (fr.2.1 p hp)]; exact g2,g3⟩,I.ntp⟩,?_⟩
 ·obtain ⟨b,e1,⟨g1,rs,zs,g2,g3,g4⟩,g5⟩:=I.own i v h e
  have hb:b≠q:=fun z=>by subst z; exact fr.2.2 i v h e e1
  exact ⟨b,e1,⟨by rw [a0f hb]; exact g1,rs,zs,g2,g3,g4.mono s⟩,g5⟩
 ·by_cases z:a=q
  ·subst z; rw [a0e] at e; cases e; exact h2
  ·rw [a0f z] at e; exact I.sub a u e
 ·by_cases z:a=q
  ·subst z; exact .inr (.inl fr.1)
  ·rw [a0f z] at e; exact I.grow a u e
 ·cases v with
  | lst qs=>cases e0; exact ⟨q,us,rfl,a0e,h3.mono s⟩
  | dct ks vs=>obtain ⟨hl,rfl⟩:=itd e0; exact ⟨q,us,rfl,hl,a0e,h3.mono s⟩
  | dci ks vs=>obtain ⟨hl,rfl⟩:=itd e0; exact ⟨q,us,rfl,hl,a0e,h3.mono s⟩
  | dcz o ks vs=>obtain ⟨hl,rfl⟩:=itd e0; exact ⟨q,us,rfl,hl,a0e,h3.mono s⟩
  | _=>cases e0
theorem a6n (h:FF X C a ea):FE X C a ea:=PE.imp h fun σ H Q ⟨c,L,S,Q0,I,h,k⟩=>⟨c,L,S,Q0,I,h,fun v L' q a S' H' o fr I' s'=>by
 obtain ⟨u,hu,I2,r⟩:=b7b I' o fr
 exact k v L' q _ _ H' r I2 (s'.trans (a0p o.1))⟩
theorem c5j (G:Good X C n sp) {t:TA} (h:C.nm i nx=true) (hr:PA X.nox xs t):PA X.nox (.Name nx p :: xs) (c0c (c7j i) t):=a0h (a1g G h) hr rfl
theorem c2i {Q:VK} {fr:Bool} {Q1:FV→a0a→Prop} (I:Iv K c md L σ S H) (m:a0k md i=.own) (h:a1o call f i as L Q1)
  (k:∀ v L' x H1 S' H',Q1 v L'→c7e K S' H' H1 v x fr→Iv K c md L' σ S' H'→Same S S'→(∀ a,H1 a=none→b1z c md L' σ a)→Q x H'):c0c (c7j i) (la K md as) σ H fun vs H1=>spQ K call true fr f vs H1 Q E0:=by
 obtain ⟨v0,e,h⟩:=wpx h
 have mi:a0k md i≠.imm:=fun z=>by rw [m] at z; cases z
 obtain ⟨l,e1,_⟩:=I.own i v0 mi ((a2s _ _ _).mp e)
 refine ⟨_,e1,c,L,S,_,I,h,fun vs L1 hv us S1 H1 r1 I1 s1=>?_⟩
 obtain ⟨v1,e2,q⟩:=wpx hv
 have e2:=(a2s _ _ _).mp e2
 obtain ⟨l',f1,o,_⟩:=I1.own i v1 mi e2
 rw [e1] at f1; cases f1
 refine ⟨S1,v1 :: vs,_,I1.sub,⟨v1,vs,l,us,rfl,rfl,o,r1⟩,q,fun z q x S' H' kp r=>?_⟩
 have I2:=I1.back3 m e2 e1 kp.same kp.sub kp.grow (fun b o e n=>kp.keep b o e fun z=>n (by cases z; rfl)) (kp.back l rfl)
 refine k _ _ x H1 S' H' q r I2 (s1.trans kp.same) fun a ha=>⟨I1.h0 ha,(I1.fresh ha).2.1,fun j w mj ej z=>?_⟩
 obtain ⟨_,_,g2⟩:=I1.fresh ha
 by_cases hj:j=i
 ·subst hj; exact g2 j v1 mj e2 z
 ·rw [List.getElem?_set_ne (Ne.symm hj)] at ej; exact g2 j w mj ej z
theorem d3h (G:Good X C n sp) {np:Str} {pp:Pos} (e:sp X.K f=spQ X.K call true false f) (hf:C.fns[f]?=some np) (hg:C.gl np=true) (hd:(np == ("__debug__":Str))=false) (h:C.nm i nx=true) (m:a0k C.md i=.own) (hs:a2e xs=true) (ha:FA X C xs as):FE X C (.Call (.Name np pp) (.Name nx p :: xs) [] pos) (a1o call f i as) :=
 PE.imp (a6d G hf hg hd (show (true && a2e xs)=true by rw [hs]; rfl) (c5j G h ha)) fun σ H Q ⟨c,L,S,Q0,I,h,k⟩=>by
  rw [e]
  exact c2i I m h fun v L' x H1 S' H' q r I' s' _=>k v L' q x S' H' r I' s'
end
section
variable {K:Γd} {c:Cn} {md:Md} {L:a0a} {σ:L2.St} {S H:Hp} {i:Nat} {v:FV} {x:V} {a:Addr}
theorem Iv.setI (I:Iv K c md L σ S H) (m:a0k md i=.imm) (r:RV K S v x):Iv K c md (L.set i (some v)) (σ.set i (some x)) S H :=
 I.set (fun a h z=>by subst z; exact (I.lent a h).1 m) (fun z=>by rw [m] at z; cases z) (.inl ⟨m,r⟩)
theorem Iv.prot (I:Iv K c md L σ S H) {o:HO} (h:H a=some o) (hs:S a=none) (ho:∀ i v,a0k md i=.own→L[i]?=some (some v)→σ[i]?≠some (some (.ref a))) (nt:a8p o=false:=by first | rfl | exact a5o _ _):Iv K { c with pr:=(a,o) :: c.pr } md L σ S H :=
 ⟨I.len,I.imm,I.own,I.dis,I.sub,I.frame,I.s0,I.grow,I.lent,I.fzs,I.fzm,fun p hp=>let ⟨xs,h⟩:=I.fzp p hp; ⟨xs,Γh _ h⟩,fun p hp=>(List.mem_cons.mp hp).elim (fun e=>e ▸ ⟨h,hs,ho⟩) (I.prs p),fun p hp=>(List.mem_cons.mp hp).elim (fun e=>e ▸ nt) (I.ntp p)⟩
theorem b2u:∀ {md:Md} {i j:Nat} {m:Mo},i < md.length→a0k (md.set i m) j=if j=i then m else a0k md j
 | [],i,j,m,h=>absurd h (Nat.not_lt_zero _)
 | a :: md,0,0,m,h=>rfl
 | a :: md,0,j + 1,m,h=>by simp [a0k]
 | a :: md,i + 1,0,m,h=>by simp [a0k]
 | a :: md,i + 1,j + 1,m,h=>by
  have:=b2u (md:=md) (i:=i) (j:=j) (m:=m) (by simpa using h)
  simpa [a0k] using this
theorem c3f:∀ {md:Md} {i:Nat},a0k md i=.own→i < md.length
 | [],i,h=>by simp [a0k] at h
 | a :: md,0,h=>by simp
 | a :: md,i + 1,h=>by simpa using c3f (md:=md) (i:=i) h
theorem Iv.frz (I:Iv K c md L σ S H) {ob:HO} (m:a0k md i=.own) (e:L[i]?=some (some v)) (e1:σ[i]?=some (some (.ref a))) (h:H a=some ob) :
  Iv K { c with fz:=(i,a) :: c.fz,pr:=(a,ob) :: c.pr } (md.set i .frz) L σ S H∧∀ L σ S H,Iv K { c with fz:=(i,a) :: c.fz,pr:=(a,ob) :: c.pr } (md.set i .frz) L σ S H→Iv K c md L σ S H:=by
 have hl:=c3f m
 have mi:a0k md i≠.imm:=fun z=>by rw [m] at z; cases z
 have M:∀ j,a0k (md.set i .frz) j=if j=i then .frz else a0k md j:=fun j=>b2u hl
 have im:∀ {j},a0k (md.set i .frz) j=.imm↔a0k md j=.imm:=fun {j}=>by
  rw [M]
  by_cases q:j=i
  ·subst q; rw [if_pos rfl,m]; simp
  ·rw [if_neg q]
 have nfz:∀ p∈c.fz,p.1≠i:=fun p hp z=>by have:=(I.fzs p hp).1; rw [z,m] at this; cases this
 have npr:∀ p∈c.pr,p.1≠a:=fun p hp z=>(I.prs p hp).2.2 i v m e (by rw [z]; exact e1)
 obtain ⟨a',f1,o,_⟩:=I.own i v mi e
 rw [e1] at f1; cases f1
 have nt:a8p ob=false:=by
  obtain ⟨_,_,_,_,h5,_⟩:=o
  rw [h] at h5; rw [Option.some.inj h5,a5o]
 constructor
 ·refine ⟨I.len,fun j w h=>I.imm j w (im.mp h),fun j w h=>I.own j w (fun z=>h (im.mpr z)),fun j k w u b h1 h2=>I.dis j k w u b (fun z=>h1 (im.mpr z)) (fun z=>h2 (im.mpr z)),I.sub,I.frame,I.s0,I.grow,fun b hb=>let ⟨g1,g2⟩:=I.lent b hb; ⟨fun z=>g1 (im.mp z),g2⟩,fun p hp=>?_,fun j w hm hj=>?_,fun p hp=>?_,fun p hp=>?_,fun p hp=>(List.mem_cons.mp hp).elim (fun z=>by rw [z]; exact nt) (I.ntp p)⟩
  ·rcases List.mem_cons.mp hp with rfl | hp
   ·exact ⟨by rw [M,if_pos rfl],e1,v,e⟩
   ·obtain ⟨g1,g2⟩:=I.fzs p hp
    exact ⟨by rw [M,if_neg (nfz p hp)]; exact g1,g2⟩
  ·by_cases q:j=i
   ·subst q; exact ⟨a,Γn⟩
   ·rw [M,if_neg q] at hm
    obtain ⟨b,g1⟩:=I.fzm j w hm hj
    exact ⟨b,Γh _ g1⟩
  ·rcases List.mem_cons.mp hp with rfl | hp
   ·exact ⟨_,Γn⟩
   ·obtain ⟨ys,g⟩:=I.fzp p hp
    exact ⟨ys,Γh _ g⟩
  ·have own':∀ {j},a0k (md.set i .frz) j=.own→j≠i∧a0k md j=.own:=fun {j} z=>by
    by_cases q:j=i
    ·subst q; rw [M,if_pos rfl] at z; cases z
    ·rw [M,if_neg q] at z; exact ⟨q,z⟩
   rcases List.mem_cons.mp hp with rfl | hp
   ·exact ⟨h,o.1,fun j w hm hj hz=>(own' hm).1 (I.dis j i w v a (fun z=>by rw [(own' hm).2] at z; cases z) mi hj e hz e1)⟩
   ·obtain ⟨g1,g2,g3⟩:=I.prs p hp
    exact ⟨g1,g2,fun j w hm=>g3 j w (own' hm).2⟩
 ·intro L σ S H J
  obtain ⟨_,j1,_⟩:=J.fzs (i,a) Γn
  refine ⟨J.len,fun j w h=>J.imm j w (im.mpr h),fun j w h=>J.own j w (fun z=>h (im.mp z)),fun j k w u b h1 h2=>J.dis j k w u b (fun z=>h1 (im.mp z)) (fun z=>h2 (im.mp z)),J.sub,J.frame,J.s0,J.grow,fun b hb=>let ⟨g1,g2⟩:=J.lent b hb; ⟨fun z=>g1 (im.mpr z),g2⟩,fun p hp=>?_,fun j w hm hj=>?_,I.fzp,fun p hp=>?_,I.ntp⟩
  ·obtain ⟨g1,g2⟩:=J.fzs p (Γh _ hp)
   rw [M,if_neg (nfz p hp)] at g1
   exact ⟨g1,g2⟩
  ·have q:j≠i:=fun z=>by rw [z,m] at hm; cases hm
   obtain ⟨b,g1⟩:=J.fzm j w (by rw [M,if_neg q]; exact hm) hj
   rcases List.mem_cons.mp g1 with z | g1
   ·exact absurd (Prod.mk.inj z).1 q
   ·exact ⟨b,g1⟩
  ·obtain ⟨g1,g2,g3⟩:=J.prs p (Γh _ hp)
   refine ⟨g1,g2,fun j w hm hj=>?_⟩
   by_cases q:j=i
   ·subst q; rw [j1]; exact fun z=>npr p hp (by cases z; rfl)
   ·exact g3 j w (by rw [M,if_neg q]; exact hm) hj
end
noncomputable def ItR (K:Γd) (c:Cn) (md:Md) (J:It) (xs:List FV) (S1:Hp):Prop :=
 ∀ (i:Nat) (L:a0a) (σ:L2.St) (S H:Hp),Iv K c md L σ S H→Same S1 S→(xs[i]?=none→J.stop i H)∧∀ p,xs[i]?=some p→J.go i H∧∀ v H',J.yld i H v H'→∃ S',Same S S'∧(∀ c md L σ,Iv K c md L σ S H→Iv K c md L σ S' H')∧RV K S' p v
noncomputable def li (K:Γd) (md md':Md) (it:AW):TI:=fun σ H R=>∃ c L S Q0,Iv K c md L σ S H∧it L Q0∧∀ xs L',Q0 xs L'→∀ J c' S' H',Iv K c' md' L' σ S' H'→(∀ L σ S H,Iv K c' md' L σ S H→Iv K c md L σ S H)→c'.H0=c.H0→ItR K c' md' J xs S'→Same S S'→R J H'
noncomputable def FI (X:Cx) (C:CC) (md':Md) (tg iter:Expr) (it:AW):Prop:=PI X.nox tg iter (li X.K C.md md' it)
section
variable {X:Cx} {C:CC} {n:Nat} {sp:Γd→Nat→Sp} {a b d x y z tg:Expr} {ea eb ec:EW} {pos p:Pos}
variable {K:Γd} {c:Cn} {md:Md} {L:a0a} {σ:L2.St} {S H:Hp} {i:Nat} {nx:Str}
theorem PI.imp {X:Cx} {tg it:Expr} {t u:TI} (h:PI X tg it t) (f:∀ σ H R,u σ H R→t σ H R):PI X tg it u:=fun pins s σ H R I hu=>h pins s σ H R I (f σ H R hu)
noncomputable def Its (K:Γd):Bool→Addr→It
 | true,a=>Itl K a
 | false,a=>Itt K a
theorem c8u {X:Cx} {tg it:Expr} {te:TE} (h:PE X it te):PI X tg it (fun σ H R=>te σ H fun v H1=>∃ b a xs,v=.ref a∧SqB b X.K H1 a xs∧R (Its X.K b a) H1):=by
 intro pins s σ H R I hh
 refine thn (h pins s σ H _ I hh) fun v s1 ⟨x,H1,I1,r1,b,a,xs,e,hq,q⟩=>?_
 subst e
 cases r1
 cases b with
 | true =>
  obtain ⟨its,rv,p,hz⟩:=I1.list hq
  refine wpAny_pyIter_list p.isList ?_
  refine ⟨s1.heap.objs.size,[s1.heap.objs.size],_,_,H1,rfl,I1.kept (t':=s1.toks) fun b o e=>Γc _ e,b5q a _,⟨_,Γm _ rfl,rfl,rfl⟩,fun b hb=>?_,q⟩
  have e:b=s1.heap.objs.size:=by simpa using hb
  subst e
  exact I1.fpOk (Γi _) (I1.hok.fresh (Γi _))
 | false =>
  obtain ⟨its,rv,p,hz⟩:=I1.tuple hq
  refine wpAny_pyIter_tuple p ?_
  refine ⟨s1.heap.objs.size,[s1.heap.objs.size],_,_,H1,rfl,I1.kept (t':=s1.toks) fun b o e=>Γc _ e,b3w a _,⟨_,Γm _ rfl,rfl,rfl⟩,fun b hb=>?_,q⟩
  have e:b=s1.heap.objs.size:=by simpa using hb
  subst e
  exact I1.fpOk (Γi _) (I1.hok.fresh (Γi _))
theorem d0m {t:Bool} {q:Addr} {ps:List FV} {S1:Hp} (h:∀ L σ S H,Iv K c md L σ S H→Same S1 S→∃ vs,SqB t K H q vs∧RVs K S ps vs):ItR K c md (Its K t q) ps S1:=by
 intro i L σ S H I s
 obtain ⟨vs,h1,h2⟩:=h L σ S H I s
 cases t with
 | true =>
  refine ⟨fun e=>⟨vs,h1,by rw [← h2.length]; exact List.getElem?_eq_none_iff.mp e⟩,fun p ep=>?_⟩
  obtain ⟨v,e1,r1⟩:=h2.get ep
  refine ⟨⟨vs,v,h1,e1⟩,fun w H' ⟨eh,y⟩=>?_⟩
  have:=y vs h1
  rw [e1] at this; cases this
  subst eh
  exact ⟨S,Same.refl S,fun _ _ _ _ I=>I,r1⟩
 | false =>
  refine ⟨fun e=>⟨vs,h1,by rw [← h2.length]; exact List.getElem?_eq_none_iff.mp e⟩,fun p ep=>?_⟩
  obtain ⟨v,e1,r1⟩:=h2.get ep
  refine ⟨⟨vs,v,h1,e1⟩,fun w H' ⟨eh,y⟩=>?_⟩
  have:=y vs h1
  rw [e1] at this; cases this
  subst eh
  exact ⟨S,Same.refl S,fun _ _ _ _ I=>I,r1⟩
theorem RV.stays {v:FV} {ps:List FV} {u:V} {S1:Hp} (r:RV K S1 v u) (e:a3o v=some ps):∃ q,u=.ref q∧∀ S H,Same S1 S→Same S H→∃ vs,SqB (isL v) K H q vs∧RVs K S ps vs:=by
 cases v with
 | tup qs=>cases e; obtain ⟨q,vs,rfl,h1,h2⟩:=r; exact ⟨q,rfl,fun S H s s'=>⟨vs,SqT.of (s' _ _ (s _ _ h1)),h2.mono s⟩⟩
 | lst qs=>cases e; obtain ⟨q,vs,rfl,h1,h2⟩:=r; exact ⟨q,rfl,fun S H s s'=>⟨vs,SqL.of (s' _ _ (s _ _ h1)),h2.mono s⟩⟩
 | scr ns=>cases e; obtain ⟨q,rfl,h⟩:=r; exact ⟨q,rfl,fun S H s s'=>⟨_,h.sq (s.trans s'),RVs.ns ns⟩⟩
 | _=>cases e
theorem fi_seq (ha:FE X C a ea):FI X C C.md tg a (c1n ea):=PI.imp (c8u ha) fun σ H R ⟨c,L,S,Q0,I,h,k⟩ =>
 ⟨c,L,S,_,I,h,fun v L1 hv x S1 H1 r1 I1 s1=>by
  obtain ⟨ps,e,q⟩:=wpx hv
  obtain ⟨l,rfl,st⟩:=r1.stays e
  obtain ⟨vs,h1,h2⟩:=st S1 H1 (Same.refl _) I1.sub
  exact ⟨isL v,l,vs,rfl,h1,k ps L1 q _ c S1 H1 I1 (fun _ _ _ _ I=>I) rfl (d0m fun L σ S H I s=>st S H s I.sub) s1⟩⟩
theorem b5p:∀ (n:Nat) (lo:Int) (i:Nat),(upF lo n)[i]?=if i < n then some (.int (lo + i)) else none
 | 0,lo,i=>by simp [upF]
 | n + 1,lo,0=>by simp [upF]
 | n + 1,lo,i + 1=>by
  show (upF (lo + 1) n)[i]?=_
  rw [b5p n (lo + 1) i]
  have e:lo + 1 + (i:Int)=lo + ((i + 1:Nat):Int):=by lia
  rw [e]
  simp
theorem c3m {lo:Int} {m:Nat} {S1:Hp}:ItR K c md (Itr lo m) (upF lo m) S1:=by
 intro i L σ S H I s
 rw [b5p]
 by_cases h:i < m
 ·rw [if_pos h]
  refine ⟨fun e=>(nomatch e),fun p e=>?_⟩
  cases e
  exact ⟨h,fun v H' ⟨e1,e2⟩=>⟨S,Same.refl S,by rw [e1]; exact fun _ _ _ _ I=>I,e2⟩⟩
 ·rw [if_neg h]
  exact ⟨fun _=>show m≤i by lia,fun p e=>(nomatch e)⟩
theorem fi_rng (G:Good X C n sp) (hg:C.gl (Γe "range")=true) (hs:a0g a=false) (ha:FE X C a ea):FI X C C.md tg (.Call (.Name (Γe "range") p) [a] [] pos) (c1o ea):=PI.imp (b6q (G.gl hg) (G.blt "range" (by decide)) (a0h ha a1u (a0d hs)) (a0d hs)) fun σ H R ⟨c,L,S,Q0,I,h,k⟩ =>
 ⟨c,L,S,_,I,h,fun v L1 hv x S1 H1 r1 I1 s1=>by
  obtain ⟨j,e,hb,q⟩:=wpx hv
  cases a0u e
  have hb:=de hb
  exact ⟨j,by rw [show x=.int j from r1],hb.1,hb.2,k _ L1 q _ c S1 H1 I1 (fun _ _ _ _ I=>I) rfl c3m s1⟩⟩
theorem d7b (G:Good X C n sp) (hg:C.gl (Γe "range")=true) (hs:a0g a=false) (hs2:a0g b=false) (ha:FE X C a ea) (hb:FE X C b eb):FI X C C.md tg (.Call (.Name (Γe "range") p) [a,b] [] pos) (iRng2 ea eb) :=
 PI.imp (b6p (G.gl hg) (G.blt "range" (by decide)) (a0h ha (a0h hb a1u (a0d hs2)) (a0d hs)) (by rw [a0d hs,a0d hs2]; rfl) (a0d hs2)) fun σ H R ⟨c,L,S,Q0,I,h,k⟩ =>
 ⟨c,L,S,_,I,h,fun v L1 hv x S1 H1 r1 I1 s1=>⟨c,L1,S1,_,I1,hv,fun w L2 hw y S2 H2 r2 I2 s2=>by
  obtain ⟨j,e,hw⟩:=wpx hw
  obtain ⟨j',e',hb,q⟩:=wpx hw
  cases a0u e; cases a0u e'
  have hb:=b2 hb
  have h1:=de hb.1
  have h2:=de hb.2
  exact ⟨j,j',by rw [show x=.int j from r1,show y=.int j' from r2],⟨h1.1,h1.2,h2.1,h2.2⟩,k _ L2 q _ c S2 H2 I2 (fun _ _ _ _ I=>I) rfl c3m (s1.trans s2)⟩⟩⟩
theorem c1c {P Q:FV} {u w:V} {pp:Addr} (I:Iv K c md L σ S H) (hp:H pp=none) (r1:RV K S P u) (r2:RV K S Q w):∃ S',Same S S'∧(∀ c md L σ,Iv K c md L σ S H→Iv K c md L σ S' (upd H pp (.tup [u,w])))∧RV K S' (.tup [P,Q]) (.ref pp) :=
 ⟨upd S pp (.tup [u,w]),a0p (I.sn hp),fun _ _ _ _ I=>I.new hp _,pp,[u,w],rfl,a0e,u,[w],rfl,r1.mono (a0p (I.sn hp)),w,[],rfl,r2.mono (a0p (I.sn hp)),rfl⟩
theorem d0l {t t':Bool} {q q':Addr} {ps qs:List FV} {S1:Hp} (h:∀ L σ S H,Iv K c md L σ S H→Same S1 S→∃ vs,SqB t K H q vs∧RVs K S ps vs) (h':∀ L σ S H,Iv K c md L σ S H→Same S1 S→∃ vs,SqB t' K H q' vs∧RVs K S qs vs):ItR K c md (Iz2 K t t' q q') (a2d ps qs) S1:=by
 intro i L σ S H I s
 obtain ⟨vs,h1,h2⟩:=h L σ S H I s
 obtain ⟨ws,g1,g2⟩:=h' L σ S H I s
 unfold a2d
 rw [List.getElem?_zipWith]
 refine ⟨fun z=>⟨vs,ws,h1,g1,?_⟩,fun y ey=>?_⟩
 ·rw [← h2.length,← g2.length]
  cases c1:ps[i]? with
  | none=>exact .inl (List.getElem?_eq_none_iff.mp c1)
  | some _ =>
   cases c2:qs[i]? with
   | none=>exact .inr (List.getElem?_eq_none_iff.mp c2)
   | some _=>rw [c1,c2] at z; cases z
 ·cases c1:ps[i]? with
  | none=>rw [c1] at ey; cases ey
  | some p1 =>
   cases c2:qs[i]? with
   | none=>rw [c1,c2] at ey; cases ey
   | some q1 =>
    rw [c1,c2] at ey
    cases ey
    obtain ⟨v,f1,f2⟩:=h2.get c1
    obtain ⟨w,f3,f4⟩:=g2.get c2
    refine ⟨⟨vs,ws,v,w,h1,g1,f1,f3⟩,fun z H' ⟨pp,hp,ez,yy⟩=>?_⟩
    have:=yy vs ws v w h1 g1 f1 f3
    subst this ez
    exact c1c I hp f2 f4
variable {elts:List Expr} {kk:Nat} {tp:Pos}
theorem fi_zip (G:Good X C n sp) (hg:C.gl (Γe "zip")=true) (hs:a0g a=false) (hs2:a0g b=false) (ha:FE X C a ea) (hb:FE X C b eb):FI X C C.md (.Tuple elts kk tp) (.Call (.Name (Γe "zip") p) [a,b] [] pos) (d6l ea eb) :=
 PI.imp (d5j (G.gl hg) (G.blt "zip" (by decide)) (a0h ha (a0h hb a1u (a0d hs2)) (a0d hs)) (by rw [a0d hs,a0d hs2]; rfl) (a0d hs2)) fun σ H R ⟨c,L,S,Q0,I,h,k⟩ =>
 ⟨c,L,S,_,I,h,fun v L1 hv x S1 H1 r1 I1 s1=>⟨c,L1,S1,_,I1,hv,fun w L2 hw y S2 H2 r2 I2 s2=>by
  obtain ⟨ps,e,hw⟩:=wpx hw
  obtain ⟨qs,e',q⟩:=wpx hw
  obtain ⟨l,rfl,st⟩:=(r1.mono s2).stays e
  obtain ⟨l',rfl,st'⟩:=r2.stays e'
  obtain ⟨vs,h1,_⟩:=st S2 H2 (Same.refl _) I2.sub
  obtain ⟨ws,h2,_⟩:=st' S2 H2 (Same.refl _) I2.sub
  exact ⟨_,_,l,l',rfl,⟨vs,h1⟩,⟨ws,h2⟩,k _ L2 q _ c S2 H2 I2 (fun _ _ _ _ I=>I) rfl (d0l (fun L σ S H I s=>st S H s I.sub) fun L σ S H I s=>st' S H s I.sub) (s1.trans s2)⟩⟩⟩
end
noncomputable def gTs:List Nat→TGs
 | []=>d6p
 | i :: is=>c1s (a5u i) (gTs is)
noncomputable def gT (K:Γd):Tg→TG
 | .nm i=>a5u i
 | .tp is=>d2x K is.length (gTs is)
 | .tn i is=>d2x K 2 (c1s (a5u i) (c1s (d2x K is.length (gTs is)) d6p))
noncomputable def a4w (md:Md):Tg→Bool
 | .nm i=>decide (a0k md i=.imm)
 | .tp is=>is.all fun i=>decide (a0k md i=.imm)
 | .tn i is=>decide (a0k md i=.imm) && is.all fun i=>decide (a0k md i=.imm)
noncomputable def a9h (n:Nat):Tg→Bool
 | .nm i=>decide (n≤i)
 | .tp is=>is.all fun i=>decide (n≤i)
 | .tn i is=>decide (n≤i) && is.all fun i=>decide (n≤i)
noncomputable def FG (X:Cx) (t:Expr) (tg:Tg):Prop:=PG X.nox t (gT X.K tg)
section
variable {K:Γd} {c:Cn} {md:Md} {L:a0a} {σ:L2.St} {S H:Hp}
theorem a7s:∀ {is:List Nat} {ps:List FV} {vs:List V} {L L':a0a} {σ:L2.St},(is.all fun i=>decide (a0k md i=.imm))=true→Iv K c md L σ S H→RVs K S ps vs→a7t L is ps=some L' →
  ∃ σ',(∀ Q:L2.St→Hp→Prop,Q σ' H→gTs is vs σ H Q)∧Iv K c md L' σ' S H∧σ'.length=σ.length∧is.length=vs.length∧∀ n,(is.all fun i=>decide (n≤i))=true→∀ j,j < n→σ'[j]?=σ[j]?
 | [],[],vs,L,L',σ,_,I,r,e=>by cases (show vs=[] from r); cases e; exact ⟨σ,fun Q q=>⟨rfl,q⟩,I,rfl,rfl,fun _ _ _ _=>rfl⟩
 | i :: is,p :: ps,vs,L,L',σ,hm,I,r,e=>by
  obtain ⟨v,q,rfl,h1,h2⟩:=r
  have hm:=b2 (show (decide (a0k md i=.imm) && is.all fun i=>decide (a0k md i=.imm))=true from hm)
  obtain ⟨σ',g,I',l1,l2,far⟩:=a7s (is:=is) (ps:=ps) (vs:=q) hm.2 (I.setI (de hm.1) h1) h2 e
  refine ⟨σ',fun Q q'=>⟨v,q,rfl,g Q q'⟩,I',by rw [l1,List.length_set],by rw [List.length_cons,List.length_cons,l2],fun n hn j hj=>?_⟩
  have hn:=b2 (show (decide (n≤i) && is.all fun i=>decide (n≤i))=true from hn)
  have:=de hn.1
  rw [far n hn.2 j hj,List.getElem?_set_ne (by lia)]
 | [],p :: ps,_,_,_,_,_,_,_,e=>by cases e
 | i :: is,[],_,_,_,_,_,_,_,e=>by cases e
theorem b0d {tg:Tg} {v:FV} {x:V} {Q:a0a→Prop} (hm:a4w md tg=true) (I:Iv K c md L σ S H) (r:RV K S v x) (h:gW tg v L Q) :
  ∃ σ' L',(∀ Q':L2.St→Hp→Prop,Q' σ' H→gT K tg x σ H Q')∧Q L'∧Iv K c md L' σ' S H∧σ'.length=σ.length∧∀ n,a9h n tg=true→∀ j,j < n→σ'[j]?=σ[j]?:=by
 cases tg with
 | nm i =>
  refine ⟨σ.set i (some x),L.set i (some v),fun Q q=>q,h,I.setI (de hm) r,List.length_set ..,fun n hn j hj=>?_⟩
  have:n≤i:=de hn
  exact List.getElem?_set_ne (by lia)
 | tp is =>
  obtain ⟨ps,e,h⟩:=wpx h
  obtain ⟨L',e1,q⟩:=wpx h
  cases a2c e
  obtain ⟨a,vs,rfl,h1,h2⟩:=r
  obtain ⟨σ',g,I',l1,l2,far⟩:=a7s hm I h2 e1
  exact ⟨σ',L',fun Q q=>⟨a,vs,rfl,SqT.of (I.sub _ _ h1),l2.symm,g Q q⟩,q,I',l1,far⟩
 | tn i is =>
  have hm:=b2 hm
  obtain ⟨ps,e,h⟩:=wpx h
  obtain ⟨p,e1,h⟩:=wpx h
  obtain ⟨qs,e2,h⟩:=wpx h
  obtain ⟨L',e3,q⟩:=wpx h
  cases a2c e
  obtain ⟨p1,p2⟩:=p
  obtain rfl:ps=[p1,p2]:=by
   rcases ps with _ | ⟨a,_ | ⟨b,_ | ⟨c,r⟩⟩⟩ <;> first | (cases e1; done) | (cases e1; rfl)
  obtain ⟨a,vs,rfl,h1,h2⟩:=r
  obtain ⟨u,w,rfl,r1,r2⟩:=h2.two_of
  cases a2c e2
  obtain ⟨b,ws,rfl,h3,h4⟩:=r2
  obtain ⟨σ',g,I',l1,l2,far⟩:=a7s hm.2 (I.setI (de hm.1) r1) h4 e3
  refine ⟨σ',L',fun Q q=>⟨a,_,rfl,SqT.of (I.sub _ _ h1),rfl,_,_,rfl,_,_,rfl,b,ws,rfl,SqT.of (I.sub _ _ h3),l2.symm,g _ ⟨rfl,q⟩⟩,q,I',by rw [l1,List.length_set],fun n hn j hj=>?_⟩
  have hn:=b2 hn
  have:=de hn.1
  rw [far n hn.2 j hj,List.getElem?_set_ne (by lia)]
theorem Iv.regrow {a:Addr} {o o':HO} (I:Iv K { c with pr:=(a,o) :: c.pr } md L σ S H) (h0:c.H0 a=none) (hp:∀ p∈c.pr,p.1≠a) (hz:∀ p∈c.fz,∃ o,(p.2,o)∈c.pr) (nt:a8p o'=false:=by first | rfl | exact a5o _ _):Iv K { c with pr:=(a,o') :: c.pr } md L σ S (upd H a o'):=by
 obtain ⟨_,sa,na⟩:=I.prs (a,o) Γn
 have oa:∀ j w b,a0k md j≠.imm→L[j]?=some (some w)→σ[j]?=some (some (.ref b))→b≠a:=fun j w b hm hj hs z=>by
  subst z
  by_cases m:a0k md j=.own
  ·exact na j w m hj hs
  ·have m:a0k md j=.frz:=by cases q:a0k md j with | imm=>exact absurd q hm | own=>exact absurd q m | frz=>rfl
   obtain ⟨b',g1⟩:=I.fzm j w m hj
   obtain ⟨_,g2,_⟩:=I.fzs _ g1
   rw [hs] at g2; cases g2
   obtain ⟨xs,g3⟩:=hz _ g1
   exact hp _ g3 rfl
 refine ⟨I.len,I.imm,fun j w hm hj=>?_,I.dis,fun b u e=>?_,fun b u e n=>?_,I.s0,I.grow,I.lent,I.fzs,I.fzm,fun p hpz=>let ⟨xs,g⟩:=hz p hpz; ⟨xs,Γh _ g⟩,fun p hpr=>?_,fun p hpr=>(List.mem_cons.mp hpr).elim (fun z=>by rw [z]; exact nt) fun z=>I.ntp p (Γh _ z)⟩
 ·obtain ⟨b,e1,⟨g1,ps,xs,g2,g3,g4⟩,g5⟩:=I.own j w hm hj
  exact ⟨b,e1,⟨g1,ps,xs,g2,by rw [a0f (oa j w b hm hj e1)]; exact g3,g4⟩,g5⟩
 ·rw [a0f fun z=>by subst z; rw [sa] at e; cases e]; exact I.sub b u e
 ·rw [a0f fun z=>by subst z; rw [h0] at e; cases e]; exact I.frame b u e n
 ·rcases List.mem_cons.mp hpr with rfl | hpr
  ·exact ⟨a0e,sa,na⟩
  ·obtain ⟨g1,g2,g3⟩:=I.prs p (Γh _ hpr)
   exact ⟨by rw [a0f (hp p hpr)]; exact g1,g2,g3⟩
theorem Iv.unprot {a:Addr} {o:HO} (I:Iv K { c with pr:=(a,o) :: c.pr } md L σ S H) (hz:∀ p∈c.fz,∃ o,(p.2,o)∈c.pr):Iv K c md L σ S H :=
 ⟨I.len,I.imm,I.own,I.dis,I.sub,I.frame,I.s0,I.grow,I.lent,I.fzs,I.fzm,hz,fun p hp=>I.prs p (Γh _ hp),fun p hp=>I.ntp p (Γh _ hp)⟩
theorem c3g:∀ {md:Md} {i:Nat},md.length≤i→a0k md i=.imm
 | [],i,_=>rfl
 | a :: md,0,h=>absurd h (by simp)
 | a :: md,i + 1,h=>c3g (md:=md) (i:=i) (by simpa using h)
theorem Iv.more (I:Iv K c md L σ S H) (m:Nat):Iv K c md (L++Γj m none) (σ++Γj m none) S H:=by
 have look:∀ j w,(L++Γj m none)[j]?=some (some w)→L[j]?=some (some w)∧(σ++Γj m none)[j]?=σ[j]?:=fun j w z=>by
  by_cases h:j < L.length
  ·rw [List.getElem?_append_left h] at z
   exact ⟨z,List.getElem?_append_left (by rw [← I.len]; exact h)⟩
  ·rw [List.getElem?_append_right (by lia),List.getElem?_replicate] at z
   split at z <;> cases z
 have up:∀ j w,L[j]?=some (some w)→(L++Γj m none)[j]?=some (some w)∧(σ++Γj m none)[j]?=σ[j]?:=fun j w z=>by
  have h:=(List.getElem?_eq_some_iff.mp z).1
  exact ⟨by rw [List.getElem?_append_left h]; exact z,List.getElem?_append_left (by rw [← I.len]; exact h)⟩
 refine ⟨by simp [I.len],fun j w hm z=>?_,fun j w hm z=>?_,fun j k w u b m1 m2 z1 z2 y1 y2=>?_,I.sub,I.frame,I.s0,I.grow,fun b hb=>?_,fun p hp=>?_,fun j w hm z=>I.fzm j w hm (look j w z).1,I.fzp,fun p hp=>?_,I.ntp⟩
 ·obtain ⟨z,y⟩:=look j w z; rw [y]; exact I.imm j w hm z
 ·obtain ⟨z,y⟩:=look j w z; rw [y]; exact I.own j w hm z
 ·obtain ⟨z1,q1⟩:=look j w z1
  obtain ⟨z2,q2⟩:=look k u z2
  rw [q1] at y1; rw [q2] at y2
  exact I.dis j k w u b m1 m2 z1 z2 y1 y2
 ·obtain ⟨g1,g2,w,g3⟩:=I.lent b hb
  obtain ⟨f1,f2⟩:=up 0 w g3
  exact ⟨g1,by rw [f2]; exact g2,w,f1⟩
 ·obtain ⟨g1,g2,w,g3⟩:=I.fzs p hp
  obtain ⟨f1,f2⟩:=up p.1 w g3
  exact ⟨g1,by rw [f2]; exact g2,w,f1⟩
 ·obtain ⟨g1,g2,g3⟩:=I.prs p hp
  refine ⟨g1,g2,fun j w hm z=>?_⟩
  obtain ⟨z,y⟩:=look j w z
  rw [y]; exact g3 j w hm z
theorem Iv.take {n:Nat} {σ2:L2.St} (I:Iv K c md L σ2 S H) (hmd:md.length≤n) (hs:σ.length=n) (hl:n≤σ2.length) (e:∀ j,j < n→σ2[j]?=σ[j]?):Iv K c md (L.take n) σ S H:=by
 have look:∀ j w,(L.take n)[j]?=some (some w)→L[j]?=some (some w)∧σ[j]?=σ2[j]?:=fun j w z=>by
  have h:=(List.getElem?_eq_some_iff.mp z).1
  rw [List.length_take] at h
  rw [List.getElem?_take_of_lt (by lia)] at z
  exact ⟨z,(e j (by lia)).symm⟩
 have up:∀ j w,a0k md j≠.imm→L[j]?=some (some w)→(L.take n)[j]?=some (some w)∧σ[j]?=σ2[j]?:=fun j w hm z=>by
  have h:j < n:=by
   by_cases h:j < n
   ·exact h
   ·exact absurd (c3g (by lia)) hm
  exact ⟨by rw [List.getElem?_take_of_lt h]; exact z,(e j h).symm⟩
 refine ⟨by rw [List.length_take,I.len,hs]; lia,fun j w hm z=>?_,fun j w hm z=>?_,fun j k w u b m1 m2 z1 z2 y1 y2=>?_,I.sub,I.frame,I.s0,I.grow,fun b hb=>?_,fun p hp=>?_,fun j w hm z=>I.fzm j w hm (look j w z).1,I.fzp,fun p hp=>?_,I.ntp⟩
 ·obtain ⟨z,y⟩:=look j w z; rw [y]; exact I.imm j w hm z
 ·obtain ⟨z,y⟩:=look j w z; rw [y]; exact I.own j w hm z
 ·obtain ⟨z1,q1⟩:=look j w z1
  obtain ⟨z2,q2⟩:=look k u z2
  rw [q1] at y1; rw [q2] at y2
  exact I.dis j k w u b m1 m2 z1 z2 y1 y2
 ·obtain ⟨g1,g2,w,g3⟩:=I.lent b hb
  obtain ⟨f1,f2⟩:=up 0 w g1 g3
  exact ⟨g1,by rw [f2]; exact g2,w,f1⟩
 ·obtain ⟨g1,g2,w,g3⟩:=I.fzs p hp
  obtain ⟨f1,f2⟩:=up p.1 w (fun z=>by rw [g1] at z; cases z) g3
  exact ⟨g1,by rw [f2]; exact g2,w,f1⟩
 ·obtain ⟨g1,g2,g3⟩:=I.prs p hp
  refine ⟨g1,g2,fun j w hm z=>?_⟩
  obtain ⟨z,y⟩:=look j w z
  rw [y]; exact g3 j w hm z
theorem c2f {J:It} {xs:List FV} {n m:Nat} {tg:Tg} {t:BW} {e:EW} {Q:VK} {Q1:List FV→a0a→Prop} (I:Iv K c md L σ S H) (hJ:ItR K c md J xs S) (hL:L.length=n) (hmd:md.length≤n) (ht:a4w md tg=true) (hg:a9h n tg=true) (hb:xs.length≤big) (h:a3w n m tg t e xs [] L Q1)
  (k:∀ acc ps L' S' H',H acc=none→Q1 ps L'→a3n K S' H' acc (.lst ps)→b1z c md L' σ acc→Iv K c md L' σ S' H'→Same S S'→Q (.ref acc) H') :
  ∀ acc,H acc=none→∃ W:Nat→Nat→Hp→Prop,(∃ m,W 0 m (upd H acc (.lst [])))∧∀ i j H,W i j H →
   (J.stop i H∧Q (.ref acc) H) ∨ (J.go i H∧∀ x H',J.yld i H x H'→gT K tg x (σ++Γj m none) H' fun σ2 H2=>Wk (σ++Γj m none) σ2∧lb K md t σ2 H2 fun b H3 =>
    if b=true then lv K md e σ2 H3 fun v H4=>∃ ys,H4 acc=some (.lst ys)∧ys.length < sizeLine∧∃ m',m' < j∧W (i + 1) m' (upd H4 acc (.lst (ys++[v]))) else ∃ m',m' < j∧W (i + 1) m' H3):=by
 intro acc hacc
 have h0:=I.h0 hacc
 have hp:∀ p∈c.pr,p.1≠acc:=(I.fresh hacc).2.1
 have hz:=I.fzp
 have hl:σ.length=n:=by rw [← I.len]; exact hL
 have hbl:=a1m
 let W:Nat→Nat→Hp→Prop:=fun i j H1=>∃ L S1 ps us,j=(xs.drop i).length∧Iv K { c with pr:=(acc,.lst us) :: c.pr } md L σ S1 H1∧RVs K S1 ps us∧Same S S1∧L.length=n∧ps.length≤i∧a3w n m tg t e (xs.drop i) ps L Q1
 have I1:Iv K { c with pr:=(acc,.lst []) :: c.pr } md L σ S (upd H acc (.lst [])):=(I.lay hacc _).prot a0e (I.sn hacc) fun j w hm hj=>(I.fresh hacc).2.2 j w (fun z=>by rw [hm] at z; cases z) hj
 refine ⟨W,⟨_,L,S,[],[],rfl,I1,rfl,Same.refl S,hL,Γi _,by rw [List.drop_zero]; exact h⟩,?_⟩
 rintro i j H1 ⟨L,S1,ps,us,rfl,I,r,s,hL,hps,hc⟩
 have I0:=I.unprot hz
 obtain ⟨j1,j2⟩:=hJ i L σ S1 H1 I0 s
 obtain ⟨g1,g2,g3⟩:=I.prs (acc,.lst us) Γn
 cases hd:xs.drop i with
 | nil =>
  left
  rw [hd] at hc
  refine ⟨j1 (List.getElem?_eq_none_iff.mpr (List.drop_eq_nil_iff.mp hd)),k acc ps L S1 H1 hacc hc ⟨g2,ps,us,rfl,g1,r⟩ ⟨h0,hp,fun q w hm hq hs=>?_⟩ I0 s⟩
  by_cases mo:a0k md q=.own
  ·exact g3 q w mo hq hs
  ·have mo:a0k md q=.frz:=by cases z:a0k md q with | imm=>exact absurd z hm | own=>exact absurd z mo | frz=>rfl
   obtain ⟨b,f1⟩:=I0.fzm q w mo hq
   obtain ⟨_,f2,_⟩:=I0.fzs _ f1
   rw [hs] at f2; cases f2
   obtain ⟨ys,f3⟩:=hz _ f1
   exact hp _ f3 rfl
 | cons p rest =>
  right
  rw [hd] at hc
  have hi:xs[i]?=some p:=by
   have:=congrArg (·[0]?) hd
   simpa using this
  have hd':xs.drop (i + 1)=rest:=by
   have:=congrArg List.tail hd
   simpa [List.tail_drop] using this
  have hix:i < xs.length:=(List.getElem?_eq_some_iff.mp hi).1
  obtain ⟨go,yl⟩:=j2 p hi
  refine ⟨go,fun x H2 y=>?_⟩
  obtain ⟨S2,s2,tr,rx⟩:=yl x H2 y
  have I2:=(tr _ _ _ _ I).more m
  obtain ⟨σ2,L2,gq,q2,I2,len2,far⟩:=b0d ht I2 rx hc
  have l2:n≤σ2.length:=by rw [len2,List.length_append,hl]; lia
  have far':∀ q,q < n→σ2[q]?=σ[q]?:=fun q hq=>by rw [far n hg q hq,List.getElem?_append_left (by rw [hl]; exact hq)]
  refine gq _ ⟨⟨len2,fun q v hv=>?_⟩,?_⟩
  ·have hq:q < n:=by
    by_cases h:q < σ.length
    ·rw [← hl]; exact h
    ·rw [List.getElem?_append_right (by lia),List.getElem?_replicate] at hv
     split at hv <;> cases hv
   rw [far n hg q hq]; exact hv
  ·refine ⟨_,L2,S2,_,I2,q2,fun b L3 hb3 S3 H3 I3 s3=>?_⟩
   cases b with
   | false =>
    rw [if_neg Γk] at hb3 ⊢
    exact ⟨rest.length,by simp,L3.take n,S3,ps,us,by rw [hd'],I3.take hmd hl l2 far',r.mono (s2.trans s3),s.trans (s2.trans s3),by rw [List.length_take,I3.len]; lia,by lia,by rw [hd']; exact hb3⟩
   | true =>
    rw [if_pos rfl] at hb3 ⊢
    refine ⟨_,L3,S3,_,I3,hb3,fun v L4 hv u S4 H4 r4 I4 s4=>?_⟩
    obtain ⟨k1,_⟩:=I4.prs (acc,.lst us) Γn
    have lr:=r.length
    exact ⟨us,k1,by lia,rest.length,by simp,L4.take n,S4,ps++[v],us++[u],by rw [hd'],(I4.take hmd hl l2 far').regrow h0 hp hz,(r.mono (s2.trans (s3.trans s4))).append (RVs.one r4),s.trans (s2.trans (s3.trans s4)),by rw [List.length_take,I4.len]; lia,by simp; lia,by rw [hd']; exact hv⟩
end
noncomputable def b7t:Expr→Bool
 | .Set ..=>true
 | _=>false
theorem c3n {x:Expr} {env:Env} (h:b7t x=false):∀ v,foldedSetIterable x env v=pure v:=by
 intro v
 cases x <;> first | rfl | (cases h; done)
noncomputable def CC.tn (C:CC) (i:Nat) (x:Str):Bool:=decide (C.N[i]?=some x) && C.loc x
noncomputable def d4v (outer:List (Str×NameKind)) (names:List (Str×NameKind)):List (Str×NameKind) :=
 names.map fun (n,k)=>if (k == NameKind.free && outer.lookup n == some .cell) then (n,NameKind.cell) else (n,k)
noncomputable def CC.sub (C:CC) (scope:Scope) (own:List Str) (md:Md):CC:=⟨C.N.map (a8e own)++own,d4v C.sc scope.names,C.fns,md,false,scope.names⟩
noncomputable def CC.scOk (C:CC) (scope:Scope) (own:List Str):Bool :=
 decide (scope.kind=.function) && scope.names.all (fun p=>decide (p.2=.cell→scope.names.lookup p.1=some .cell)) && scope.names.all (fun p=>decide (p.2=.local→scope.names.lookup p.1=some .local)) &&
 scope.names.all (fun p=>decide (p.2=.free→(C.sc.lookup p.1=some .cell ∨ C.sc.lookup p.1=some .free))) && C.N.all (fun x=>if own.contains x then decide (scope.names.lookup (d2w x)=none) else decide (scope.names.lookup x≠some .local∧scope.names.lookup x≠some .cell)) && decide ((C.N.map (a8e own)++own).Nodup)
noncomputable def c9x:Md→Md→Bool
 | [],_=>true
 | a :: md,[]=>decide (a=.imm) && c9x md []
 | a :: md,b :: md'=>(decide (a=.imm) || !decide (b=.imm)) && c9x md md'
theorem a8d:∀ {md md':Md},c9x md md'=true→∀ j,a0k md j≠.imm→a0k md' j≠.imm
 | [],_,_,j,h=>absurd rfl h
 | a :: md,[],h,0,h0=>absurd (de (b2 h).1) h0
 | a :: md,[],h,j + 1,h0=>a8d (md:=md) (md':=[]) (b2 h).2 j h0
 | a :: md,b :: md',h,0,h0=>fun z=>by
  have h:=(b2 h).1
  have h0:a≠.imm:=h0
  have z:b=.imm:=z
  simp [h0,z] at h
 | a :: md,b :: md',h,j + 1,h0=>a8d (md:=md) (md':=md') (b2 h).2 j h0
noncomputable def FGs (X:Cx) (es:List Expr) (is:List Nat):Prop:=PGs X.nox es (gTs is)∧(assignEach es X.env).length=is.length∧(assignEach es X.env).findIdx? (·.1)=none
noncomputable def FTs (X:Cx) (C:CC) (xs:List Expr) (t:BW):Prop:=PTs X.nox xs (lb X.K C.md t)
section
variable {X:Cx} {C:CC} {n:Nat} {sp:Γd→Nat→Sp} {a b x:Expr} {xs:List Expr} {pos p:Pos} {i k:Nat} {nx:Str} {is:List Nat} {t u:BW}
theorem Good.ix (G:Good X C n sp) {y:Str} (h:decide (C.N[i]?=some y)=true):X.N[i]?=some y:=by rw [G.N]; exact de h
theorem Good.nd' (G:Good X C n sp):X.N.Nodup:=by rw [G.N]; exact G.nd
theorem d7h (G:Good X C n sp) (h:C.tn i nx=true):FG X (.Name nx p) (.nm i):=by
 have h:=b2 h
 obtain ⟨l1,l2⟩:=G.loc h.2
 exact c5b (X:=X.nox) G.nd' (G.ix h.1) l1 l2
theorem d7f:FGs X [] []:=⟨c5a,rfl,rfl⟩
theorem d2z (G:Good X C n sp) (h:C.tn i nx=true) (r:FGs X xs is):FGs X (.Name nx p :: xs) (i :: is):=by
 obtain ⟨h1,h2,h3⟩:=r
 refine ⟨c0s (d7h G h) h1 rfl,?_,?_⟩
 ·show (assignEach xs X.env).length + 1=is.length + 1
  rw [h2]
 ·show ((false,assign (.Name nx p) X.env) :: assignEach xs X.env).findIdx? (·.1)=none
  rw [List.findIdx?_cons]
  simp [h3]
theorem d7g (G:Good X C n sp) (r:FGs X xs is):FG X (.Tuple xs k p) (.tp is):=c8v (X:=X.nox) G.calm r.1 r.2.1 r.2.2
theorem PTs.imp {e:List Expr} {t u:TT} (h:PTs X e t) (f:∀ σ H Q,u σ H Q→t σ H Q):PTs X e u:=fun pins s σ H Q I hu=>h pins s σ H Q I (f σ H Q hu)
theorem d6s:FTs X C [] a3y:=PTs.imp b6h fun σ H Q ⟨c,L,S,Q0,I,h,k⟩=>k true L h S H I (Same.refl S)
theorem d6r (h1:FB X C a t):FTs X C [a] t:=PTs.imp (c0m h1 (b6h (X:=X.nox))) fun σ H Q ⟨c,L,S,Q0,I,h,k⟩ =>
 ⟨c,L,S,_,I,h,fun r L1 q S1 H1 I1 s1=>by
  cases r with
  | true=>rw [if_pos rfl]; exact k true L1 q S1 H1 I1 s1
  | false=>rw [if_neg Γk]; exact k false L1 q S1 H1 I1 s1⟩
theorem Good.sub (G:Good X C n sp) {scope:Scope} {own:List Str} (h:C.scOk scope own=true) (md:Md):CScope X scope own∧∀ fp D s H,Good (cxC X scope own fp D s H) (C.sub scope own md) n sp:=by
 simp only [CC.scOk,Bool.and_eq_true,decide_eq_true_eq,List.all_eq_true] at h
 obtain ⟨⟨⟨⟨⟨h1,h2⟩,h3⟩,h4⟩,h5⟩,h6⟩:=h
 refine ⟨⟨h1,fun p hp=>by simpa using h2 p hp,fun p hp=>by simpa using h3 p hp,fun p hp hk=>?_,fun x hx hw=>?_,fun x hx hw=>?_⟩,fun fp D s H=>⟨?_,?_,h1,h6,G.calm,(fun x z=>z),G.room,G.fns,G.blt⟩⟩
 ·have:=h4 p hp
  show X.env.scope.names.lookup p.1=_ ∨ X.env.scope.names.lookup p.1=_
  rw [G.sc]; exact this hk
 ·have:=h5 x (by rw [← G.N]; exact hx)
  rw [if_neg (by rw [hw]; exact Γk)] at this
  exact de this
 ·have:=h5 x (by rw [← G.N]; exact hx)
  rw [if_pos hw] at this
  exact de this
 ·show X.N.map (a8e own)++own=C.N.map (a8e own)++own
  rw [G.N]
 ·show (relabel scope X.env).names=d4v C.sc scope.names
  unfold relabel d4v
  simp only
  refine List.map_congr_left fun p hp=>?_
  obtain ⟨nm,kd⟩:=p
  show (if (kd == NameKind.free && X.env.scope.kind == .function && X.env.scope.names.lookup nm == some .cell)=true then (nm,NameKind.cell) else (nm,kd))=_
  rw [G.kind,G.sc]
  simp
variable {scope:Scope} {own:List Str} {elt tgx iter:Expr} {ifs:List Expr} {it:AW} {tg:Tg} {e:EW} {nn m:Nat} {md':Md}
structure CompOk (X:Cx) (C:CC) (n:Nat) (sp:Γd→Nat→Sp) (scope:Scope) (own:List Str) (elt tgx iter:Expr) (ifs:List Expr) (nn m:Nat) (md':Md) (it:AW) (tg:Tg) (t:BW) (e:EW):Prop where
 st:(C.scOk scope own && decide (C.N.length=nn) && decide (own.length=m) && decide (md'.length≤nn) && c9x C.md md' && a4w md' tg && a9h nn tg && !b7t iter)=true
 it:FI X C md' tgx iter it
 tg:∀ X',Good X' (C.sub scope own md') n sp→FG X' tgx tg
 ts:∀ X',Good X' (C.sub scope own md') n sp→FTs X' (C.sub scope own md') ifs t
 el:∀ X',Good X' (C.sub scope own md') n sp→FE X' (C.sub scope own md') elt e
theorem CompOk.run (G:Good X C n sp) (h:CompOk X C n sp scope own elt tgx iter ifs nn m md' it tg t e) {σ:L2.St} {H:Hp} {Q:VK} (hq:lf X.K C.md (a2v nn m it tg t e) σ H Q):c4d (li X.K C.md md' it) (gT X.K tg) (lb X.K md' t) (lv X.K md' e) own.length σ H Q:=by
 have h0:=b2 h.st; have h1:=b2 h0.1; have h2:=b2 h1.1; have h3:=b2 h2.1; have h4:=b2 h3.1; have h5:=b2 h4.1; have h6:=b2 h5.1
 obtain ⟨c,L,S,Q0,I,hh,k⟩:=hq
 refine ⟨c,L,S,_,I,hh,fun xs L1 hx J c' S1 H1 I1 un e0 hJ s1=>?_⟩
 obtain ⟨hl,hb,hc⟩:=hx
 rw [de h5.2]
 refine c2f I1 hJ hl (de h4.2) h2.2 h1.2 hb hc fun acc ps L' S' H' hn q o fr I' s'=>k _ L' q acc S' H' o ⟨by rw [← e0]; exact fr.1,((un _ _ _ _ I1).fresh hn).2.1,fun j w hm=>fr.2.2 j w (a8d h3.2 j hm)⟩ (un _ _ _ _ I') (s1.trans s')
theorem CompOk.blk (G:Good X C n sp) (h:CompOk X C n sp scope own elt tgx iter ifs nn m md' it tg t e):CScope X scope own∧(∀ fp D s H,PG (cxC X scope own fp D s H) tgx (gT X.K tg)∧PTs (cxC X scope own fp D s H) ifs (lb X.K md' t)∧PE (cxC X scope own fp D s H) elt (lv X.K md' e))∧∀ v,foldedSetIterable iter X.env v=pure v:=by
 have h0:=b2 h.st; have h1:=b2 h0.1; have h2:=b2 h1.1; have h3:=b2 h2.1; have h4:=b2 h3.1; have h5:=b2 h4.1; have h6:=b2 h5.1
 obtain ⟨s1,s2⟩:=G.sub h6.1 md'
 exact ⟨s1,fun fp D s H=>⟨h.tg _ (s2 fp D s H),h.ts _ (s2 fp D s H),h.el _ (s2 fp D s H)⟩,c3n (nb h0.2)⟩
theorem a2f (G:Good X C n sp) (h:CompOk X C n sp scope own elt tgx iter ifs nn m md' it tg t e):FF X C (.ListComp elt [⟨tgx,iter,ifs,0⟩] scope pos) (a2v nn m it tg t e):=by
 obtain ⟨s1,s2,s3⟩:=h.blk G
 exact PE.imp (b6t G.calm s1 h.it s2 s3) fun σ H Q q=>h.run G q
end
noncomputable def d9u (K:Γd) (c:Cn) (S H:Hp) (v:FV) (x:V):Bool→Prop
 | false=>RV K S v x
 | true=>∃ a,x=.ref a∧a3n K S H a v∧c.H0 a=none
noncomputable def EndQ (K:Γd) (c:Cn) (fr:Bool) (D:Ends) (σ:L2.St) (S H:Hp):FFl→Prop
 | .next=>D.nx σ H
 | .brk=>D.bk σ H
 | .cont=>D.ct σ H
 | .ret v=>∀ x,d9u K c S H v x fr→D.rt x H
noncomputable def ls (K:Γd) (md:Md) (fr:Bool) (s:SW):TS:=fun D σ H=>∃ c L S Q0,Iv K c md L σ S H∧s L Q0∧∀ fl L',Q0 fl L'→∀ σ' S' H',Iv K c md L' σ' S' H'→Same S S'→EndQ K c fr D σ' S' H' fl
noncomputable def FS (X:Cx) (C:CC) (fr:Bool) (x:Stmt) (s:SW):Prop:=PS X.nox x (ls X.K C.md fr s)
noncomputable def FSs (X:Cx) (C:CC) (fr:Bool) (x:List Stmt) (s:SW):Prop:=PSs X.nox x (ls X.K C.md fr s)
noncomputable def CC.wmd (C:CC) (md:Md):CC:=⟨C.N,C.sc,C.fns,md,C.top,C.oc⟩
section
variable {X:Cx} {C:CC} {n:Nat} {sp:Γd→Nat→Sp} {fr:Bool} {a b x y:Expr} {e ea eb:EW} {pos p px py:Pos} {i j k:Nat} {nx ny:Str} {is:List Nat} {st:Stmt} {sts:List Stmt} {s r:SW}
variable {K:Γd} {c:Cn} {md:Md} {L:a0a} {σ:L2.St} {S H:Hp}
theorem Good.wmd (G:Good X C n sp) (md:Md):Good X (C.wmd md) n sp:=⟨G.N,G.sc,G.kind,G.nd,G.calm,G.fn,G.room,G.fns,G.blt⟩
theorem PS.imp {e:Stmt} {t u:TS} (h:PS X e t) (f:∀ D σ H,u D σ H→t D σ H):PS X e u:=fun pins s σ H D I hu=>h pins s σ H D I (f D σ H hu)
theorem PSs.imp {e:List Stmt} {t u:TS} (h:PSs X e t) (f:∀ D σ H,u D σ H→t D σ H):PSs X e u:=fun pins s σ H D I hu=>h pins s σ H D I (f D σ H hu)
theorem fs_nil:FSs X C fr [] a8z:=PSs.imp c4s fun D σ H ⟨c,L,S,Q0,I,h,k⟩=>k .next L h σ S H I (Same.refl S)
theorem c3o (h:FS X C fr st s):FSs X C fr [st] s:=c4r h
theorem a1a (h:FS X C fr st s) (h2:FSs X C fr sts r):FSs X C fr (st :: sts) (a1f s r):=PSs.imp (c0o h h2) fun D σ H ⟨c,L,S,Q0,I,h,k⟩ =>
 ⟨c,L,S,_,I,h,fun fl L1 q σ1 S1 H1 I1 s1=>by
  cases fl with
  | next=>exact ⟨c,L1,S1,_,I1,q,fun fl L2 q σ2 S2 H2 I2 s2=>k fl L2 q σ2 S2 H2 I2 (s1.trans s2)⟩
  | brk=>exact k _ L1 q σ1 S1 H1 I1 s1
  | cont=>exact k _ L1 q σ1 S1 H1 I1 s1
  | ret v=>exact k _ L1 q σ1 S1 H1 I1 s1⟩
noncomputable def a7c:Expr→Bool
 | .ListComp ..=>true
 | .SetComp ..=>true
 | .DictComp ..=>true
 | _=>false
theorem a4c {e:Expr} {t:Option Expr} {n:Nat} {env:Env} (h:a7c e=false):swapsWith e t n env=pure false:=by
 cases e <;> first | rfl | (cases h; done)
theorem d6w (hc:a7c a=false) (h:FE X C a e):FS X C fr (.Expr a pos) (c2w e):=PS.imp (c4u h (a4c hc)) fun D σ H ⟨c,L,S,Q0,I,h,k⟩ =>
 ⟨c,L,S,_,I,h,fun v L1 q x S1 H1 r I1 s1=>k .next L1 q σ S1 H1 I1 s1⟩
theorem fs_ret (h:FE X C a e):FS X C false (.Return (some a) pos) (a3d e):=PS.imp (b6j h) fun D σ H ⟨c,L,S,Q0,I,h,k⟩ =>
 ⟨c,L,S,_,I,h,fun v L1 q x S1 H1 r I1 s1=>k (.ret v) L1 q σ S1 H1 I1 s1 x r⟩
theorem d6v (h:FF X C a e):FS X C true (.Return (some a) pos) (a3d e):=PS.imp (b6j h) fun D σ H ⟨c,L,S,Q0,I,h,k⟩ =>
 ⟨c,L,S,_,I,h,fun v L1 q l S1 H1 o fr I1 s1=>k (.ret v) L1 q σ S1 H1 I1 s1 _ ⟨l,rfl,o,fr.1⟩⟩
theorem Iv.mine (I:Iv K c md L σ S H) {v:FV} {a:Addr} (hi:i≠0) (m:a0k md i≠.imm) (e:L[i]?=some (some v)) (e1:σ[i]?=some (some (.ref a))):c.H0 a=none:=by
 obtain ⟨b,e2,_,h⟩:=I.own i v m e
 rw [e1] at e2; cases e2
 rcases h with h | h
 ·obtain ⟨g1,g2,w,g3⟩:=I.lent a h
  exact absurd (I.dis i 0 v w a m g1 e g3 e1 g2) hi
 ·exact h
theorem d6u (G:Good X C n sp) (h:C.nm i nx=true) (m:(decide (a0k C.md i=.own) && decide (i≠0))=true):FS X C true (.Return (some (.Name nx p)) pos) (a3d (a0c i)):=PS.imp (b6j (a1g G h)) fun D σ H ⟨c,L,S,Q0,I,h,k⟩=>by
 have m:=b2 m
 have mi:a0k C.md i≠.imm:=fun z=>by rw [de m.1] at z; cases z
 obtain ⟨v,e,q⟩:=wpx h
 have e:=(a2s _ _ _).mp e
 obtain ⟨l,e1,o,_⟩:=I.own i v mi e
 exact ⟨_,e1,k (.ret v) L q σ S H I (Same.refl S) _ ⟨l,rfl,o,I.mine (de m.2) mi e e1⟩⟩
theorem fs_if {t:BW} {xa xb:List Stmt} (h:FB X C a t) (ha:FSs X C fr xa s) (hb:FSs X C fr xb r):FS X C fr (.If a xa xb pos) (sIf t s r):=PS.imp (d5i h ha hb) fun D σ H ⟨c,L,S,Q0,I,h,k⟩ =>
 ⟨c,L,S,_,I,h,fun v L1 q S1 H1 I1 s1=>by
  cases v with
  | true=>rw [if_pos rfl] at q ⊢; exact ⟨c,L1,S1,_,I1,q,fun fl L2 q σ2 S2 H2 I2 s2=>k fl L2 q σ2 S2 H2 I2 (s1.trans s2)⟩
  | false=>rw [if_neg Γk] at q ⊢; exact ⟨c,L1,S1,_,I1,q,fun fl L2 q σ2 S2 H2 I2 s2=>k fl L2 q σ2 S2 H2 I2 (s1.trans s2)⟩⟩
theorem b9q {tg:Tg} {te:TE} (ht:a4w C.md tg=true) (hte:∀ σ H Q,lv X.K C.md e σ H Q→te σ H Q) (h:PS X.nox st (c2t te (gT X.K tg))):FS X C fr st (a2a e tg):=PS.imp h fun D σ H ⟨c,L,S,Q0,I,h,k⟩=>hte _ _ _
 ⟨c,L,S,_,I,h,fun v L1 q x S1 H1 r I1 s1=>by
  obtain ⟨σ',L',g,q,I2,_⟩:=b0d ht I1 r q
  exact g _ (k .next L' q σ' S1 H1 I2 s1)⟩
theorem c7b {te:TE} (m:a0k C.md i=.imm) (hte:∀ σ H Q,lf X.K C.md e σ H Q→te σ H Q) (h:PS X.nox st (c2t te (a5u i))):FS X C fr st (a2a e (.nm i)):=PS.imp h fun D σ H ⟨c,L,S,Q0,I,h,k⟩=>hte _ _ _
 ⟨c,L,S,_,I,h,fun v L1 q l S1 H1 o f I1 s1=>by
  obtain ⟨u,hu,I2,r⟩:=b7b I1 o f
  exact k .next _ q _ _ H1 (I2.setI m r) (s1.trans (a0p o.1))⟩
theorem c7a {te:TE} (m:(decide (a0k C.md i=.own) && decide (i≠0))=true) (hte:∀ σ H Q,lf X.K C.md e σ H Q→te σ H Q) (h:PS X.nox st (c2t te (a5u i))):FS X C fr st (a2a e (.nm i)):=PS.imp h fun D σ H ⟨c,L,S,Q0,I,h,k⟩=>hte _ _ _
 ⟨c,L,S,_,I,h,fun v L1 q l S1 H1 o f I1 s1=>by
  have m:=b2 m
  exact k .next _ q _ _ H1 (I1.set (fun _ _=>de m.2) (fun z=>by rw [de m.1] at z; cases z) (.inr ⟨de m.1,l,rfl,o,f.1,f.2.1,fun j w _ hm hj=>f.2.2 j w hm hj⟩)) s1⟩
theorem c4t (G:Good X C n sp) {te:TE} (ht:C.tn i nx=true) (hs:swapsWith a (some (.Name nx px)) pos.line X.env=pure false) (h:PE X.nox a te):PS X.nox (.Assign [.Name nx px] a pos) (c2t te (a5u i)):=by
 have ht:=b2 ht
 obtain ⟨l1,l2⟩:=G.loc ht.2
 exact c8r (X:=X.nox) G.nd' (G.ix ht.1) l1 h hs l2
theorem fs_set (G:Good X C n sp) (ht:C.tn i nx=true) (m:a0k C.md i=.imm) (hc:a7c a=false) (h:FE X C a e):FS X C fr (.Assign [.Name nx px] a pos) (a2a e (.nm i)) :=
 b9q (tg:=.nm i) (by simpa [a4w] using m) (fun _ _ _ z=>z) (c4t G ht (a4c hc) h)
theorem d6t (G:Good X C n sp) (ht:C.tn i nx=true) (m:(decide (a0k C.md i=.own) && decide (i≠0))=true) (hc:a7c a=false) (h:FF X C a e):FS X C fr (.Assign [.Name nx px] a pos) (a2a e (.nm i)) :=
 c7a m (fun _ _ _ z=>z) (c4t G ht (a4c hc) h)
noncomputable def swC (C:CC) (x:Str) (px:Pos) (scope:Scope) (p:Pos):Bool:=decide (C.sc.lookup x=some .local) && (px.line == p.line) && !(scope.names.any fun (n,k)=>n == x && (k == .local || k == .cell))
theorem c4e {elt:Expr} {gs:List Comprehension} {scope:Scope} {p px:Pos} {x:Str} {n:Nat} {env:Env} (hk:env.scope.kind=.function) :
  swapsWith (.ListComp elt gs scope p) (some (.Name x px)) n env=pure (decide (env.scope.names.lookup x=some .local) && (px.line == p.line) && !(scope.names.any fun (n,k)=>n == x && (k == .local || k == .cell))):=by
 have hb:env.blockKind=.function:=by unfold Env.blockKind; rw [hk]; rfl
 have:(env.kindOf x == some .local)=decide (env.scope.names.lookup x=some .local):=by
  rw [Bool.eq_iff_iff]; simp [Env.kindOf]
 unfold swapsWith
 simp only [hb,this]
 rfl
variable {scope:Scope} {own:List Str} {elt tgx iter:Expr} {ifs:List Expr} {it:AW} {tg:Tg} {t:BW} {nn m:Nat} {md':Md}
theorem c2e (G:Good X C n sp) (ht:C.tn i nx=true) (h:CompOk X C n sp scope own elt tgx iter ifs nn m md' it tg t e):∃ te:TE,(∀ σ H Q,lf X.K C.md (a2v nn m it tg t e) σ H Q→te σ H Q)∧PS X.nox (.Assign [.Name nx px] (.ListComp elt [⟨tgx,iter,ifs,0⟩] scope p) pos) (c2t te (a5u i)):=by
 have hsw:swapsWith (.ListComp elt [⟨tgx,iter,ifs,0⟩] scope p) (some (.Name nx px)) pos.line X.env=pure (swC C nx px scope p):=by rw [c4e G.kind,G.sc]; rfl
 obtain ⟨s1,s2,s3⟩:=h.blk G
 cases hb:swC C nx px scope p with
 | false =>
  rw [hb] at hsw
  exact ⟨_,fun σ H Q q=>h.run G q,c4t G ht hsw (b6t G.calm s1 h.it s2 s3)⟩
 | true =>
  rw [hb] at hsw
  have hlo:X.env.scope.names.lookup nx=some .local:=by
   rw [G.sc]
   have hb:=b2 hb
   exact de (b2 hb.1).1
  exact ⟨_,fun σ H Q q=>h.run G q,b4d G.calm s1 G.nd' (G.ix (b2 ht).1) hlo h.it s2 hsw s3⟩
theorem b1s (G:Good X C n sp) (ht:C.tn i nx=true) (hm:a0k C.md i=.imm) (h:CompOk X C n sp scope own elt tgx iter ifs nn m md' it tg t e):FS X C fr (.Assign [.Name nx px] (.ListComp elt [⟨tgx,iter,ifs,0⟩] scope p) pos) (a2a (a2v nn m it tg t e) (.nm i)) :=
 let ⟨te,h1,h2⟩:=c2e G ht h
 c7b hm h1 h2
noncomputable def tupX:Expr→Bool
 | .Tuple ..=>true
 | _=>false
theorem fs_tup (G:Good X C n sp) {ts:List Expr} (hm:a4w C.md (.tp is)=true) (hn:tupX a=false) (hg:FGs X ts is) (h:FE X C a e):FS X C fr (.Assign [.Tuple ts k p] a pos) (a2a e (.tp is)) :=
 b9q (tg:=.tp is) hm (fun _ _ _ z=>z) (c2y (X:=X.nox) h (d7g G hg) (by cases a <;> rfl) (by cases a <;> first | rfl | (cases hn; done)) rfl)
theorem c0f {xo xi : Expr} {p : Pos} {env : Env} (h : a3u xi = false) : ∀ v, assign (.Subscript xo xi p) env v = (do
      let ov ← holding [v] (eval xo env)
      let iv ← holding [v, ov] (eval xi env)
      standAt p
      holding [v, ov, iv] (setItem ov iv v)
      release [v, ov, iv] []) := by
  intro v
  cases xi <;> first | rfl | (cases h; done)
theorem fs_ix (G:Good X C n sp) (hn:C.nm i nx=true) (m:a0k C.md i=.own) (hc:(!a7c a && !a3u b)=true) (ha:FE X C a ea) (hb:FE X C b eb):FS X C fr (.Assign [.Subscript (.Name nx px) b p] a pos) (c8b i eb ea):=by
 have hc:=b2 hc
 refine PS.imp (c2y (X:=X.nox) ha (c8w (a1g (pos:=px) G hn) hb c0g (c0f (nb hc.2))) (by simp only [swapsWithSole]; exact a4c (nb hc.1)) rfl rfl) fun D σ H ⟨c,L,S,Q0,I,h,k⟩=>?_
 have mi:a0k C.md i≠.imm:=fun z=>by rw [m] at z; cases z
 obtain ⟨v0,e,h⟩:=wpx h
 obtain ⟨l,e1,_⟩:=I.own i v0 mi ((a2s _ _ _).mp e)
 refine ⟨c,L,S,_,I,h,fun v L1 q x S1 H1 r1 I1 s1=>⟨_,e1,c,L1,S1,_,I1,q,fun w L2 q y S2 H2 r2 I2 s2=>?_⟩⟩
 obtain ⟨v1,e2,q2⟩:=wpx q
 obtain ⟨z,e3,q3⟩:=wpx q2
 have e2:=(a2s _ _ _).mp e2
 obtain ⟨l',f1,⟨o1,ps,us,e9,o2,o3⟩,_⟩:=I2.own i v1 mi e2
 rw [e1] at f1; cases f1
 obtain ⟨xs,g1,e3⟩:=bnd e3
 obtain ⟨nn,g2,e3⟩:=bnd e3
 obtain ⟨pp,g3,rfl⟩:=mpd e3
 cases a3s g1
 cases e9
 obtain rfl:w=.int nn:=by cases w <;> cases g2; rfl
 obtain rfl:y=.int nn:=r2
 refine ⟨l,us,nn,pp,rfl,rfl,o2,by rw [← o3.length]; exact g3,?_⟩
 exact k .next _ q3 σ S2 _ (I2.write m e2 e1 (o3.set pp (r1.mono s2))) (s1.trans s2)
noncomputable def augF (f:Int→Int→Int):FV→FV→Option FV
 | .int a,.int b=>some (.int (f a b))
 | _,_=>none
theorem c5y {J:It} {xs:List FV} {D:Ends} {Q0:FFl→a0a→Prop} (I:Iv K c md L σ S H) (hJ:ItR K c md J xs S) (ht:a4w md tg=true) (h:c5z tg s xs L Q0)
  (k:∀ fl L',Q0 fl L'→∀ σ' S' H',Iv K c md L' σ' S' H'→Same S S'→EndQ K c fr D σ' S' H' fl) :
  ∃ W:Nat→Nat→L2.St→Hp→Prop,(∃ m,W 0 m σ H)∧∀ i m σ H,W i m σ H →
   (J.stop i H∧D.nx σ H) ∨ (J.go i H∧∃ N:L2.St→Hp→Prop,(∀ σ' H',N σ' H'→∃ m',m' < m∧W (i + 1) m' σ' H')∧∀ x H',J.yld i H x H'→gT K tg x σ H' fun σ2 H2=>ls K md fr s { D with nx:=N,ct:=N,bk:=D.nx } σ2 H2):=by
 let W:Nat→Nat→L2.St→Hp→Prop:=fun i j σ1 H1=>∃ L S1,j=(xs.drop i).length∧Iv K c md L σ1 S1 H1∧Same S S1∧c5z tg s (xs.drop i) L Q0
 refine ⟨W,⟨_,L,S,rfl,I,Same.refl S,by rw [List.drop_zero]; exact h⟩,?_⟩
 rintro i m σ1 H1 ⟨L,S1,rfl,I,s1,h⟩
 obtain ⟨j1,j2⟩:=hJ i L σ1 S1 H1 I s1
 cases hd:xs.drop i with
 | nil =>
  rw [hd] at h
  exact .inl ⟨j1 (List.getElem?_eq_none_iff.mpr (List.drop_eq_nil_iff.mp hd)),k .next L h σ1 S1 H1 I s1⟩
 | cons p rest =>
  right
  rw [hd] at h
  have hi:xs[i]?=some p:=by
   have:=congrArg (·[0]?) hd
   simpa using this
  have hd':xs.drop (i + 1)=rest:=by
   have:=congrArg List.tail hd
   simpa [List.tail_drop] using this
  obtain ⟨go,yl⟩:=j2 p hi
  refine ⟨go,fun σ' H'=>∃ m',m' < rest.length + 1∧W (i + 1) m' σ' H',fun σ' H' h=>h,fun x H2 y=>?_⟩
  obtain ⟨S2,s2,tr,rx⟩:=yl x H2 y
  have I2:=tr _ _ _ _ I
  obtain ⟨σ2,L2,g,q,I3,_⟩:=b0d ht I2 rx h
  refine g _ ⟨c,L2,S2,_,I3,q,fun fl L3 q σ3 S3 H3 I4 s3=>?_⟩
  have ss:=s1.trans (s2.trans s3)
  cases fl with
  | next=>exact ⟨_,Nat.lt_succ_self _,L3,S3,by rw [hd'],I4,ss,by rw [hd']; exact q⟩
  | cont=>exact ⟨_,Nat.lt_succ_self _,L3,S3,by rw [hd'],I4,ss,by rw [hd']; exact q⟩
  | brk=>exact k .next L3 q σ3 S3 H3 I4 ss
  | ret v=>exact k (.ret v) L3 q σ3 S3 H3 I4 ss
theorem a4l (G:Good X C n sp) {body:List Stmt} (hc:(a4w md' tg && !b7t iter)=true) (hi:FI X C md' tgx iter it) (hg:FG X tgx tg) (hb:Good X (C.wmd md') n sp→FSs X (C.wmd md') fr body s):FS X C fr (.For tgx iter body [] pos) (b6a it tg s):=by
 have hc:=b2 hc
 refine PS.imp (c8s (X:=X.nox) PassesOwn.never G.calm hi hg (hb (G.wmd md')) (c3n (nb hc.2))) fun D σ H ⟨c,L,S,Q0,I,h,k⟩=>?_
 refine ⟨c,L,S,_,I,h,fun xs L1 q J c' S1 H1 I1 un e0 hJ s1=>?_⟩
 refine c5y I1 hJ hc.1 q fun fl L2 q σ2 S2 H2 I2 s2=>?_
 have:=k fl L2 q σ2 S2 H2 (un _ _ _ _ I2) (s1.trans s2)
 cases fl with
 | next=>exact this
 | brk=>exact this
 | cont=>exact this
 | ret v =>
  intro x r
  refine this x ?_
  cases fr with
  | false=>exact r
  | true =>
   obtain ⟨a,r1,r2,r3⟩:=r
   exact ⟨a,r1,r2,by rw [← e0]; exact r3⟩
theorem fs_whl {body:List Stmt} (hc:FB X C a t) (hb:FSs X C fr body s):FS X C fr (.While a body [] pos) (d2l t s):=by
 refine PS.imp (c0p (X:=X.nox) PassesOwn.never hc hb) fun D σ H ⟨c,L,S,Q0,I,⟨m,h⟩,k⟩=>?_
 refine ⟨fun m σ1 H1=>∃ L S1,Iv X.K c C.md L σ1 S1 H1∧Same S S1∧c7h t s m L Q0,⟨m,L,S,I,Same.refl S,h⟩,?_⟩
 rintro m σ1 H1 ⟨L,S1,I1,s1,h⟩
 cases m with
 | zero=>exact h.elim
 | succ m =>
  refine ⟨c,L,S1,_,I1,h,fun v L1 q S2 H2 I2 s2=>?_⟩
  cases v with
  | false =>
   rw [if_neg Γk] at q ⊢
   exact k .next L1 q σ1 S2 H2 I2 (s1.trans s2)
  | true =>
   rw [if_pos rfl] at q ⊢
   refine ⟨fun σ' H'=>∃ m',m' < m + 1∧∃ L S1,Iv X.K c C.md L σ' S1 H'∧Same S S1∧c7h t s m' L Q0,fun σ' H' h=>h,c,L1,S2,_,I2,q,fun fl L3 q σ3 S3 H3 I4 s3=>?_⟩
   have ss:=s1.trans (s2.trans s3)
   cases fl with
   | next=>exact ⟨m,Nat.lt_succ_self _,L3,S3,I4,ss,q⟩
   | cont=>exact ⟨m,Nat.lt_succ_self _,L3,S3,I4,ss,q⟩
   | brk=>exact k .next L3 q σ3 S3 H3 I4 ss
   | ret v=>exact k (.ret v) L3 q σ3 S3 H3 I4 ss
end
structure Df where
 name:String
 st:Stmt
 ps:List Str
 N:List Str
 md:Md
noncomputable def Df.cc (d:Df) (fns:List Str):CC:=⟨d.N,(a0l d.st).names,fns,d.md,true,[]⟩
noncomputable def d5o (io:Bool) (md:Md) (np:Nat):Bool:=(List.range np).all fun i=>decide (a0k md i=if (io && decide (i=0))=true then .own else .imm)
noncomputable def Df.ok (d:Df) (np ns:Nat) (io:Bool):Bool :=
 decide ((a0l d.st).kind=.function) && !(a0l d.st).isCoroutine && !(a0l d.st).isGenerator && decide (d.N.Nodup) && decide (d.N.take d.ps.length=d.ps) && d.ps.all (fun x=>decide ((a0l d.st).names.lookup x=some .local ∨ (a0l d.st).names.lookup x=some .cell)) &&
 (a0l d.st).names.all (fun p=>decide (p.2≠.free)) && decide (np=d.ps.length) && decide (ns=d.N.length) && d5o io d.md np
noncomputable def spT (K:Γd) (tb:List FD) (call:CW) (f:Nat):Sp:=match tb[f]? with
 | some fd=>spQ K call fd.io fd.fr f
 | none=>fun _ _ _ _=>False
noncomputable def spK (tb:List FD) (call:CW) (K:Γd):Nat→Sp:=spT K tb call
theorem Df.sc {d:Df} {np ns:Nat} {io:Bool} (h:d.ok np ns io=true):FnScope d.N d.ps (a0l d.st)∧np=d.ps.length∧ns=d.N.length∧∀ i,i < np→a0k d.md i=if (io && decide (i=0))=true then .own else .imm:=by
 have h0:=b2 h; have h1:=b2 h0.1; have h2:=b2 h1.1; have h3:=b2 h2.1; have h4:=b2 h3.1; have h5:=b2 h4.1; have h6:=b2 h5.1; have h7:=b2 h6.1; have h8:=b2 h7.1
 exact ⟨⟨de h8.1,nb h8.2,nb h7.2,de h6.2,de h5.2,fun x hx=>de (List.all_eq_true.mp h4.2 x hx),fun y hy=>de (List.all_eq_true.mp h3.2 y hy)⟩,de h2.2,de h1.2,fun i hi=>de (List.all_eq_true.mp h0.2 i (List.mem_range.mpr hi))⟩
section
variable {P:Program} {w:World} {K:Γd} {mg:Str→Option Value} {base:Heap} {tb:List FD} {fns:List Str}
theorem ArgsOk.len {S H:Hp} {args:List FV} {vs:List V} {io:Bool} (h:ArgsOk K S H args vs io):args.length=vs.length:=by
 cases io with
 | false=>exact RVs.length h
 | true =>
  obtain ⟨v,r,a,us,rfl,rfl,_,h⟩:=h
  rw [List.length_cons,List.length_cons,h.length]
theorem c1i {S H:Hp} {args:List FV} {vs:List V} {io:Bool} {md:Md} {N:List Str} {np ns:Nat} (h:ArgsOk K S H args vs io) (hs:Same S H) (hn:args.length=np) (hN:ns=N.length) (hm:∀ i,i < np→a0k md i=if (io && decide (i=0))=true then .own else .imm) :
  Iv K ⟨H,S,b3b vs io,[],[]⟩ md (args.map some++Γj (ns - np) none) (L2.start N vs) S H:=by
 have hl:=h.len
 have look:∀ i v,(args.map some++Γj (ns - np) none)[i]?=some (some v)→args[i]?=some v∧i < np:=fun i v e=>by
  by_cases hi:i < args.length
  ·rw [List.getElem?_append_left (by rw [List.length_map]; exact hi),List.getElem?_map] at e
   cases ea:args[i]? with
   | none=>rw [ea] at e; cases e
   | some q=>rw [ea] at e; cases e; exact ⟨rfl,by lia⟩
  ·rw [List.getElem?_append_right (by rw [List.length_map]; lia),List.getElem?_replicate] at e
   split at e <;> cases e
 have st:∀ i,i < np→(L2.start N vs)[i]?=vs[i]?.map some:=fun i hi=>by
  unfold L2.start
  rw [List.getElem?_append_left (by rw [List.length_map]; lia),List.getElem?_map]
 have own:∀ i v,a0k md i≠.imm→(args.map some++Γj (ns - np) none)[i]?=some (some v)→i=0∧io=true∧a0k md 0=.own:=fun i v hm' e=>by
  obtain ⟨_,hi⟩:=look i v e
  have:=hm i hi
  cases io with
  | false=>exact absurd (by simpa using this) hm'
  | true =>
   by_cases h0:i=0
   ·subst h0; exact ⟨rfl,rfl,by simpa using this⟩
   ·exact absurd (by simpa [h0] using this) hm'
 have lent:∀ a,b3b vs io=some a→io=true∧0 < np∧a0k md 0=.own∧vs[0]?=some (.ref a)∧∃ v,args[0]?=some v∧a3n K S H a v:=fun a e=>by
  cases io with
  | false=>cases e
  | true =>
   obtain ⟨v,r,a',us,rfl,rfl,o,_⟩:=h
   cases e
   have hp:0 < np:=by rw [← hn]; exact Nat.succ_pos _
   exact ⟨rfl,hp,by simpa using hm 0 hp,rfl,v,rfl,o⟩
 refine ⟨?_,fun i v hm' e=>?_,fun i v hm' e=>?_,fun i j v w a m1 m2 e1 e2 _ _=>?_,hs,fun a o e _=>e,Same.refl S,fun a o e=>.inl e,fun a e=>?_,fun p hp=>absurd hp List.not_mem_nil,fun i v hf e=>?_,fun p hp=>absurd hp List.not_mem_nil,fun p hp=>absurd hp List.not_mem_nil,fun p hp=>absurd hp List.not_mem_nil⟩
 ·unfold L2.start
  rw [List.length_append,List.length_append,List.length_map,List.length_map,List.length_replicate,List.length_replicate,hN]
  lia
 ·obtain ⟨ea,hi⟩:=look i v e
  rw [st i hi]
  cases io with
  | false =>
   obtain ⟨x,e1,r⟩:=RVs.get (show RVs K S args vs from h) ea
   exact ⟨x,by rw [e1]; rfl,r⟩
  | true =>
   obtain ⟨v0,r,a',us,rfl,rfl,o,hr⟩:=h
   cases i with
   | zero=>rw [show a0k md 0=.own by simpa using hm 0 hi] at hm'; cases hm'
   | succ i =>
    obtain ⟨x,e1,r1⟩:=RVs.get hr (by simpa using ea)
    exact ⟨x,by simp [e1],r1⟩
 ·obtain ⟨rfl,rfl,m0⟩:=own i v hm' e
  obtain ⟨ea,hi⟩:=look 0 v e
  obtain ⟨v0,r,a',us,rfl,rfl,o,hr⟩:=h
  cases ea
  exact ⟨a',by rw [st 0 hi]; rfl,o,.inl rfl⟩
 ·rw [(own i v m1 e1).1,(own j w m2 e2).1]
 ·obtain ⟨rfl,hp,m0,e1,v,ea,_⟩:=lent a e
  refine ⟨fun z=>(nomatch (m0.symm.trans z)),by rw [st 0 hp,e1]; rfl,v,?_⟩
  rw [List.getElem?_append_left (by rw [List.length_map]; lia),List.getElem?_map,ea]; rfl
 ·have:=own i v (fun z=>by rw [z] at hf; cases hf) e
  rw [this.1,this.2.2] at hf; cases hf
theorem b8c {d f:Nat} {fa:Addr} {fdd:FuncData} {df:Df} {fd:FD} (F:Fun K (Γe df.name) (Γe df.name) df.st fa fdd) (hf:tb[f]?=some fd) (hok:df.ok fd.np fd.ns fd.io=true)
  (hb:∀ X call n,Good X (df.cc fns) n (spK tb call)→FSs X (df.cc fns) fd.fr (a1w df.st) (fd.body call))
  (fnsOk:∀ (f:Nat) (x:Str),fns[f]?=some x→∃ fa fd ps,mg x=some (.ref fa)∧PySem.W.keepIn K (.ref fa)=true∧Binds K fd ps []∧FnOk P w K mg base CX0 d fa fd ps (spT K tb (callW tb d) f))
  (blt:∀ b∈bltNames,mg (Γe b)=none):FnOk P w K mg base CX0 (d + 1) fa fdd df.ps (spT K tb (callW tb (d + 1)) f):=by
 obtain ⟨S,hnp,hns,hmd⟩:=Df.sc hok
 have e0:spT K tb (callW tb (d + 1)) f=spQ K (callW tb (d + 1)) fd.io fd.fr f:=by unfold spT; rw [hf]
 have run:∀ {args:List FV} {Q:FV×FV→Prop},callW tb (d + 1) f args Q→args.length=fd.np∧fd.body (callW tb d) (args.map some++Γj (fd.ns - fd.np) none) (b9x fd.io fd.fr Q):=fun {args Q} h=>by
  have h:(match tb[f]? with
   | none=>False
   | some fd=>args.length=fd.np∧fd.body (callW tb d) (args.map some++Γj (fd.ns - fd.np) none) (b9x fd.io fd.fr Q)):=h
  rw [hf] at h; exact h
 rw [e0]
 refine F.ok S (fun vs H Q E h=>?_) (fun cdv A outer s H vs Q E hr h=>?_)
 ·obtain ⟨S0,args,Q0,_,ao,hc,_⟩:=h
  rw [← ao.len,(run hc).1,hnp]
 ·obtain ⟨S0,args,Q0,hs,ao,hc,k⟩:=h
  obtain ⟨hl,hc⟩:=run hc
  have G:Good (c6r CX0 P w K mg base df.N (Γe df.name) (a0l df.st) fa cdv A outer s H E) (df.cc fns) d (spK tb (callW tb d)) :=
   ⟨rfl,rfl,S.kind,S.nd,rfl,fun _ _=>rfl,hr,fnsOk,blt⟩
  refine ⟨_,hb _ _ _ G,_,_,S0,_,c1i ao hs hl hns hmd,hc,fun fl L' q σ' S' H' I s'=>?_⟩
  have kp:∀ w,(fd.io=true→lk L' 0=some w)→Kept K S0 H S' H' (b3b vs fd.io) w:=fun w hw=>⟨s',I.sub,I.grow,fun a o e n=>I.frame a o e n,fun a e=>by
   have hio:fd.io=true:=by
    cases z:fd.io with
    | true=>rfl
    | false=>rw [z] at e; cases e
   obtain ⟨m0,e1,v,e2⟩:=I.lent a e
   obtain ⟨b,e3,o,_⟩:=I.own 0 v m0 e2
   rw [e1] at e3; cases e3
   have:=(a2s _ _ _).mp (hw hio)
   rw [e2] at this; cases this
   exact o⟩
  have fin:∀ v x,b9x fd.io fd.fr Q0 (.ret v) L'→c7e K S' H' H v x fd.fr→Q x H':=fun v x q r=>by
   cases hio:fd.io with
   | true =>
    rw [hio] at q
    obtain ⟨w,e1,q⟩:=wpx q
    exact k _ q x S' H' (kp w fun _=>e1) r
   | false =>
    rw [hio] at q
    exact k (v,.non) q x S' H' (kp .non fun z=>by rw [hio] at z; cases z) r
  cases fl with
  | next =>
   cases hfr:fd.fr with
   | true=>rw [hfr] at q; exact q.elim
   | false=>rw [hfr] at q; exact fin .non .non (by rw [hfr]; exact q) (by rw [hfr]; exact rfl)
  | ret v =>
   intro x r
   refine fin v x q ?_
   cases hfr:fd.fr with
   | true=>rw [hfr] at r; exact r
   | false=>rw [hfr] at r; exact r
  | brk=>exact q.elim
  | cont=>exact q.elim
theorem b9r (blt:∀ b∈bltNames,mg (Γe b)=none)
  (D:∀ (f:Nat) (x:Str),fns[f]?=some x→∃ df fd fa fdd,tb[f]?=some fd∧Df.ok df fd.np fd.ns fd.io=true∧(∀ X call n,Good X (df.cc fns) n (spK tb call)→FSs X (df.cc fns) fd.fr (a1w df.st) (fd.body call))∧Fun K (Γe df.name) (Γe df.name) df.st fa fdd∧mg x=some (.ref fa)∧Binds K fdd df.ps []) :
  ∀ (d f:Nat) (x:Str),fns[f]?=some x→∃ fa fd ps,mg x=some (.ref fa)∧PySem.W.keepIn K (.ref fa)=true∧Binds K fd ps []∧FnOk P w K mg base CX0 d fa fd ps (spT K tb (callW tb d) f)
 | 0,f,x,h=>by
  obtain ⟨df,fd,fa,fdd,h1,h2,h6,h3,h4,h5⟩:=D f x h
  have no:∀ vs H Q E,¬ spT K tb (callW tb 0) f vs H Q E:=fun vs H Q E z=>by
   unfold spT at z
   rw [h1] at z
   obtain ⟨_,_,_,_,_,k,_⟩:=z
   exact k
  exact ⟨fa,fdd,df.ps,h4,h3.kp,h5,fun vs H Q E z=>absurd z (no vs H Q E),fun A outer s H args us vs Q E _ _ _ _ z=>absurd z (no vs H Q E)⟩
 | d + 1,f,x,h=>by
  obtain ⟨df,fd,fa,fdd,h1,h2,h6,h3,h4,h5⟩:=D f x h
  exact ⟨fa,fdd,df.ps,h4,h3.kp,h5,b8c h3 h1 h2 h6 (b9r blt D d) blt⟩
theorem law_sp {d f:Nat} {H:Hp} {a:Addr} {ns:List Int} {fd:FD} (hf:tb[f]?=some fd) (hio:fd.io=false) (hfr:fd.fr=false) (hO:d2j H) (hS:SqL K H a (ns.map V.int)) (h:callW tb d f [.scr ns] fun z=>z.1=.bl true) :
  spT K tb (callW tb d) f [.ref a] H (fun v _=>v=.bl true) fun _ _ _=>False:=by
 have e0:spT K tb (callW tb d) f=spQ K (callW tb d) false false f:=by unfold spT; rw [hf]; show spQ K (callW tb d) fd.io fd.fr f=_; rw [hio,hfr]
 rw [e0]
 refine ⟨H,[.scr ns],_,Same.refl H,RVs.one ⟨a,rfl,?_⟩,h,fun z e x S' H' _ r=>?_⟩
 ·rcases hS with (h | ⟨o,h⟩) | h
  ·rcases hO a with z | ⟨o,xs,z⟩
   ·rw [z] at h; cases h
   ·rw [z] at h; cases h
  ·exact .inl ⟨o,h⟩
  ·exact .inr (.inr h)
 ·have r:RV K S' z.1 x:=r
  rw [e] at r; exact r
end
noncomputable def EachI {α:Type} (P:Nat→α→Prop):Nat→List α→Prop
 | _,[]=>True
 | i,x :: xs=>P i x∧EachI P (i + 1) xs
theorem EachI.get {α:Type} {P:Nat→α→Prop}:∀ {xs:List α} {k:Nat},EachI P k xs→∀ (f:Nat) (x:α),xs[f]?=some x→P (k + f) x
 | _ :: _,_,h,0,x,e=>(Option.some.inj e) ▸ h.1
 | _ :: xs,k,h,f + 1,x,e=>by
  have:=EachI.get h.2 f x e
  rw [Nat.add_assoc,Nat.add_comm 1 f] at this
  exact this
theorem us1 {P:List Value→Prop} {us:List Value} (h:us.length=1) (H:∀ a,P [a]):P us:=match us,h with | [_],_=>H _
theorem us2 {P:List Value→Prop} {us:List Value} (h:us.length=2) (H:∀ a b,P [a,b]):P us:=match us,h with | [_,_],_=>H _ _
theorem us3 {P:List Value→Prop} {us:List Value} (h:us.length=3) (H:∀ a b c,P [a,b,c]):P us:=match us,h with | [_,_,_],_=>H _ _ _
theorem us4 {P:List Value→Prop} {us:List Value} (h:us.length=4) (H:∀ a b c d,P [a,b,c,d]):P us:=match us,h with | [_,_,_,_],_=>H _ _ _ _
end Kq
end
section
namespace Kq
open PySem PySem.Spec PySem.Calls PyProof.Rows L2 PySem.W
theorem a8g:∀ {K:Frag} {a:Addr} {o:Obj},K.lookup a=some o→(a,o)∈K
 | [],a,o,h=>by simp at h
 | (b,u) :: K,a,o,h=>by
  rw [List.lookup_cons] at h
  split at h
  ·rename_i e; cases h; rw [beq_iff_eq.mp e]; exact Γn
  ·exact Γh _ (a8g h)
theorem b7g {K:Frag} {a:Addr} {o:Obj} (h:(a,o)∈K):∃ u,K.lookup a=some u:=by
 induction K with
 | nil=>exact absurd h List.not_mem_nil
 | cons p K ih =>
  obtain ⟨b,u⟩:=p
  rw [List.lookup_cons]
  split
  ·exact ⟨_,rfl⟩
  ·rename_i e
   rcases List.mem_cons.mp h with z | z
   ·rw [(Prod.mk.inj z).1,beq_self_eq_true] at e; cases e
   ·exact ih z
noncomputable def AllIn (K:Frag) (h:Heap):Prop:=∀ p∈K,h.get? p.1=some p.2
theorem AllIn.to {K:Frag} {h:Heap} (x:AllIn K h):K.In h:=fun a o e=>x _ (a8g e)
theorem AllIn.look {K:Frag} {h:Heap} (x:AllIn K h) {a:Addr} {o:Obj} (m:(a,o)∈K):K.lookup a=some o:=by
 obtain ⟨u,e⟩:=b7g m
 have h1:=x _ (a8g e)
 rw [show h.get? a=some o from x _ m] at h1
 cases h1; exact e
noncomputable def CIn (K:Frag) (cd:Value) (q:Str):Prop:=∃ c oc vs t,cd=.ref c∧(c,oc)∈K∧oc.data=.fields vs∧vs[1]?=some (.str q t)
noncomputable def DIn (K:Frag) (mg:Str→Option Value) (d:DefRec):Prop:=∃ fa o pm cd doc,mg d.name=some (.ref fa)∧(fa,o)∈K∧o.data=.func (docDef d.name d.params d.body d.scope pm cd doc)∧CIn K cd d.name
theorem DIn.more {K K':Frag} {mg:Str→Option Value} {d:DefRec} (s:∀ p∈K,p∈K') (x:DIn K mg d):DIn K' mg d:=by
 obtain ⟨fa,o,pm,cd,doc,h1,h2,h3,c,oc,vs,t,h4,h5,h6⟩:=x
 exact ⟨fa,o,pm,cd,doc,h1,s _ h2,h3,c,oc,vs,t,h4,s _ h5,h6⟩
theorem b8r {q:Program} {loose:List Str} {mean:ExcName→Option Value} {mg mb:Str→Option Value} {h:Heap} (T:Top q loose mean mg mb h):∀ ds:List DefRec,(∀ d∈ds,d∈recsOf q)→∃ K:Frag,AllIn K h∧∀ d∈ds,DIn K mg d
 | [],_=>⟨[],fun _ m=>absurd m List.not_mem_nil,fun _ m=>absurd m List.not_mem_nil⟩
 | d :: ds,hm=>by
  obtain ⟨K,h1,h2⟩:=b8r T ds fun e m=>hm e (Γh _ m)
  obtain ⟨a,o,pm,cd,doc,g1,g2,g3,c,oc,vs,t,g4,g5,g6⟩:=T.fn d (hm d Γn)
  refine ⟨(a,o) :: (c,oc) :: K,fun p m=>?_,fun e m=>?_⟩
  ·rcases List.mem_cons.mp m with z | z
   ·cases z; exact g2
   ·rcases List.mem_cons.mp z with z | z
    ·cases z; exact g5
    ·exact h1 p z
  ·rcases List.mem_cons.mp m with z | z
   ·cases z
    exact ⟨a,o,pm,cd,doc,g1,Γn,g3,c,oc,vs,t,g4,Γh _ Γn,g6⟩
   ·exact (h2 e z).more fun p m=>Γh _ (Γh _ m)
theorem DIn.fn {K:Frag} {h:Heap} (A:AllIn K h) {mg:Str→Option Value} {x:Str} {st:Stmt} {pos:Pos} (D:DIn K mg ⟨x,a5c st,a1w st,a0l st,pos⟩):∃ fa fd,mg x=some (.ref fa)∧Fun K x x st fa fd:=by
 obtain ⟨fa,o,pm,cd,doc,h1,h2,h3,c,oc,vs,t,rfl,h5,h6,h7⟩:=D
 have l:=A.look h2
 have lc:=A.look h5
 obtain ⟨k1,k2,k3,k4⟩:=o
 obtain ⟨j1,j2,j3,j4⟩:=oc
 cases h3; cases h6
 refine ⟨fa,_,h1,d0u (kV:=.none) (doc:=doc) (pm:=pm) (an:=none) (cdv:=.ref c) (ct:=.none) l ?_ ?_⟩
 ·show (match K.lookup c with | some ⟨_,_,.fields vs,_⟩=>_ | _=>_)=true
  rw [lc]
  obtain ⟨l⟩:=vs
  match l,h7 with
  | [],h7=>simp at h7
  | [a],h7=>simp at h7
  | a :: b :: r,h7 =>
   simp at h7; subst h7
   exact beq_self_eq_true _
 ·show (match K.lookup fa with | some ⟨_,_,.func _,_⟩=>true | some ⟨_,_,.cls _,_⟩=>_ | _=>false)=true
  rw [l]
noncomputable def d1r:Stmt→Pos
 | .FunctionDef _ _ _ _ _ _ _ _ _ p=>p
 | _=>⟨0,0,0,0⟩
noncomputable def d6i:Stmt→Bool
 | .FunctionDef ..=>true
 | _=>false
noncomputable def c7n (p:Program):Program:={ p with main:={ p.main with body:=p.main.body.filter d6i } }
noncomputable def freeIn (q:Program) (loose:List Str) (x:Str):Bool:=!startupNames.contains x && !loose.contains x && !((recsOf q).map (·.name)).contains x && !((litsOf q).map (·.1)).contains x && !((clssOf q loose).map (·.name)).contains x
theorem c5x {q:Program} {loose:List Str} {mean:ExcName→Option Value} {mg mb:Str→Option Value} {h:Heap} (T:Top q loose mean mg mb h) {x:Str} (e:freeIn q loose x=true):mg x=none:=by
 unfold freeIn at e
 simp only [Bool.and_eq_true,Bool.not_eq_true',List.contains_eq_mem,decide_eq_false_iff_not] at e
 exact T.free x e.1.1.1.1 e.1.1.1.2 e.1.1.2 e.1.2 e.2
theorem walk2 {l:OpenLaw} {n k:Nat} {q:Program} {XP:(Str→Option Value)→Heap→Prop} {YP:World→Heap→Prop} {d:DefRec} {ds:List DefRec} {x:Str} {sp:Frag→Sp}
  (hn:l.most=some n) (hn2:n≤sizeLine) (hdf:d.params.defaults=[]) (hr:Room k callerA) (hds:ds=recsOf q) (hfree:(bltNames.all fun b=>freeIn q (looseW q []) (Γe b))=true)
  (F:∀ (w:World) (K:Frag) (mg:Str→Option Value) (fa:Addr) (h:Heap),AllIn K h→(∀ d∈ds,DIn K mg d)→(∀ b∈bltNames,mg (Γe b)=none)→mg d.name=some (.ref fa) →
   ∃ fd:FuncData,(∀ (s:Shared) (u:Value),BindsTo s fd ⟨[u],[]⟩ [(x,u)])∧∀ base:Heap,FnOk l.prog w K mg base CX0 k fa fd [x] (sp K))
  (hsp:∀ (K:Frag) (H:Hp) (a:Addr) (ns:List Int),ns.length≤n→d2j H→SqL K H a (ns.map V.int)→sp K [.ref a] H (fun v _=>v=.bl true) fun _ _ _=>False) :
  WalkO q [] XP YP l.row.toRowW d [] (fun f vs=>PySem.call f vs):=by
 refine Att.attach_call hn hdf fun w s₀ s₁ mg mb fa o pm cd doc a vs ns G Y ho hd hcd hmg hobj hints hlen hg=>?_
 obtain ⟨K,hK,hD⟩:=b8r G.T ds fun d m=>hds ▸ m
 obtain ⟨fd,hb,hF⟩:=F w K mg fa _ hK hD (fun b hb=>c5x G.T (List.all_eq_true.mp hfree b hb)) hmg
 exact b3c hK.to G.T.g G.T.b G.T.builtins G.T.nolimit hg hobj hints (Nat.le_trans hlen hn2) hr (fun base _ _=>hF base) hb (fun H hO hS=>hsp K H a ns hlen hO hS) fun H e s' z=>z
theorem row_holds {l:OpenLaw} {q:Program} {d:DefRec} {N:Nat} (said:l.wellSaid=true) (left:LeftO l.prog q [] (fun s=>xlAt q [] s && recOk (RowW.records l.row.toRowW) s) (fun _=>()) (fun _=>()) N)
  (hdef:defOf q l.name=some (d,[])) (hp:l.prog.theDef l.name=some (d.params,d.body,d.scope)) (hk:kwWritten? d.params.kwonlyargs d.params.kw_defaults=some []) (hwr:(!l.writes || l.row.records.isEmpty)=true)
  (ok:(chainsOk q && opensWell l.prog && (frees l.row.toRowW && l.row.within.isEmpty))=true) (hb:l.prog.bare) (hw:l.row.toRowW.promised)
  (call:WalkO q [] (XL q []) (fun _ _=>True) l.row.toRowW d [] fun f vs=>PySem.call f vs):l.Holds :=
 holds_law said fun k1=>holds_open (r:=l.row) left (fun _ _ _=>trivial) (fun _ _ _ _ _=>trivial) (fun s e=>xl_of s (Bool.and_eq_true_iff.mp e).1) XL.keeps hdef hp hk (fun s e=>recFacts_of (Bool.and_eq_true_iff.mp e).2) hwr k1 ok hb hw call
end Kq
end
set_option maxHeartbeats 1000000
section
namespace Kq
@[scoped simp ↓] theorem a4s {α:Type} (x:α) (Q:α→Prop):wp (some x) Q=Q x:=propext Iff.rfl
@[scoped simp ↓] theorem d3v {α:Type} (Q:α→Prop):wp (none:Option α) Q=False:=propext Iff.rfl
theorem a1p {α β:Type} (r:Option α) (f:α→Option β) (Q:β→Prop):wp (r.bind f) Q↔wp r (fun x=>wp (f x) Q):=by cases r <;> rfl
@[scoped simp ↓] theorem a1y {α β:Type} (r:Option α) (f:α→β) (Q:β→Prop):wp (r.map f) Q↔wp r (fun x=>Q (f x)):=by cases r <;> rfl
@[scoped simp ↓] theorem a2q {α:Type} (c:Prop) [Decidable c] (a:α) (Q:α→Prop):wp (if c then some a else none) Q↔c∧Q a:=by
 by_cases h:c <;> simp [h]
@[scoped simp ↓] theorem c6l (i:Nat) (L:a0a) (Q:FV→a0a→Prop):a0c i L Q=(wp (lk L i) fun x=>Q x L):=propext Iff.rfl
@[scoped simp ↓] theorem eC_eq (v:FV) (L:a0a) (Q:FV→a0a→Prop):eC v L Q=(Q v L):=propext Iff.rfl
@[scoped simp ↓] theorem d1d (f:FV→Option FV) (a:EW) (L:a0a) (Q:FV→a0a→Prop):eUn f a L Q=(a L fun x L1=>wp (f x) fun z=>Q z L1):=propext Iff.rfl
@[scoped simp ↓] theorem eOp_eq (f:FV→FV→Option FV) (a b:EW) (L:a0a) (Q:FV→a0a→Prop):eOp f a b L Q=(a L fun x L1=>b L1 fun y L2=>wp (f x y) fun z=>Q z L2):=propext Iff.rfl
@[scoped simp ↓] theorem d8p (f:FV→FV→Option FV) (i:Nat) (b:EW) (L:a0a) (Q:FV→a0a→Prop):a5y f i b L Q=(wp (lk L i) fun _=>b L fun y L1=>wp (lk L1 i) fun x=>wp (f x y) fun z=>Q z L1):=propext Iff.rfl
@[scoped simp ↓] theorem d8r (a b:EW) (L:a0a) (Q:FV→a0a→Prop):c1y a b L Q=(a L fun x L1=>wp (b3y x) fun r=>if r=true then b L1 Q else Q x L1):=propext Iff.rfl
@[scoped simp ↓] theorem eOr_eq (a b:EW) (L:a0a) (Q:FV→a0a→Prop):eOr a b L Q=(a L fun x L1=>wp (b3y x) fun r=>if r=true then Q x L1 else b L1 Q):=propext Iff.rfl
@[scoped simp ↓] theorem eIf_eq (c:BW) (a b:EW) (L:a0a) (Q:FV→a0a→Prop):eIf c a b L Q=(c L fun r L1=>if r=true then a L1 Q else b L1 Q):=propext Iff.rfl
@[scoped simp ↓] theorem d9k (a:EW) (L:a0a) (Q:Bool→a0a→Prop):a2h a L Q=(a L fun x L1=>wp (b3y x) fun b=>Q b L1):=propext Iff.rfl
@[scoped simp ↓] theorem d9m (a b:BW) (L:a0a) (Q:Bool→a0a→Prop):d2f a b L Q=(a L fun r L1=>if r=true then b L1 Q else Q false L1):=propext Iff.rfl
@[scoped simp ↓] theorem bOr_eq (a b:BW) (L:a0a) (Q:Bool→a0a→Prop):bOr a b L Q=(a L fun r L1=>if r=true then Q true L1 else b L1 Q):=propext Iff.rfl
@[scoped simp ↓] theorem d9l (a:BW) (L:a0a) (Q:Bool→a0a→Prop):d2e a L Q=(a L fun r L1=>Q (!r) L1):=propext Iff.rfl
@[scoped simp ↓] theorem d3r (L:a0a) (Q:Bool→a0a→Prop):a3y  L Q=(Q true L):=propext Iff.rfl
@[scoped simp ↓] theorem d9p (L:a0a) (Q:List FV→a0a→Prop):a1d  L Q=(Q [] L):=propext Iff.rfl
@[scoped simp ↓] theorem d3u (a:EW) (r:AW) (L:a0a) (Q:List FV→a0a→Prop):a0b a r L Q=(a L fun x L1=>r L1 fun xs L2=>Q (x :: xs) L2):=propext Iff.rfl
@[scoped simp ↓] theorem d8l (a:AW) (L:a0a) (Q:FV→a0a→Prop):b1t a L Q=(a L fun xs L1=>xs.length≤big∧Q (.tup xs) L1):=propext Iff.rfl
@[scoped simp ↓] theorem d8q (a:AW) (L:a0a) (Q:FV→a0a→Prop):a9a a L Q=(a L fun xs L1=>xs.length≤big∧Q (.lst xs) L1):=propext Iff.rfl
@[scoped simp ↓] theorem d2p (L:a0a) (Q:Option Int→a0a→Prop):c0z  L Q=(Q none L):=propext Iff.rfl
@[scoped simp ↓] theorem d2o (a:EW) (L:a0a) (Q:Option Int→a0a→Prop):a9p a L Q=(a L fun x L1=>wp (a2t x) fun i=>Q (some i) L1):=propext Iff.rfl
@[scoped simp ↓] theorem eSl_eq (a:EW) (l h:OW) (L:a0a) (Q:FV→a0a→Prop):eSl a l h L Q=(a L fun x L1=>l L1 fun i L2=>h L2 fun j L3=>wp (a4d x i j) fun z=>Q z L3):=propext Iff.rfl
@[scoped simp ↓] theorem d8o (k:Nat) (l h:OW) (L:a0a) (Q:FV→a0a→Prop):d1f k l h L Q=(wp (lk L k) fun _=>l L fun i L2=>h L2 fun j L3=>wp (lk L3 k) fun x=>wp (a4d x i j) fun z=>Q z L3):=propext Iff.rfl
@[scoped simp ↓] theorem d3o (call:CW) (f:Nat) (a:AW) (L:a0a) (Q:FV→a0a→Prop):a2g call f a L Q=(a L fun xs L1=>call f xs fun z=>Q z.1 L1):=propext Iff.rfl
@[scoped simp ↓] theorem d1j (call:CW) (f i:Nat) (a:AW) (L:a0a) (Q:FV→a0a→Prop):a1o call f i a L Q=(wp (lk L i) fun _=>a L fun xs L1=>wp (lk L1 i) fun x=>call f (x :: xs) fun z=>Q z.1 (L1.set i (some z.2))):=propext Iff.rfl
@[scoped simp ↓] theorem d3k (f:FV→FV→Option FV) (i:Nat) (a:EW) (L:a0a) (Q:FV→a0a→Prop):b1u f i a L Q=(wp (lk L i) fun v=>wp (a6w v) fun _=>a L fun y L1=>wp (lk L1 i) fun x=>wp (f x y) fun z=>Q .non (L1.set i (some z))):=propext Iff.rfl
@[scoped simp ↓] theorem d6m (a:EW) (L:a0a) (Q:List FV→a0a→Prop):c1n a L Q=(a L fun x L1=>wp (a3o x) fun xs=>Q xs L1):=propext Iff.rfl
@[scoped simp ↓] theorem d6n (a:EW) (L:a0a) (Q:List FV→a0a→Prop):c1o a L Q=(a L fun x L1=>wp (a2t x) fun j=>a0q j=true∧Q (upF 0 j.toNat) L1):=propext Iff.rfl
@[scoped simp ↓] theorem d2t (a b:EW) (L:a0a) (Q:List FV→a0a→Prop):iRng2 a b L Q=(a L fun x L1=>b L1 fun y L2=>wp (a2t x) fun i=>wp (a2t y) fun j=>(a0q i && a0q j)=true∧Q (upF i (j - i).toNat) L2):=propext Iff.rfl
@[scoped simp ↓] theorem d6k (a b:EW) (L:a0a) (Q:List FV→a0a→Prop):d6l a b L Q=(a L fun x L1=>b L1 fun y L2=>wp (a3o x) fun xs=>wp (a3o y) fun ys=>Q (a2d xs ys) L2):=propext Iff.rfl
@[scoped simp ↓] theorem d3n (n m:Nat) (it:AW) (tg:Tg) (t:BW) (e:EW) (L:a0a) (Q:FV→a0a→Prop):a2v n m it tg t e L Q=(it L fun xs L1=>L1.length=n∧xs.length≤big∧a3w n m tg t e xs [] L1 fun ys L2=>Q (.lst ys) L2):=propext Iff.rfl
@[scoped simp ↓] theorem d4p (L:a0a) (Q:FFl→a0a→Prop):a8z  L Q=(Q .next L):=propext Iff.rfl
@[scoped simp ↓] theorem d4n (s r:SW) (L:a0a) (Q:FFl→a0a→Prop):a1f s r L Q=(s L (aft (fun L1=>r L1 Q) Q)):=propext Iff.rfl
@[scoped simp ↓] theorem d4t (e:EW) (tg:Tg) (L:a0a) (Q:FFl→a0a→Prop):a2a e tg L Q=(e L fun x L1=>gW tg x L1 fun L2=>Q .next L2):=propext Iff.rfl
@[scoped simp ↓] theorem c4m (k:Nat) (i e:EW) (L:a0a) (Q:FFl→a0a→Prop):c8b k i e L Q=(wp (lk L k) fun _=>e L fun x L1=>i L1 fun j L2=>wp (lk L2 k) fun y=>wp (d4l y j x) fun z=>Q .next (L2.set k (some z))):=propext Iff.rfl
@[scoped simp ↓] theorem d4o (e:EW) (L:a0a) (Q:FFl→a0a→Prop):a3d e L Q=(e L fun x L1=>Q (.ret x) L1):=propext Iff.rfl
@[scoped simp ↓] theorem d4r (e:EW) (L:a0a) (Q:FFl→a0a→Prop):c2w e L Q=(e L fun _ L1=>Q .next L1):=propext Iff.rfl
@[scoped simp ↓] theorem sIf_eq (c:BW) (a b:SW) (L:a0a) (Q:FFl→a0a→Prop):sIf c a b L Q=(c L fun r L1=>if r=true then a L1 Q else b L1 Q):=propext Iff.rfl
@[scoped simp ↓] theorem d4q (it:AW) (tg:Tg) (b:SW) (L:a0a) (Q:FFl→a0a→Prop):b6a it tg b L Q=(it L fun xs L1=>c5z tg b xs L1 Q):=propext Iff.rfl
@[scoped simp ↓] theorem d4m (c:BW) (b:SW) (L:a0a) (Q:FFl→a0a→Prop):d2l c b L Q=(∃ n,c7h c b n L Q):=propext Iff.rfl
@[scoped simp ↓] theorem lk_z (x:Option FV) (L:a0a) (Q:FV→Prop):wp (lk (x :: L) 0) Q=wp x Q:=propext Iff.rfl
@[scoped simp ↓] theorem lk_s (x:Option FV) (L:a0a) (n:Nat) (Q:FV→Prop):wp (lk (x :: L) (n + 1)) Q=wp (lk L n) Q:=propext Iff.rfl
@[scoped simp ↓] theorem gw_nm (i:Nat) (v:FV) (L:a0a) (Q:a0a→Prop):gW (.nm i) v L Q=Q (L.set i (some v)):=propext Iff.rfl
@[scoped simp ↓] theorem gw_tp (is:List Nat) (v:FV) (L:a0a) (Q:a0a→Prop):gW (.tp is) v L Q=wp (a8y v) fun xs=>wp (a7t L is xs) Q:=propext Iff.rfl
@[scoped simp ↓] theorem sa_n (L:a0a) (Q:a0a→Prop):wp (a7t L [] []) Q=Q L:=propext Iff.rfl
@[scoped simp ↓] theorem sa_c (L:a0a) (i:Nat) (is:List Nat) (v:FV) (vs:List FV) (Q:a0a→Prop):wp (a7t L (i :: is) (v :: vs)) Q=wp (a7t (L.set i (some v)) is vs) Q:=propext Iff.rfl
section
variable (L:a0a) (k:a0a→Prop) (Q:FFl→a0a→Prop)
@[scoped simp ↓] theorem d9n:aft k Q .next L=k L:=propext Iff.rfl
@[scoped simp ↓] theorem af_ret (v:FV):aft k Q (.ret v) L=Q (.ret v) L:=propext Iff.rfl
@[scoped simp ↓] theorem tq_n:b1c k Q .next L=k L:=propext Iff.rfl
@[scoped simp ↓] theorem tq_r (v:FV):b1c k Q (.ret v) L=Q (.ret v) L:=propext Iff.rfl
end
@[scoped simp ↓] theorem en_rt (fr:Bool) (Q:FV×FV→Prop) (v:FV) (L:a0a):b9x true fr Q (.ret v) L=wp (lk L 0) fun x=>Q (v,x):=propext Iff.rfl
@[scoped simp ↓] theorem en_rf (fr:Bool) (Q:FV×FV→Prop) (v:FV) (L:a0a):b9x false fr Q (.ret v) L=Q (v,.non):=propext Iff.rfl
section
variable (Q:FV→Prop) (B:Bool→Prop) (i j:Int)
@[scoped simp ↓] theorem tr_b (b:Bool):wp (b3y (.bl b)) B=B b:=propext Iff.rfl
@[scoped simp ↓] theorem tr_l (xs:List FV):wp (b3y (.lst xs)) B=B (!xs.isEmpty):=propext Iff.rfl
@[scoped simp ↓] theorem in_i (Q:Int→Prop):wp (a2t (.int i)) Q=Q i:=propext Iff.rfl
@[scoped simp ↓] theorem tp_t (xs:List FV) (Q:List FV→Prop):wp (a8y (.tup xs)) Q=Q xs:=propext Iff.rfl
@[scoped simp ↓] theorem ls_l (xs:List FV) (Q:List FV→Prop):wp (a6w (.lst xs)) Q=Q xs:=propext Iff.rfl
@[scoped simp ↓] theorem sq_t (xs:List FV) (Q:List FV→Prop):wp (a3o (.tup xs)) Q=Q xs:=propext Iff.rfl
@[scoped simp ↓] theorem sq_l (xs:List FV) (Q:List FV→Prop):wp (a3o (.lst xs)) Q=Q xs:=propext Iff.rfl
@[scoped simp ↓] theorem sq_s (ns:List Int) (Q:List FV→Prop):wp (a3o (.scr ns)) Q=Q (ns.map .int):=propext Iff.rfl
@[scoped simp ↓] theorem li_l (xs:List FV) (Q:List FV→Prop):wp (a1n (.lst xs)) Q=Q xs:=propext Iff.rfl
@[scoped simp ↓] theorem b_add:wp (a3b (.int i) (.int j)) Q=Q (.int (i + j)):=propext Iff.rfl
@[scoped simp ↓] theorem b_sub:wp (b2d (.int i) (.int j)) Q=Q (.int (i - j)):=propext Iff.rfl
@[scoped simp ↓] theorem b_mul:wp (b7c (.int i) (.int j)) Q↔(small i || small j)=true∧Q (.int (i * j)):=a2q _ _ _
@[scoped simp ↓] theorem b_fdiv:wp (b8d (.int i) (.int j)) Q↔(0 < j∧j < 1073741824)∧Q (.int (i / j)):=a2q _ _ _
@[scoped simp ↓] theorem b_mod:wp (c3e (.int i) (.int j)) Q↔0 < j∧Q (.int (i % j)):=a2q _ _ _
@[scoped simp ↓] theorem b_pow:wp (c8t (.int i) (.int j)) Q↔(0≤j∧j≤1000∧small i=true)∧Q (.int (i ^ j.toNat)):=a2q _ _ _
@[scoped simp ↓] theorem b_addt (xs ys:List FV):wp (a3b (.tup xs) (.tup ys)) Q↔xs.length + ys.length≤big∧Q (.tup (xs++ys)):=a2q _ _ _
@[scoped simp ↓] theorem b_addl (xs ys:List FV):wp (a3b (.lst xs) (.lst ys)) Q↔xs.length + ys.length≤big∧Q (.lst (xs++ys)):=a2q _ _ _
@[scoped simp ↓] theorem b_rep (xs:List FV) (k:Int):wp (b7c (.lst xs) (.int k)) Q↔(-(2 ^ 63)≤k∧k < 2 ^ 63∧xs.length * k.toNat≤big)∧Q (.lst (Γj k.toNat xs).flatten):=a2q _ _ _
@[scoped simp ↓] theorem d6f {f:FV→FV→Option FV} (v w:FV):wp (a4y f v w) Q↔wp (f v w) fun z=>wp (a6w z) fun xs=>Q (.lst xs):=by unfold a4y; rw [a1p]; simp only [a1y]
@[scoped simp ↓] theorem k_eq (a b:FV):wp (eqB a b) Q↔wp (eqF a b) fun r=>Q (.bl r):=a1y _ _ _
@[scoped simp ↓] theorem k_ne (a b:FV):wp (neB a b) Q↔wp (eqF a b) fun r=>Q (.bl (!r)):=a1y _ _ _
@[scoped simp ↓] theorem k_lt:wp (ltB (.int i) (.int j)) Q=Q (.bl (decide (i < j))):=propext Iff.rfl
@[scoped simp ↓] theorem k_le:wp (leB (.int i) (.int j)) Q=Q (.bl (decide (i≤j))):=propext Iff.rfl
@[scoped simp ↓] theorem k_gt:wp (gtB (.int i) (.int j)) Q=Q (.bl (decide (j < i))):=propext Iff.rfl
@[scoped simp ↓] theorem k_ge:wp (geB (.int i) (.int j)) Q=Q (.bl (decide (j≤i))):=propext Iff.rfl
@[scoped simp ↓] theorem e_ii:wp (eqF (.int i) (.int j)) B=B (i == j):=propext Iff.rfl
@[scoped simp ↓] theorem e_ss (a b:String):wp (eqF (.str a) (.str b)) B=B (a == b):=propext Iff.rfl
@[scoped simp ↓] theorem e_bb (a b:Bool):wp (eqF (.bl a) (.bl b)) B=B (a == b):=propext Iff.rfl
@[scoped simp ↓] theorem e_nn:wp (eqF .non .non) B=B true:=propext Iff.rfl
@[scoped simp ↓] theorem e_sh (d:D):wp (eqF (.shn d) (.shn d)) B=B true:=by simp [eqF]
@[scoped simp ↓] theorem ix_eq (v:FV):wp (ixF v (.int i)) Q↔wp (a3o v) fun xs=>wp (atF xs i) Q:=by
 show wp ((a3o v).bind _) Q↔_; rw [a1p]
@[scoped simp ↓] theorem f_min:wp (b7e (.int i) (.int j)) Q=Q (.int (if j < i then j else i)):=propext Iff.rfl
@[scoped simp ↓] theorem f_not (b:Bool):wp (d5x (.bl b)) Q=Q (.bl (!b)):=propext Iff.rfl
@[scoped simp ↓] theorem f_neg:wp (c1d (.int i)) Q=Q (.int (-i)):=propext Iff.rfl
@[scoped simp ↓] theorem f_len (v:FV):wp (b0w v) Q↔wp (a3o v) fun xs=>Q (.int xs.length):=a1y _ _ _
@[scoped simp ↓] theorem f_abs:wp (d2g (.int i)) Q=Q (.int (if i < 0 then -i else i)):=propext Iff.rfl
@[scoped simp ↓] theorem f_intb (b:Bool):wp (a9g (.bl b)) Q=Q (.int (if b then 1 else 0)):=propext Iff.rfl
@[scoped simp ↓] theorem f_sum (v:FV):wp (d2k v) Q↔wp (a1n v) fun xs=>wp (c2v xs) fun n=>Q (.int n):=by
 show wp ((a1n v).bind _) Q↔_; rw [a1p]; simp only [a1y]
@[scoped simp ↓] theorem f_all (v:FV):wp (d3t v) Q↔wp (a1n v) fun xs=>wp (a4r xs) fun bs=>Q (.bl (bs.all id)):=by
 show wp ((a1n v).bind _) Q↔_; rw [a1p]; simp only [a1y]
@[scoped simp ↓] theorem f_any (v:FV):wp (d3s v) Q↔wp (a1n v) fun xs=>wp (a4r xs) fun bs=>Q (.bl (bs.any id)):=by
 show wp ((a1n v).bind _) Q↔_; rw [a1p]; simp only [a1y]
@[scoped simp ↓] theorem d0x (v:FV):wp (c1e v) Q↔wp (a1n v) fun xs=>wp (d2r xs) Q:=a1p _ _ _
@[scoped simp ↓] theorem d8j (v:FV):wp (a6r v) Q↔wp (a3o v) fun xs=>Q (.tup xs):=a1y _ _ _
@[scoped simp ↓] theorem f_list (v:FV):wp (a8i v) Q↔wp (a3o v) fun xs=>Q (.lst xs):=a1y _ _ _
@[scoped simp ↓] theorem f_isi (t:Ty) (v:FV):wp (b4r t v) Q↔wp (a4z v t) fun b=>Q (.bl b):=a1y _ _ _
@[scoped simp ↓] theorem y_non (t:Ty):wp (a4z .non t) B=B false:=propext Iff.rfl
@[scoped simp ↓] theorem y_bl (b:Bool) (t:Ty):wp (a4z (.bl b) t) B=B (t == .int || t == .bool):=propext Iff.rfl
@[scoped simp ↓] theorem y_int (t:Ty):wp (a4z (.int i) t) B=B (t == .int):=propext Iff.rfl
@[scoped simp ↓] theorem y_str (b:String) (t:Ty):wp (a4z (.str b) t) B=B (t == .str):=propext Iff.rfl
@[scoped simp ↓] theorem y_tup (b:List FV) (t:Ty):wp (a4z (.tup b) t) B=B (t == .tuple):=propext Iff.rfl
@[scoped simp ↓] theorem y_lst (b:List FV) (t:Ty):wp (a4z (.lst b) t) B=B (t == .list):=propext Iff.rfl
@[scoped simp ↓] theorem iN_n:wp (a1i .non) Q=Q (.bl true):=propext Iff.rfl
@[scoped simp ↓] theorem iN_b (b:Bool):wp (a1i (.bl b)) Q=Q (.bl false):=propext Iff.rfl
@[scoped simp ↓] theorem iN_i:wp (a1i (.int i)) Q=Q (.bl false):=propext Iff.rfl
@[scoped simp ↓] theorem nN_n:wp (a1k .non) Q=Q (.bl false):=propext Iff.rfl
@[scoped simp ↓] theorem nN_i:wp (a1k (.int i)) Q=Q (.bl true):=propext Iff.rfl
@[scoped simp ↓] theorem m_app (xs:List FV) (v:FV):wp (c7c (.lst xs) v) Q↔xs.length < big∧Q (.lst (xs++[v])):=a2q _ _ _
@[scoped simp ↓] theorem s_t (xs:List FV) (lo hi:Option Int):wp (a4d (.tup xs) lo hi) Q=Q (.tup (b0k xs lo hi)):=propext Iff.rfl
@[scoped simp ↓] theorem s_l (xs:List FV) (lo hi:Option Int):wp (a4d (.lst xs) lo hi) Q=Q (.lst (b0k xs lo hi)):=propext Iff.rfl
@[scoped simp ↓] theorem st_l (xs:List FV) (v:FV):wp (d4l (.lst xs) (.int j) v) Q↔wp (ixN xs.length j) fun p=>Q (.lst (xs.set p v)):=a1y _ _ _
end
theorem a5e {xs:List FV} {i:Int} {n:Nat} {v:FV} {Q:FV→Prop} (h:i=n) (hv:xs[n]?=some v):wp (atF xs i) Q↔Q v:=by
 subst h
 have:=(List.getElem?_eq_some_iff.mp hv).1
 simp only [atF,ixN,Int.natCast_nonneg,if_true,Int.ofNat_lt,this,Option.bind_some,Int.toNat_natCast,hv,a4s]
@[scoped simp ↓] theorem at_0 (x:FV) (r:List FV) (Q:FV→Prop):wp (atF (x :: r) 0) Q↔Q x:=a5e (n:=0) rfl rfl
@[scoped simp ↓] theorem at_1 (x y:FV) (r:List FV) (Q:FV→Prop):wp (atF (x :: y :: r) 1) Q↔Q y:=a5e (n:=1) rfl rfl
@[scoped simp ↓] theorem at_2 (x y z:FV) (r:List FV) (Q:FV→Prop):wp (atF (x :: y :: z :: r) 2) Q↔Q z:=a5e (n:=2) rfl rfl
theorem d0j {n:Nat} {i:Int} {j:Nat} {Q:Nat→Prop} (h:i=j) (hj:j < n):wp (ixN n i) Q↔Q j:=by
 subst h; simp [ixN,hj]
theorem c3x {xs:List FV} {u:Int} {Q:FV→Prop} (h0:0≤u) (h1:u < xs.length) (h:∀ x∈xs,Q x):wp (atF xs u) Q:=by
 have hu:u.toNat < xs.length:=by lia
 rw [a5e (show u=u.toNat by lia) (List.getElem?_eq_getElem hu)]
 exact h _ (List.getElem_mem hu)
theorem a4q {α:Type} (p:α→Bool):∀ xs:List α,a4r (xs.map fun x=>.bl (p x))=some (xs.map p)
 | []=>rfl
 | x :: r=>by simp only [List.map_cons,a4r,a4q p r,Option.map_some]
theorem a3g:∀ ns:List Int,a0z (ns.map .int)=some ns
 | []=>rfl
 | x :: r=>by simp only [List.map_cons,a0z,a3g r,Option.map_some]
@[scoped simp] theorem ty_10:(Ty.bool == Ty.int)=false:=by decide
@[scoped simp] theorem ty_20:(Ty.str == Ty.int)=false:=by decide
@[scoped simp] theorem ty_21:(Ty.str == Ty.bool)=false:=by decide
@[scoped simp] theorem ty_30:(Ty.list == Ty.int)=false:=by decide
@[scoped simp] theorem ty_31:(Ty.list == Ty.bool)=false:=by decide
@[scoped simp] theorem ty_32:(Ty.list == Ty.str)=false:=by decide
@[scoped simp] theorem ty_34:(Ty.list == Ty.tuple)=false:=by decide
@[scoped simp] theorem ty_40:(Ty.tuple == Ty.int)=false:=by decide
@[scoped simp] theorem ty_41:(Ty.tuple == Ty.bool)=false:=by decide
@[scoped simp] theorem ty_42:(Ty.tuple == Ty.str)=false:=by decide
@[scoped simp] theorem ty_43:(Ty.tuple == Ty.list)=false:=by decide
theorem a0w {tb:List FD} {d f:Nat} {args:List FV} {fd:FD} {Q:FV×FV→Prop} (h:tb[f]?=some fd) (hl:args.length=fd.np)
  (H:fd.body (callW tb d) (args.map some++Γj (fd.ns - fd.np) none) (b9x fd.io fd.fr Q)):callW tb (d + 1) f args Q:=by
 show (match tb[f]? with
  | none=>False
  | some fd=>args.length=fd.np∧fd.body (callW tb d) (args.map some++Γj (fd.ns - fd.np) none) (b9x fd.io fd.fr Q))
 rw [h]; exact ⟨hl,H⟩
theorem c2g {tb:List FD} {d f:Nat} {args:List FV} {fd:FD} {Q:FV×FV→Prop} (h:tb[f]?=some fd) (hl:args.length=fd.np) :
  callW tb (d + 1) f args Q↔fd.body (callW tb d) (args.map some++Γj (fd.ns - fd.np) none) (b9x fd.io fd.fr Q):=by
 show (match tb[f]? with
  | none=>False
  | some fd=>args.length=fd.np∧fd.body (callW tb d) (args.map some++Γj (fd.ns - fd.np) none) (b9x fd.io fd.fr Q))↔_
 rw [h]; exact ⟨fun z=>z.2,fun z=>⟨hl,z⟩⟩
theorem a5i {α:Type} {tg:Tg} {b:SW} {f:α→FV} {I:List α→a0a→Prop} {Q:FFl→a0a→Prop} (all:List α) :
  ∀ (rest done:List α) (L:a0a),all=done++rest→I done L →
  (∀ d x r L (K:a0a→Prop),all=d++x :: r→I d L→(∀ L',I (d++[x]) L'→K L')→gW tg (f x) L fun L1=>b L1 (b1c K Q)) →
  (∀ L,I all L→Q .next L)→c5z tg b (rest.map f) L Q
 | [],done,L,e,h,_,E=>by
  rw [List.append_nil] at e
  exact E L (e ▸ h)
 | x :: rest,done,L,e,h,B,E=>B done x rest L _ e h fun L' h'=>a5i all rest (done++[x]) L' (by simp [e]) h' B E
theorem a2o {tg:Tg} {b:SW} {I:Nat→a0a→Prop} {Q:FFl→a0a→Prop}:∀ (n i:Nat) (L:a0a),I i L →
  (∀ j L (K:a0a→Prop),i≤j→j < i + n→I j L→(∀ L',I (j + 1) L'→K L')→gW tg (.int (j:Int)) L fun L1=>b L1 (b1c K Q)) →
  (∀ L,I (i + n) L→Q .next L)→c5z tg b (upF (i:Int) n) L Q
 | 0,i,L,h,_,E=>E L h
 | n + 1,i,L,h,B,E=>B i L _ (Γi _) (by lia) h fun L' h'=>by
  have:=a2o n (i + 1) L' h' (fun j L K hj hj'=>B j L K (by lia) (by lia)) (fun L h=>E L (by rw [show i + (n + 1)=i + 1 + n by lia]; exact h))
  simpa using this
theorem while_by {c:BW} {b:SW} {I:Nat→a0a→Prop} {Q:FFl→a0a→Prop} (B:∀ m L (K:a0a→Prop),I m L→(∀ m' L',m' < m→I m' L'→K L')→c L fun t L1=>if t=true then b L1 (b1c K Q) else Q .next L1) {m:Nat} {L:a0a} (h:I m L):d2l c b L Q:=by
 have go:∀ n m L,m < n→I m L→c7h c b n L Q:=by
  intro n
  induction n with
  | zero=>intro m L hm; lia
  | succ n ih=>intro m L hm h; exact B m L _ h fun m' L' h1 h2=>ih m' L' (by lia) h2
 exact ⟨m + 1,go _ m L (Nat.lt_succ_self _) h⟩
theorem a6c {α:Type} {tg:Tg} {n m:Nat} {t:BW} {e:EW} {f:α→FV} {I:List α→List FV→a0a→Prop} {Q:List FV→a0a→Prop} (all:List α) :
  ∀ (rest done:List α) (acc:List FV) (L:a0a),all=done++rest→I done acc L →
  (∀ d x r acc L (K:List FV→a0a→Prop),all=d++x :: r→I d acc L→(∀ acc' L',I (d++[x]) acc' L'→K acc' L')→gW tg (f x) (L++Γj m none) fun L1=>t L1 fun b L2=>if b=true then e L2 fun v L3=>K (acc++[v]) (L3.take n) else K acc (L2.take n)) →
  (∀ ys L,I all ys L→Q ys L)→a3w n m tg t e (rest.map f) acc L Q
 | [],done,acc,L,e,h,_,E=>by
  rw [List.append_nil] at e
  exact E acc L (e ▸ h)
 | x :: rest,done,acc,L,e,h,B,E=>B done x rest acc L (fun acc' L'=>a3w _ _ _ _ _ (rest.map f) acc' L' Q) e h fun acc' L' h'=>a6c all rest (done++[x]) acc' L' (by simp [e]) h' B E
theorem a1s {α:Type} {tg:Tg} {n m:Nat} {e:EW} {f:α→FV} {g:α→FV} {Q:List FV→a0a→Prop} {L:a0a}:∀ (xs:List α) (acc:List FV),
  (∀ x∈xs,∀ K:FV→a0a→Prop,K (g x) L→gW tg (f x) (L++Γj m none) fun L1=>e L1 fun v L3=>K v (L3.take n))→Q (acc++xs.map g) L→a3w n m tg a3y e (xs.map f) acc L Q
 | [],acc,_,E=>by
  show Q acc L
  simpa using E
 | x :: xs,acc,B,E=>B x Γn (fun v L'=>a3w n m tg a3y e (xs.map f) (acc++[v]) L' Q) (a1s xs (acc++[g x]) (fun y hy=>B y (Γh _ hy)) (by simpa using E))
theorem a1j {α:Type} {tg:Tg} {n m:Nat} {t:BW} {e:EW} {f:α→FV} {g:α→FV} {p:α→Bool} {Q:List FV→a0a→Prop} {L:a0a}:∀ (xs:List α) (acc:List FV),
  (∀ x∈xs,∀ (K:FV→a0a→Prop) (N:a0a→Prop),(p x=true→K (g x) L)→(p x=false→N L)→gW tg (f x) (L++Γj m none) fun L1=>t L1 fun b L2=>if b=true then e L2 fun v L3=>K v (L3.take n) else N (L2.take n))→Q (acc++(xs.filter p).map g) L→a3w n m tg t e (xs.map f) acc L Q
 | [],acc,_,E=>by
  show Q acc L
  simpa using E
 | x :: xs,acc,B,E=>B x Γn (fun v L'=>a3w n m tg t e (xs.map f) (acc++[v]) L' Q) (fun L'=>a3w n m tg t e (xs.map f) acc L' Q)
   (fun hp=>a1j xs (acc++[g x]) (fun y hy=>B y (Γh _ hy)) (by rw [List.filter_cons_of_pos hp] at E; simpa using E))
   (fun hp=>a1j xs acc (fun y hy=>B y (Γh _ hy)) (by rw [List.filter_cons_of_neg (by simp [hp])] at E; exact E))
theorem b5o:∀ n lo:Nat,upF (lo:Int) n=(List.range' lo n).map fun i:Nat=>FV.int i
 | 0,lo=>rfl
 | n + 1,lo=>by simp only [upF,List.range'_succ,List.map_cons]; rw [← b5o n (lo + 1)]; simp
theorem a7k (n:Nat):upF 0 n=(List.range n).map fun i:Nat=>FV.int i:=by
 have:=b5o n 0
 rw [List.range_eq_range']; exact_mod_cast this
theorem ite2 {c A B:Prop} [Decidable c] (h1:c→A) (h2:¬ c→B):if c then A else B:=by
 by_cases h:c
 ·rw [if_pos h]; exact h1 h
 ·rw [if_neg h]; exact h2 h
end Kq
end
set_option maxHeartbeats 4000000
section
namespace Kq
open PySem PySem.Spec PyProof.Rows L2
section
variable {X:Cx} {C:CC} {n:Nat} {sp:Γd→Nat→Sp} {a:Expr} {ea:EW} {p p2 p3 p4 pos:Pos}
theorem d2b:a1b X (.builtin "isinstance") (fun xs H Q=>∃ v d c c' b b' T,xs=[v,.ref d]∧H d=some (.tup [.ty c,.ty c'])∧TyOf X.K H v (.type T)∧PySem.W.kitOne X.K (.type T) (.type c)=some b∧PySem.W.kitOne X.K (.type T) (.type c')=some b'∧Q (.bl (b || b')) H):=by
 intro pins s σ H xs us Q I r hh
 obtain ⟨v,d,c,c',b,b',T,rfl,hd,h1,h2,h3,q⟩:=hh
 obtain ⟨u,u',rfl,ru,ru'⟩:=b3v r
 obtain rfl:u'=.ref d:=ru'
 obtain ⟨_,its,rv,o,ho,hcl,nn,hdt⟩:=(show ObjOk X.prog X.w H s.heap d (.tup [.ty c,.ty c']) from I.hok d _ hd)
 obtain ⟨w1,w2,rfl,rw1,rw2⟩:=b3v rv
 obtain rfl:w1=.type c:=rw1
 obtain rfl:w2=.type c':=rw2
 have fin:∀ tk,EP X pins σ Q (.bool (b || b')) { s with toks:=tk }:=fun tk=>⟨.bl (b || b'),H,I.tok _,rfl,q⟩
 have hany:PySem.W.kitAny X.K (.type T) [.type c,.type c']=some (b || b'):=by
  show (match PySem.W.kitOne X.K (.type T) (.type c) with | some true=>some true | some false=>PySem.W.kitAny X.K (.type T) [.type c'] | none=>none)=_
  rw [h2]
  cases b with
  | true=>rfl
  | false =>
   show (match PySem.W.kitOne X.K (.type T) (.type c') with | some true=>some true | some false=>PySem.W.kitAny X.K (.type T) [] | none=>none)=_
   rw [h3]; cases b' <;> rfl
 obtain ⟨oc,od,odt,osl⟩:=o
 simp only at hcl hdt
 subst hcl hdt
 cases h1 with
 | non=>cases (show u=Value.none from ru); exact PySem.W.kia_tup PySem.W.kitx_none I.kIn True.intro ho hany (fun z=>nomatch z) fin
 | bl y=>cases (show u=Value.bool y from ru); exact PySem.W.kia_tup PySem.W.kitx_bool I.kIn True.intro ho hany (fun z=>nomatch z) fin
 | int i=>obtain ⟨t,rfl⟩:=(show ∃ t,u=Value.int i t from ru); exact PySem.W.kia_tup PySem.W.kitx_int I.kIn True.intro ho hany (fun z=>nomatch z) fin
 | str y=>obtain ⟨t,rfl⟩:=(show ∃ t,u=Value.str y t from ru); exact PySem.W.kia_tup PySem.W.kitx_str I.kIn True.intro ho hany (fun z=>nomatch z) fin
 | flt y=>obtain ⟨t,rfl⟩:=(show ∃ t,u=Value.float y t from ru); exact PySem.W.kia_tup PySem.W.kitx_float I.kIn True.intro ho hany (fun z=>nomatch z) fin
 | @lst a xs ea =>
  cases (show u=Value.ref a from ru)
  obtain ⟨_,_,n,_,h1⟩:=(show ObjOk X.prog X.w H s.heap a (.lst xs) from I.hok a _ ea)
  exact PySem.W.kia_tup PySem.W.kitx_list I.kIn ⟨_,h1,rfl⟩ ho hany (fun z=>nomatch z) fin
 | @frz a ob xs ea =>
  cases (show u=Value.ref a from ru)
  obtain ⟨_,_,_,n,_,h1⟩:=(show ObjOk X.prog X.w H s.heap a (.frz ob (.lst xs)) from I.hok a _ ea)
  exact PySem.W.kia_tup PySem.W.kitx_list I.kIn ⟨_,h1,rfl⟩ ho hany (fun z=>nomatch z) fin
 | @tup a xs ea =>
  cases (show u=Value.ref a from ru)
  obtain ⟨_,_,_,o,h1,h2,_⟩:=(show ObjOk X.prog X.w H s.heap a (.tup xs) from I.hok a _ ea)
  exact PySem.W.kia_tup PySem.W.kitx_tuple I.kIn ⟨o,h1,h2⟩ ho hany (fun z=>nomatch z) fin
 | @dK a kvs ea =>
  cases (show u=Value.ref a from ru)
  obtain ⟨_,_,vs,_,o,es,ep,h1,h2,_⟩:=(show ObjOk X.prog X.w H s.heap a (.dK kvs) from I.hok a _ ea)
  exact PySem.W.kia_tup PySem.W.kitx_dict I.kIn ⟨o,h1,h2.1⟩ ho hany (fun z=>nomatch z) fin
 | @dT a kvs ea =>
  cases (show u=Value.ref a from ru)
  obtain ⟨_,_,xs,_,o,es,ep,h1,h2,_⟩:=(show ObjOk X.prog X.w H s.heap a (.dT kvs) from I.hok a _ ea)
  exact PySem.W.kia_tup PySem.W.kitx_dict I.kIn ⟨o,h1,h2.1⟩ ho hany (fun z=>nomatch z) fin
theorem d7r {t t':Ty} {tn tn':Str} {m:Nat} (G:Good X C n sp) (hg:C.gl (Γe "isinstance")=true) (ht:tn=Γe (a2i t)) (ht':tn'=Γe (a2i t')) (hg2:(C.gl tn && C.gl tn')=true) (hs:a0g a=false) (ha:FR X C a ea) :
  FE X C (.Call (.Name (Γe "isinstance") p) [a,.Tuple [.Name tn p2,.Name tn' p3] m p4] [] pos) (eUn (c1k t t') ea):=by
 subst ht ht'
 have hg2:=b2 hg2
 have tt:∀ (t:Ty) (p2:Pos),C.gl (Γe (a2i t))=true→PE X.nox (.Name (Γe (a2i t)) p2) (tC (.ty (a2i t))):=fun t p2 hg=>by
  cases t <;> exact b6v (G.gl hg) (G.blt _ (by decide)) (by nofun) rfl (by nofun) (by nofun)
 have tup:=c3a (x1:=m) (pos:=p4) (a0h (tt t p2 hg2.1) (a0h (tt t' p3 hg2.2) a1u rfl) rfl)
 refine PE.imp (a4f d2b (G.gl hg) (G.blt "isinstance" (by decide)) (by nofun) (a0h ha (a0h tup a1u rfl) (a0d hs)) (by nofun) (by nofun) (a0d hs) rfl) fun σ H Q ⟨c,L,S,Q0,I,h,k⟩ =>
  ⟨c,L,S,_,I,h,fun v L1 hv x S1 H1 r1 I1 s1=>?_⟩
 refine ⟨by show 2≤sizeLine; decide,fun d hd=>?_⟩
 obtain ⟨z,e,q⟩:=wpx hv
 obtain ⟨r,e1,e2⟩:=bnd e
 obtain ⟨r',e3,rfl⟩:=mpd e2
 have I2:=I1.lay hd (.tup [.ty (a2i t),.ty (a2i t')])
 have rr:RH X.K S1 (upd H1 d (.tup [.ty (a2i t),.ty (a2i t')])) v x:=by
  rcases r1 with r1 | ⟨b,rfl,o1,ps,us,e4,o2,o3⟩
  ·exact .inl r1
  ·exact .inr ⟨b,rfl,o1,ps,us,e4,by rw [a0f (a0o o2 hd)]; exact o2,o3⟩
 obtain ⟨T,t1,t2⟩:=a7l I2.sub rr e1
 obtain ⟨T',t3,t4⟩:=a7l I2.sub rr e3
 have hT:T=T':=by cases t1 <;> cases t3 <;> first | rfl | (simp_all)
 subst hT
 exact ⟨x,d,_,_,_,_,T,rfl,a0e,t1,t2,t4,k _ L1 q _ S1 _ rfl I2 s1⟩
end
@[scoped simp ↓] theorem f_isi2 (t u:Ty) (v:FV) (Q:FV→Prop):wp (c1k t u v) Q↔wp (a4z v t) fun a=>wp (a4z v u) fun b=>Q (.bl (a || b)):=by
 unfold c1k; rw [a1p]; simp only [a1y]
section
variable {X:Cx} {C:CC} {n:Nat} {sp:Γd→Nat→Sp} {fr:Bool} {a b:Expr} {ea eb:EW} {pos px py pt p2:Pos} {i j kt k2:Nat} {nx ny:Str}
end
noncomputable def Itd (lo:Int) (n:Nat):It:=⟨fun i _=>i < n,fun i H x H'=>H'=H∧x=.int (lo - i),fun i _=>n≤i⟩
theorem a9e {P:Program} {w:World} {K:Γd} {tg:Expr} (it:Addr) (lo:Int) (n:Nat):Turn P w K tg (Itd lo n) [it] it (fun i h=>IsRangeIter h it (lo + (i:Nat) * (-1)) ((n:Int) - (i:Nat)) (-1)) where
 mem:=by simp
 obj:=fun i h st b hb=>by
  have e:b=it:=by simpa using hb
  subst e
  exact ⟨_,st,fun v z=>by
   have z':Data.fields _=Data.cell v:=z
   cases z'⟩
 keep:=fun i h h' st k=>k it (by simp) _ st
 item:=by
  intro X hP hw hK hc i pins s σ H E I hf st hg
  subst hP hw hK
  obtain ⟨f0,f1,f2,f3,f4,f5⟩:=hf it (by simp)
  have W:=Walks.range (prog:=X.prog) (w:=X.w) (I.ok.hd hc) it lo (-1) n
  refine W.item i s _ _ hg st fun v h' tk hv st' kk=>?_
  obtain ⟨t,rfl⟩:=hv
  have I1:Inv X pins σ H { s with heap:=h',toks:=tk }:=I.turned (fun b o hb e=>kk b o (by simpa using hb) e) f0 f1 f3 f4 f5
  refine ⟨_,rfl,b7z (s:={ s with heap:=h',toks:=tk }) (n:="range_iterator") st' rfl rfl (by decide) ⟨.int (lo - i),H,I1,⟨t,?_⟩,⟨rfl,rfl⟩,st',fun b hb=>(hf b hb).1⟩⟩
  rw [Int.mul_neg,Int.mul_one,Int.sub_eq_add_neg]
 done:=by
  intro X hP hw hK hc i pins s σ H E I hf st hg
  subst hP hw hK
  obtain ⟨f0,f1,f2,f3,f4,f5⟩:=hf it (by simp)
  exact wpAny_pyNext_range_end (I.ok.hd hc) st (by have:n≤i:=hg; lia) fun h' eb=>⟨rfl,I.turned (t':=s.toks) (fun b o hb e=>eb b o hb e) f0 f1 f3 f4 f5⟩
 self:=fun _ _ _ _ _ st h=>wpAny_pyIter_rangeiter st h
theorem a3p (a b:Int):Builtin.Range.rangeSize a b (-1)=if b < a then a - b else 0:=by
 unfold Builtin.Range.rangeSize
 simp only [show ¬ (-1:Int) > 0 by decide,if_false,show (-(-1):Int)=1 by decide,Int.ediv_one,gt_iff_lt]
 split <;> lia
theorem b4c {a b:Int} (ha:-(2 ^ 62)≤a) (ha':a < 2 ^ 62) (hb:-(2 ^ 62)≤b) (hb':b < 2 ^ 62):Builtin.Range.small a b (-1)=true:=by
 unfold Builtin.Range.small
 rw [a3p]
 simp only [Builtin.Range.rangeFitsLong,Bool.and_eq_true,Bool.or_eq_true,decide_eq_true_eq,beq_iff_eq,show ¬ (-1:Int) > 0 by decide,if_false]
 split <;> lia
section
variable {X:Cx} {tg:Expr}
theorem c6o {pins:List (Addr×Obj)} {σ:L2.St} {H:Hp} {s:Shared} {R:It→Hp→Prop} {E:Value→Shared→Prop} {lo hi:Int} {t u v:Tok} {tk:Nat} (I:Inv X pins σ H s) (h1:-(2 ^ 62)≤lo) (h2:lo < 2 ^ 62) (h3:-(2 ^ 62)≤hi) (h4:hi < 2 ^ 62)
  (q:R (Itd lo (lo - hi).toNat) H):wpAny (model X.prog X.w) X.A (pyIter (.ref s.heap.objs.size)) (PIE X pins σ tg R) E { s with heap:=s.heap.push { cls:=.type "range",data:=.fields #[.int lo t,.int hi u,.int (-1) v] },toks:=tk }:=by
 refine wpAny_pyIter_range (IsRange.new ..) (b4c h1 h2 h3 h4) ?_
 have I1:Inv X pins σ H { s with heap:=s.heap.push { cls:=.type "range",data:=.fields #[.int lo t,.int hi u,.int (-1) v] },toks:=tk }:=I.kept fun b o e=>Γc _ e
 refine ⟨(s.heap.push { cls:=.type "range",data:=.fields #[.int lo t,.int hi u,.int (-1) v] }).objs.size,[(s.heap.push { cls:=.type "range",data:=.fields #[.int lo t,.int hi u,.int (-1) v] }).objs.size],_,_,H,rfl,
  I1.kept (t':=tk) fun b o e=>Γc _ e,a9e _ lo (lo - hi).toNat,?_,fun b hb=>?_,q⟩
 ·have e1:lo + ((0:Nat):Int) * (-1)=lo:=by simp
  have e2:(((lo - hi).toNat:Nat):Int) - ((0:Nat):Int)=Builtin.Range.rangeSize lo hi (-1):=by rw [a3p]; split <;> lia
  show IsRangeIter _ _ (lo + ((0:Nat):Int) * (-1)) ((((lo - hi).toNat:Nat):Int) - ((0:Nat):Int)) (-1)
  rw [e1,e2]
  exact Γm _ rfl
 ·have e:b=(s.heap.push { cls:=.type "range",data:=.fields #[.int lo t,.int hi u,.int (-1) v] }).objs.size:=by simpa using hb
  subst e
  exact I1.fpOk (Γi _) (I1.hok.fresh (Γi _))
theorem b6o {a b d:Expr} {ta:TA} {p pos:Pos} (hg:Gl X "range") (hm:X.mg "range" = none) (ha:PA X [a,b,d] ta) (hs:starEach [a,b,d] X.env=(false,eval a X.env) :: starEach [b,d] X.env) (hs2:(backTo pos (starEach [b,d] X.env)).any (·.1)=false) :
  PI X tg (.Call (.Name "range" p) [a,b,d] [] pos) (fun σ H R=>ta σ H fun vs H1=>∃ i j:Int,vs=[.int i,.int j,.int (-1)]∧(-(2 ^ 62)≤i∧i < 2 ^ 62∧-(2 ^ 62)≤j∧j < 2 ^ 62)∧R (Itd i (i - j).toNat) H1):=by
 intro pins s σ H R I h
 refine Call_ (a2y I hg hm boot_range (PyProof.Rows.callWith_type1 (thn (ha pos pins s σ H _ I h) fun us s1 ⟨vs,H1,I1,r1,q1⟩=>?_) hs hs2))
 obtain ⟨i,j,e,⟨q1,q2,q3,q4⟩,q⟩:=q1
 subst e
 cases r1 with
 | cons r rr =>
  cases rr with
  | cons r' rr =>
   cases rr with
   | cons r'' rr =>
    cases rr
    obtain ⟨t,rfl⟩:=r
    obtain ⟨t',rfl⟩:=r'
    obtain ⟨t'',rfl⟩:=r''
    exact call_range_3 (by decide) (c6o I1 q1 q2 q3 q4 q) (.inl (PyProof.noPylong_small (by lia)))
end
noncomputable def a5b (hi:Int):Nat→List FV
 | 0=>[]
 | n + 1=>.int hi :: a5b (hi - 1) n
noncomputable def c5v (a b:EW):AW:=fun L Q=>a L fun x L1=>b L1 fun y L2=>wp (a2t x) fun i=>wp (a2t y) fun j=>(a0q i && a0q j)=true∧Q (a5b i (i - j).toNat) L2
@[scoped simp ↓] theorem d2v (a b:EW) (L:a0a) (Q:List FV→a0a→Prop):c5v a b L Q=(a L fun x L1=>b L1 fun y L2=>wp (a2t x) fun i=>wp (a2t y) fun j=>(a0q i && a0q j)=true∧Q (a5b i (i - j).toNat) L2):=propext Iff.rfl
theorem b0j:∀ (n:Nat) (lo:Int) (i:Nat),(a5b lo n)[i]?=if i < n then some (.int (lo - i)) else none
 | 0,lo,i=>by simp [a5b]
 | n + 1,lo,0=>by simp [a5b]
 | n + 1,lo,i + 1=>by
  show (a5b (lo - 1) n)[i]?=_
  rw [b0j n (lo - 1) i]
  have e:lo - 1 - (i:Int)=lo - ((i + 1:Nat):Int):=by lia
  simp [e]
section
variable {X:Cx} {C:CC} {n:Nat} {sp:Γd→Nat→Sp} {a b tg:Expr} {ea eb:EW} {p p3 p4 pos:Pos} {kk:Nat}
variable {K:Γd} {c:Cn} {md:Md}
theorem b7r {lo:Int} {m:Nat} {S1:Hp}:ItR K c md (Itd lo m) (a5b lo m) S1:=by
 intro i L σ S H I s
 rw [b0j]
 by_cases h:i < m
 ·rw [if_pos h]
  refine ⟨fun e=>(nomatch e),fun p e=>?_⟩
  cases e
  exact ⟨h,fun v H' ⟨e1,e2⟩=>⟨S,Same.refl S,by rw [e1]; exact fun _ _ _ _ I=>I,e2⟩⟩
 ·rw [if_neg h]
  exact ⟨fun _=>show m≤i by lia,fun p e=>(nomatch e)⟩
theorem d7e (G:Good X C n sp) (hg:C.gl (Γe "range")=true) (hs:a0g a=false) (hs2:a0g b=false) (ha:FE X C a ea) (hb:FE X C b eb):FI X C C.md tg (.Call (.Name (Γe "range") p) [a,b,.UnaryOp .USub (.Constant (.int 1) kk p3) p4] [] pos) (c5v ea eb) :=
 PI.imp (b6o (G.gl hg) (G.blt "range" (by decide)) (a0h ha (a0h hb (a0h (d0v (X:=X) (C:=C) (ea:=eC (.int 1)) d0w) a1u rfl) (a0d hs2)) (a0d hs)) (a0d hs) (by rw [a0d hs2]; rfl)) fun σ H R ⟨c,L,S,Q0,I,h,k⟩ =>
 ⟨c,L,S,_,I,h,fun v L1 hv x S1 H1 r1 I1 s1=>⟨c,L1,S1,_,I1,hv,fun w L2 hw y S2 H2 r2 I2 s2=>by
  obtain ⟨j,e,hw⟩:=wpx hw
  obtain ⟨j',e',hb,q⟩:=wpx hw
  cases a0u e; cases a0u e'
  have hb:=b2 hb
  have h1:=de hb.1
  have h2:=de hb.2
  refine ⟨c,L2,S2,fun z L3=>z=.int (-1)∧L3=L2,I2,⟨rfl,rfl⟩,?_⟩
  rintro z L3 ⟨rfl,rfl⟩ u S3 H3 r3 I3 s3
  exact ⟨j,j',by rw [show x=.int j from r1,show y=.int j' from r2,show u=.int (-1) from r3],⟨h1.1,h1.2,h2.1,h2.2⟩,k _ L3 q _ c S3 H3 I3 (fun _ _ _ _ I=>I) rfl b7r (s1.trans (s2.trans s3))⟩⟩⟩
end
end Kq
end
section
namespace PySem
open PySem.Spec
theorem F.sub_rit_reversed:isSubtype (.type "range_iterator") (.type "reversed")=pure false:=by rw [isSubtype_type]; kernel_rfl
theorem b6c (r:Addr) (a b c:Int) (t u v:Tok) (hc0:¬(!(Builtin.Range.rangeFitsLong a && Builtin.Range.rangeFitsLong b && Builtin.Range.rangeFitsLong c && Builtin.Range.rangeFitsLong (-c) && Builtin.Range.rangeFitsLong (a - c) && Builtin.Range.rangeFitsLong (Builtin.Range.rangeSize a b c)))=true) :
  Meets (Builtin.«range.__reversed__» ⟨[.ref r],[]⟩) (fun _ R s=>s.heap.get? r=some { cls:=.type "range",dict:=none,data:=.fields #[.int a t,.int b u,.int c v],slots:=#[] }∧R (.ok (.ret (Value.ref s.heap.objs.size))) { s with heap:=s.heap.push { cls:=Value.type (if (Builtin.Range.rangeFitsLong a && Builtin.Range.rangeFitsLong b && Builtin.Range.rangeFitsLong c && Builtin.Range.rangeFitsLong (-c) && Builtin.Range.rangeFitsLong (a - c) && Builtin.Range.rangeFitsLong (Builtin.Range.rangeSize a b c))=true then "range_iterator" else "longrange_iterator"),data:=Data.fields #[rawInt (a + (Builtin.Range.rangeSize a b c - 1) * c),rawInt (Builtin.Range.rangeSize a b c),rawInt (-c)] },toks:=s.toks }) :=
 .of_wp fun prog w A R s h=>by obtain ⟨hp,g,d,tk,os⟩:=s; obtain ⟨hl,h⟩:=h; wp_walk; exact ⟨_,rfl,h⟩
section
variable {prog:Program} {w:World} {A:Around} {E:Value→Shared→Prop} {s:Shared}
noncomputable def a5l (a n:Int):Obj:={ cls:=.type "range_iterator",data:=.fields #[rawInt a,rawInt n,rawInt (-1)] }
theorem a6q {r:Addr} {b:Int} {t u v:Tok} {Q:Value→Shared→Prop} (hr:IsRange s.heap r 0 b 1 t u v) (h1:-(2 ^ 62)≤b) (h2:b < 2 ^ 62)
  (h:Q (.ref s.heap.objs.size) { s with heap:=s.heap.push (a5l ((b.toNat:Int) - 1) b.toNat) }):wpAny (model prog w) A (call (.builtin "range.__reversed__") [.ref r]) Q E s:=by
 have hT:s.TypeIs (.ref r) "range":=⟨_,hr,rfl⟩
 have hn:Builtin.Range.rangeSize 0 b 1=(b.toNat:Int):=by rw [rangeSize_one]; split <;> lia
 have hs:(Builtin.Range.rangeFitsLong 0 && Builtin.Range.rangeFitsLong b && Builtin.Range.rangeFitsLong 1 && Builtin.Range.rangeFitsLong (-1) && Builtin.Range.rangeFitsLong (0 - 1) && Builtin.Range.rangeFitsLong (Builtin.Range.rangeSize 0 b 1))=true:=by
  rw [hn]
  simp only [Builtin.Range.rangeFitsLong,Bool.and_eq_true,decide_eq_true_eq]
  lia
 refine call_meets F.slot_range_reversed hT F.entry_range_reversed (F.args_range_reversed_1 _) (b6c r 0 b 1 t u v (by rw [hs]; decide)) ⟨hr,?_⟩
 rw [hs,if_pos rfl,hn]
 have e:(0:Int) + ((b.toNat:Int) - 1) * 1=(b.toNat:Int) - 1:=by lia
 rw [e]
 exact h
theorem a6o {r:Addr} {b:Int} {t u v:Tok} {Q₁:Value→Shared→Prop} (hr:IsRange s.heap r 0 b 1 t u v) (h1:-(2 ^ 62)≤b) (h2:b < 2 ^ 62)
  (h:Q₁ (.ref s.heap.objs.size) { s with heap:=s.heap.push (a5l ((b.toNat:Int) - 1) b.toNat) }) :
  codeAny (model prog w) A (.call (.builtin "reversed.__new__") ⟨[.type "reversed",.ref r],[]⟩) (wants Q₁ E) s:=by
 have hT:s.TypeIs (.ref r) "range":=⟨_,hr,rfl⟩
 refine codeAny_of_tree ?_
 show wpAny _ A.in1 (do checkBuiltinCall "reversed.__new__" ⟨[.type "reversed",.ref r],[]⟩; again (.builtin "reversed.__new__" ⟨[.type "reversed",.ref r],[]⟩)) _ _ s
 refine Γa (wpAny_of_eq (F.newCall_reversed_1 _) (Γb ⟨plainId_quiet F.plain_reversed_new _,codeAny_builtin F.entry_reversed_new ?_⟩))
 rw [Around.under_plainId F.plain_reversed_new _]
 unfold Builtin.«reversed.__new__»
 refine Γa (wpAny_of_eq (newClass_reversed _) ?_)
 try dsimp only
 refine Γa (wpAny_of_eq (a:=()) (by first | rfl | kernel_rfl) ?_)
 refine Γa (wpAny_of_eq (a:=()) (by first | rfl | kernel_rfl) ?_)
 try dsimp only
 refine Γa (wpAny_specialOf hT F.slot_range_reversed.lookup ?_)
 try dsimp only
 refine Γa (wpAny_of_eq (F.slot_range_reversed.bind _) ?_)
 try dsimp only
 first
 | rw [if_neg (show ¬ ((Value.builtin "range.__reversed__" == Value.none)=true) from Γk)]
 | (show wpAny _ _ (if (Value.builtin "range.__reversed__" == Value.none)=true then _ else _) _ _ _; rw [if_neg (show ¬ ((Value.builtin "range.__reversed__" == Value.none)=true) from Γk)])
 refine Γa (wpAny_rule ?_)
 refine Γa (m:=runValue (.call (.builtin "range.__reversed__") ⟨[.ref r],[]⟩)) (show wpAny _ _ (call (.builtin "range.__reversed__") [.ref r]) _ _ _ from a6q hr h1 h2 ?_)
 first
 | exact Γb h
 | exact Γa (Γb (Γb h))
theorem a6p {r:Addr} {b:Int} {t u v:Tok} {Q:Value→Shared→Prop} (hr:IsRange s.heap r 0 b 1 t u v) (h1:-(2 ^ 62)≤b) (h2:b < 2 ^ 62)
  (h:Q (.ref s.heap.objs.size) { s with heap:=s.heap.push (a5l ((b.toNat:Int) - 1) b.toNat) }):wpAny (model prog w) A (call (.type "reversed") [.ref r]) Q E s:=by
 refine callType_other (U:="range_iterator") (Q₁:=fun obj s₁=>obj=.ref s.heap.objs.size∧s₁ = { s with heap:=s.heap.push (a5l ((b.toNat:Int) - 1) b.toNat) }) (by nofun) F.create_reversed ⟨_,_,F.mro_reversed⟩ F.made_reversed F.sub_rit_reversed (F.typeCall_reversed_1 _) (a6o hr h1 h2 ⟨rfl,rfl⟩) ?_
 rintro obj s₁ ⟨rfl,rfl⟩
 exact ⟨⟨_,Γm _ rfl,rfl⟩,h⟩
end
end PySem
end
section
namespace Kq
open PySem PySem.Spec PyProof.Rows L2
section
variable {X:Cx} {tg:Expr}
theorem c4z {a:Expr} {ta:TA} {p p2 pos pos2:Pos} (hg:Gl X "range") (hm:X.mg "range" = none) (hg2:Gl X "reversed") (hm2:X.mg "reversed" = none) (ha:PA X [a] ta) (hs:starEach [a] X.env=[(false,eval a X.env)]) :
  PI X tg (.Call (.Name "reversed" p) [.Call (.Name "range" p2) [a] [] pos2] [] pos) (fun σ H R=>ta σ H fun vs H1=>∃ j:Int,vs=[.int j]∧-(2 ^ 62)≤j∧j < 2 ^ 62∧R (Itd ((j.toNat:Int) - 1) j.toNat) H1):=by
 intro pins s σ H R I h
 refine Call_ (a2y I hg2 hm2 (by nofun) (PyProof.Rows.callWith_type1 (T:="reversed") ?_ rfl rfl))
 show wpAny _ _ (spliced ((false,eval (.Call (.Name "range" p2) [a] [] pos2) X.env) :: backTo pos [])) _ _ s
 refine Calls.spliced_cons (Call_ (a2y I hg hm boot_range (PyProof.Rows.callWith_type1 (thn (ha pos2 pins s σ H _ I h) fun us s1 ⟨vs,H1,I1,r1,q1⟩=>?_) hs rfl)))
 obtain ⟨j,e,q1,q2,q⟩:=q1
 subst e
 cases r1 with
 | cons r rr =>
  cases rr
  obtain ⟨t,rfl⟩:=r
  refine call_range_1 (Calls.spliced_nil (a6p (IsRange.new ..) q1 q2 ?_))
  let h0:Heap:=s1.heap.push { cls:=.type "range",data:=.fields #[.int 0 s1.toks,.int j t,.int 1 (s1.toks + 1)] }
  have I2:Inv X pins σ H1 { s1 with heap:=h0,toks:=s1.toks + 1 + 1 }:=I1.kept fun b o e=>Γc _ e
  have st:IsRangeIter (h0.push (a5l ((j.toNat:Int) - 1) j.toNat)) h0.objs.size ((j.toNat:Int) - 1) j.toNat (-1):=Γm _ rfl
  refine wpAny_pyIter_rangeiter st ?_
  refine ⟨h0.objs.size,[h0.objs.size],_,_,H1,rfl,I2.kept (t':=s1.toks + 1 + 1) fun b o e=>Γc _ e,a9e _ ((j.toNat:Int) - 1) j.toNat,?_,fun b hb=>?_,q⟩
  ·have e1:((j.toNat:Int) - 1) + ((0:Nat):Int) * (-1)=(j.toNat:Int) - 1:=by simp
   have e2:((j.toNat:Nat):Int) - ((0:Nat):Int)=j.toNat:=by simp
   rw [e1,e2]
   exact st
  ·have e:b=h0.objs.size:=by simpa using hb
   subst e
   exact I2.fpOk (Γi _) (I2.hok.fresh (Γi _))
end
noncomputable def c5u (a:EW):AW:=fun L Q=>a L fun x L1=>wp (a2t x) fun j=>a0q j=true∧Q (a5b ((j.toNat:Int) - 1) j.toNat) L1
@[scoped simp ↓] theorem d2u (a:EW) (L:a0a) (Q:List FV→a0a→Prop):c5u a L Q=(a L fun x L1=>wp (a2t x) fun j=>a0q j=true∧Q (a5b ((j.toNat:Int) - 1) j.toNat) L1):=propext Iff.rfl
theorem d7c {X:Cx} {C:CC} {n:Nat} {sp:Γd→Nat→Sp} {a tg:Expr} {ea:EW} {p p2 pos pos2:Pos} (G:Good X C n sp) (hg:(C.gl (Γe "range") && C.gl (Γe "reversed"))=true) (hs:a0g a=false) (ha:FE X C a ea):FI X C C.md tg (.Call (.Name (Γe "reversed") p) [.Call (.Name (Γe "range") p2) [a] [] pos2] [] pos) (c5u ea) :=
 PI.imp (c4z (G.gl (b2 hg).1) (G.blt "range" (by decide)) (G.gl (b2 hg).2) (G.blt "reversed" (by decide)) (a0h ha a1u (a0d hs)) (a0d hs)) fun σ H R ⟨c,L,S,Q0,I,h,k⟩ =>
 ⟨c,L,S,_,I,h,fun v L1 hv x S1 H1 r1 I1 s1=>by
  obtain ⟨j,e,hb,q⟩:=wpx hv
  cases a0u e
  have h1:=de hb
  exact ⟨j,by rw [show x=.int j from r1],h1.1,h1.2,k _ L1 q _ c S1 H1 I1 (fun _ _ _ _ I=>I) rfl b7r s1⟩⟩
theorem a8s:∀ n:Nat,a5b ((n:Int) - 1) n=(List.range n).reverse.map fun i:Nat=>FV.int i
 | 0=>rfl
 | n + 1=>by
  have:=a8s n
  rw [List.range_succ,List.reverse_append,List.map_append,← this]
  simp [a5b]
noncomputable def c7f (P:Program) (w:World) (A:Around) (I:Nat→Value→Prop) (bt:Nat→Nat→Bool) (h0:Heap) (N:Nat):Prop :=
 ∀ i j u v (s:Shared) (Q:Value→Shared→Prop) (E:Value→Shared→Prop),L2.Kept h0 s.heap N→I i u→I j v→Q (.bool (bt i j)) s→wpAny (model P w) A (richCompare .Gt u v) Q E s
section
variable {P:Program} {w:World} {A:Around} {R:Result→Shared→Prop} {it S N:Addr} {fp wr:List Addr} {n:Nat} {V:Nat→Value→Prop} {St:Nat→Heap→Prop} {bt:Nat→Nat→Bool} {h0:Heap} {kw:List (Str×Value)}
theorem b7d (W:Walks P w A.in1 it fp wr n V St) (C:c7f P w A.in1 V bt h0 N) (sf:S ∉ fp) (nw:∀ b∈wr,N≤b) (nS:N≤S) :
  ∀ (k j:Nat) (s:Shared) (best:Value) (c:Nat),n - (j + 1)=k→j + 1≤n→St (j + 1) s.heap→V (argBest bt j) best→L2.Kept h0 s.heap N→s.heap.get? S=some { cls:=.type "list",dict:=none,data:=.seq #[best,best] c,slots:=#[] } →
  (∀ v h' tk,V (argBest bt (n - 1)) v→(∀ b o,b ∉ wr→b≠S→s.heap.get? b=some o→h'.get? b=some o)→R (.ok (.ret v)) { s with heap:=h',toks:=tk })→codeAny (model P w) A (.builtin "max.loop" ⟨[.ref it,.none,.ref S],kw⟩) R s:=by
 have sw:S ∉ wr:=fun h=>sf (W.sub _ h)
 have nm:(toString "max"++toString ".loop":String) = "max.loop":=by decide
 have low:∀ {b:Addr},b < N→b ∉ wr∧b≠S:=fun {b} hb=>⟨fun z=>absurd (nw b z) (Nat.not_le.mpr hb),fun z=>absurd nS (by rw [← z]; exact Nat.not_le.mpr hb)⟩
 intro k
 induction k with
 | zero =>
  intro j s best c hk hj hst hV kp hS hR
  have en:j + 1=n:=by lia
  refine codeAny_builtin F.entry_max_loop ?_; rw [PySem.Around.under_plainId F.plain_max_loop _]
  show wpAny _ A.in1 (seqItems? (.ref S) >>= _) _ _ s; refine Γa (wpAny_seqItems hS rfl ?_)
  show wpAny _ A.in1 (tryCatch (pyNext (.ref it)) _ >>= _) _ _ s; refine Γa (wpAny_tryCatch (W.done s _ _ (en ▸ hst) fun g tk kk=>?_))
  have S1:=kk S _ sw hS
  show wpAny _ A.in1 (updateSeq S (fun _=>#[]) >>= _) _ _ _; refine Γa (wpAny_updateSeq S1 rfl (Γa (wpAny_letGo (Γb ?_))))
  exact hR best _ tk (by rw [← en]; exact hV) fun b o c1 c2 e=>(Γf _ _ (Ne.symm c2)).trans (kk b o c1 e)
 | succ k ih =>
  intro j s best c hk hj hst hV kp hS hR
  have lt:j + 1 < n:=by lia
  refine codeAny_builtin F.entry_max_loop ?_; rw [PySem.Around.under_plainId F.plain_max_loop _]
  show wpAny _ A.in1 (seqItems? (.ref S) >>= _) _ _ s; refine Γa (wpAny_seqItems hS rfl ?_)
  show wpAny _ A.in1 (tryCatch (pyNext (.ref it)) _ >>= _) _ _ s; refine Γa (wpAny_tryCatch (W.item (j + 1) s _ _ lt hst fun v g tk vP st1 kk=>?_))
  have S1:=kk S _ sw hS
  have kp1:L2.Kept h0 g N:=fun b o hb e=>kk b o (low hb).1 (kp b o hb e)
  show wpAny _ A.in1 (tryCatch (holding [v,v] (richCompare .Gt v best >>= _)) _ >>= _) _ _ _
  refine Γa (wpAny_tryCatch (Γg (Γa (C (j + 1) (argBest bt j) v best _ _ _ kp1 vP hV (Γa (Γg (wpAny_truthy_bool (Γa (wpAny_letGo (Γb ?_))))))))))
  cases hb:bt (j + 1) (argBest bt j) with
  | true =>
   simp only [if_true]; refine Γa (wpAny_updateSeq S1 rfl (Γa (wpAny_letGo ?_))); rw [nm]
   refine Γb ⟨plainId_quiet F.plain_max_loop _,ih (j + 1) _ v _ (by lia) lt (W.frame _ _ _ st1 fun b bf o e=>(Γf _ _ (fun h:S=b=>sf (by rw [h]; exact bf))).trans e) (by simp only [argBest,hb,if_true]; exact vP)
    (fun b o l e=>(Γf _ _ (Ne.symm (low l).2)).trans (kp1 b o l e)) (Heap.get?_update_self _ S1 rfl) fun v' g' tk' p' k'=>?_⟩
   exact hR v' g' tk' p' fun b o c1 c2 e=>k' b o c1 c2 ((Γf _ _ (Ne.symm c2)).trans (kk b o c1 e))
  | false =>
   simp only [Γp,if_false]; refine Γa (wpAny_letGo ?_); rw [nm]
   refine Γb ⟨plainId_quiet F.plain_max_loop _,ih (j + 1) _ best c (by lia) lt st1 (by simp only [argBest,hb,Γp,if_false]; exact hV) kp1 S1 fun v' g' tk' p' k'=>?_⟩
   exact hR v' g' tk' p' fun b o c1 c2 e=>k' b o c1 c2 (kk b o c1 e)
theorem b4h (W:Walks P w A.in1 it fp wr n V St) (C:c7f P w A.in1 V bt h0 N) (sf:S ∉ fp) (nw:∀ b∈wr,N≤b) (nS:N≤S) (hn:0 < n) {s:Shared} {c:Nat} (hst:St 0 s.heap) (kp:L2.Kept h0 s.heap N)
  (hS:s.heap.get? S=some { cls:=.type "list",dict:=none,data:=.seq #[] c,slots:=#[] })
  (hR:∀ v h' tk,V (argBest bt (n - 1)) v→(∀ b o,b ∉ wr→b≠S→s.heap.get? b=some o→h'.get? b=some o)→R (.ok (.ret v)) { s with heap:=h',toks:=tk }):codeAny (model P w) A (.builtin "max.loop" ⟨[.ref it,.none,.ref S],kw⟩) R s:=by
 have sw:S ∉ wr:=fun h=>sf (W.sub _ h)
 have nm:(toString "max"++toString ".loop":String) = "max.loop":=by decide
 have low:∀ {b:Addr},b < N→b ∉ wr∧b≠S:=fun {b} hb=>⟨fun z=>absurd (nw b z) (Nat.not_le.mpr hb),fun z=>absurd nS (by rw [← z]; exact Nat.not_le.mpr hb)⟩
 refine codeAny_builtin F.entry_max_loop ?_; rw [PySem.Around.under_plainId F.plain_max_loop _]
 show wpAny _ A.in1 (seqItems? (.ref S) >>= _) _ _ s; refine Γa (wpAny_seqItems hS rfl ?_)
 show wpAny _ A.in1 (tryCatch (pyNext (.ref it)) _ >>= _) _ _ s; refine Γa (wpAny_tryCatch (W.item 0 s _ _ hn hst fun v g tk vP st1 kk=>?_))
 have S1:=kk S _ sw hS
 show wpAny _ A.in1 (updateSeq S (fun _=>#[v,v]) >>= _) _ _ _; refine Γa (wpAny_updateSeq S1 rfl ?_); rw [nm]
 refine Γb ⟨plainId_quiet F.plain_max_loop _,b7d W C sf nw nS _ 0 _ v _ rfl hn (W.frame _ _ _ st1 fun b bf o e=>(Γf _ _ (fun h:S=b=>sf (by rw [h]; exact bf))).trans e) vP
  (fun b o l e=>(Γf _ _ (Ne.symm (low l).2)).trans (kk b o (low l).1 (kp b o l e))) (Heap.get?_update_self _ S1 rfl) fun v' g' tk' p' k'=>?_⟩
 exact hR v' g' tk' p' fun b o c1 c2 e=>k' b o c1 c2 ((Γf _ _ (Ne.symm c2)).trans (kk b o c1 e))
end
section
variable {P:Program} {w:World} {A:Around} {E:Value→Shared→Prop} {s:Shared}
end
section
variable {P:Program} {w:World} {A:Around} {E:Value→Shared→Prop} {s:Shared}
end
noncomputable def a1v (b:Int):List Int→Int
 | []=>b
 | x :: r=>a1v (if b < x then x else b) r
noncomputable def mostD (d:Int):List Int→Int
 | []=>d
 | n :: r=>a1v n r
theorem a9t:∀ (xs:List Int) (b x:Int),a1v b (xs++[x])=if a1v b xs < x then x else a1v b xs
 | [],b,x=>rfl
 | y :: ys,b,x=>by
  show a1v (if b < y then y else b) (ys++[x])=_
  rw [a9t ys]; rfl
theorem b2s (n:Int) (r:List Int):∀ k,k≤r.length→(n :: r)[argBest (fun i j=>decide ((n :: r).getD j 0 < (n :: r).getD i 0)) k]?=some (a1v n (r.take k))
 | 0,_=>by simp [argBest,a1v]
 | k + 1,h=>by
  have ih:=b2s n r k (by lia)
  have hk:k < r.length:=h
  have e1:(n :: r).getD (argBest (fun i j=>decide ((n :: r).getD j 0 < (n :: r).getD i 0)) k) 0=a1v n (r.take k):=by rw [List.getD_eq_getElem?_getD,ih]; rfl
  have e2:(n :: r).getD (k + 1) 0=r[k]:=by simp [List.getD,hk]
  rw [List.take_succ_eq_append_getElem hk,a9t]
  simp only [argBest,e1,e2,decide_eq_true_eq]
  split
  ·simp [hk]
  ·exact ih
section
variable {X:Cx}
variable {x:Str} {p pos kp:Pos} {e v:Expr} {t:TA} {tv:TE} {id:String} {kn:Str} {r:V→V→Hp→VK→Prop}
end
section
variable {X:Cx} {C:CC} {n:Nat} {sp:Γd→Nat→Sp} {a b:Expr} {ea eb:EW} {pos p kp:Pos}
end
section
variable (Q:FV→Prop)
end
section
variable {P:Program} {w:World} {A:Around} {E:Value→Shared→Prop}
end
section
variable {X:Cx} {pos:Pos}
end
noncomputable def sUnp (e:EW) (is:List Nat):SW:=fun L Q=>e L fun x L1=>wp (a6w x) fun xs=>wp (a7t L1 is xs) fun L2=>Q .next L2
section
variable {X:Cx} {C:CC} {n:Nat} {sp:Γd→Nat→Sp} {fr:Bool} {a:Expr} {e:EW} {pos p:Pos} {is:List Nat} {k:Nat}
end
section
variable {prog:Program} {w:World} {A:Around} {E:Value→Shared→Prop} {s:Shared}
end
section
variable {X:Cx} {S H:Hp} {Q:VK}
noncomputable def tmulF (v w:FV):Option FV:=(a8y v).bind fun xs=>(a2t w).bind fun k=>if -(2 ^ 63)≤k∧k < 2 ^ 63∧xs.length * k.toNat≤big then some (.tup (Γj k.toNat xs).flatten) else none
end
section
variable {X:Cx} {C:CC} {a b:Expr} {ea eb:EW} {pos:Pos}
end
end Kq
end
section
namespace PySem
section
variable {prog:Program} {w:World} {A:Around} {E:Value→Shared→Prop} {s:Shared}
end
end PySem
end
section
namespace Kq
open PySem PySem.Spec PyProof.Rows L2
section
variable {X:Cx}
variable {a b:Expr} {ta:TA} {p p2 pos pos2:Pos} {T:Str} {Tn:String} {ho:List V→HO}
end
noncomputable def rngF (c:List FV→FV) (v:FV):Option FV:=(a2t v).bind fun j=>if a0q j=true∧j.toNat≤big then some (c (upF 0 j.toNat)) else none
noncomputable def rng2F (c:List FV→FV) (v w:FV):Option FV:=(a2t v).bind fun i=>(a2t w).bind fun j=>if (a0q i && a0q j)=true∧(j - i).toNat≤big then some (c (upF i (j - i).toNat)) else none
section
variable {X:Cx} {C:CC} {n:Nat} {sp:Γd→Nat→Sp} {a b:Expr} {ea eb:EW} {pos p p2 pos2:Pos}
end
end Kq
end
section
namespace PySem
noncomputable def d9w (A:Around) (s:Shared) (x y:Value) (b:Bool):Prop :=
 ∀ (prog:Program) (w:World) (E:Value→Shared→Prop) (Q:Value→Shared→Prop),Q (.bool b) s→wpAny (model prog w) A (richCompare .Lt x y) Q E s
inductive LexAt (A:Around) (s:Shared):List Value→List Value→Bool→Prop
 | nn:LexAt A s [] [] false
 | nc {y ys}:LexAt A s [] (y :: ys) true
 | cn {x xs}:LexAt A s (x :: xs) [] false
 | eq {x y xs ys r}:SeqAt.EqAt A s x y true→LexAt A s xs ys r→LexAt A s (x :: xs) (y :: ys) r
 | ne {x y xs ys r}:SeqAt.EqAt A s x y false→d9w A s x y r→LexAt A s (x :: xs) (y :: ys) r
section
open PySem.SeqAt
open PySem.AutoSeq1 (wpAny_loadPart')
open PySem.MeetsSeq PySem.MeetsSeq2 PySem.MeetsSeq3
theorem a9f (l b:Addr) (items items2:Array Value) (n n2:Nat) (dd dd2:Option Addr) (sl sl2:Array (Option Value)) :
  Meets (Builtin.«tuple.__lt__» ⟨[.ref l,.ref b],[]⟩)
   (fun A R s=>s.heap.get? l=some { cls:=.type "tuple",dict:=dd,data:=.seq items n,slots:=sl }∧s.heap.get? b=some { cls:=.type "tuple",dict:=dd2,data:=.seq items2 n2,slots:=sl2 } ∧
    ∃ r,LexAt A.in1 s items.toList items2.toList r∧R (.ok (.ret (.bool r))) s) :=
 .of_wp fun prog w A R s h=>by
  obtain ⟨hp,g,d,tk,os⟩:=s; obtain ⟨hl,hb,r,hlex,h⟩:=h
  have f2:=AutoSeq1.sub_tuple_tuple
  wp_walk using wpAny_loadPart' hl,wpAny_loadPart' hb,wpAny_forIn_list _ (fun rest b s'=>b.1=none∧s'=⟨hp,g,d,tk,os⟩∧∃ (vs ws:List Value),rest=vs.zip ws ∧
   LexAt A.in1 ⟨hp,g,d,tk,os⟩ vs ws r∧vs.length + items2.size=ws.length + items.size) _
  case turn =>
   rintro ⟨y,x⟩ rest b s' ⟨hb',rfl,vs,ws,hz,hlx,hlen⟩
   cases hlx with
   | nn=>cases hz
   | nc=>cases hz
   | cn=>rw [List.zip_nil_right] at hz; cases hz
   | eq he hr =>
    rw [List.zip_cons_cons] at hz
    injection hz with hyx hrest
    injection hyx with hy hx
    subst hy hx
    simp only [List.length_cons] at hlen
    refine Γa (he prog w _ _ ?_)
    wp_walk
    exact ⟨rfl,rfl,_,_,hrest,hr,by lia⟩
   | ne he hr =>
    rw [List.zip_cons_cons] at hz
    injection hz with hyx hrest
    injection hyx with hy hx
    subst hy hx
    refine Γa (he prog w _ _ ?_)
    have hri:=hr prog w
    wp_walk using hri
    exact ⟨_,rfl,by simpa using h⟩
  case fin =>
   rintro ⟨b1,b2⟩ s' ⟨hb',rfl,vs,ws,hz,hlx,hlen⟩
   simp only at hb'
   subst hb'
   have hv:r=decide (items.size < items2.size):=by
    cases hlx with
    | nn=>simp only [List.length_nil] at hlen; exact (decide_eq_false (by lia)).symm
    | nc=>simp only [List.length_nil,List.length_cons] at hlen; exact (decide_eq_true (by lia)).symm
    | cn=>simp only [List.length_nil,List.length_cons] at hlen; exact (decide_eq_false (by lia)).symm
    | eq=>rw [List.zip_cons_cons] at hz; cases hz
    | ne=>rw [List.zip_cons_cons] at hz; cases hz
   rw [hv] at h
   wp_walk
   exact ⟨_,rfl,by simpa [Builtin.Tuple.tupleCompareSizes] using h⟩
  case h =>
   exact ⟨rfl,rfl,items.toList,items2.toList,rfl,hlex,by simp; lia⟩
end
theorem c1g {A:Around} {s:Shared} {l b:Addr} {o o2:Obj} {items items2:Array Value} {n n2:Nat} {r:Bool} (h1:s.heap.get? l=some o) (h2:o.cls=.type "tuple") (h3:o.data=.seq items n) (g1:s.heap.get? b=some o2) (g2:o2.cls=.type "tuple") (g3:o2.data=.seq items2 n2)
  (hlex:LexAt A.in1 s items.toList items2.toList r) (hu:A.units < cLine):d9w A s (.ref l) (.ref b) r:=by
 intro prog w E Q h
 obtain ⟨cls,dd,data,sl⟩:=o
 obtain ⟨cls2,dd2,data2,sl2⟩:=o2
 simp only at h2 h3 g2 g3
 subst h2 h3 g2 g3
 exact richCompare_meets_room (op:=.Lt) ⟨_,h1,rfl⟩ ⟨_,g1,rfl⟩ PySem.F.slot_tuple_lt PySem.F.entry_tuple_lt (PySem.F.args_tuple_lt_2 _ _) (a9f l b items items2 n n2 dd dd2 sl sl2)
  ⟨h1,g1,r,hlex,show Value.bool r≠Value.notImplemented∧Q (.bool r) s from ⟨(fun x=>nomatch x),h⟩⟩ hu
end PySem
namespace Kq
open PySem PySem.Spec PyProof.Rows L2
noncomputable def d4i (a b:String):Bool:=decide ((Γe a).cps.toList < (Γe b).cps.toList)
mutual
noncomputable def ltD:D→D→Option Bool
 | .int a,.int b=>some (decide (a < b))
 | .str a,.str b=>some (d4i a b)
 | .tup a,.tup b=>b9w a b
 | _,_=>none
noncomputable def b9w:List D→List D→Option Bool
 | [],[]=>some false
 | [],_ :: _=>some true
 | _ :: _,[]=>some false
 | a :: r,b :: q=>if D.eqv a b=true then b9w r q else ltD a b
end
mutual
theorem c3h:∀ (x y:D) (A:Around) (s:Shared) (v u:Value) (as bs:List Addr) (r:Bool),Reads s.heap v (dPy x) as→Reads s.heap u (dPy y) bs→ltD x y=some r→A.units + (dPy x).depth < cLine→d9w A s v u r
 | .int a,y,A,s,v,u,as,bs,r,h1,h2,e,hu=>by
  cases y with
  | int b =>
   cases e
   simp only [dPy] at h1 h2
   cases h1; cases h2
   exact fun prog w E Q h=>PyProof.Rows.lt_int h
  | _=>cases e
 | .str a,y,A,s,v,u,as,bs,r,h1,h2,e,hu=>by
  cases y with
  | str b =>
   cases e
   simp only [dPy] at h1 h2
   cases h1; cases h2
   exact fun prog w E Q h=>PySem.P.lt_str h
  | _=>cases e
 | .tup xs,y,A,s,v,u,as,bs,r,h1,h2,e,hu=>by
  cases y with
  | tup ys =>
   simp only [dPy] at h1 h2
   simp only [dPy,PyData.depth] at hu
   cases h1 with
   | tuple a1 a2 a3 a4 =>
    cases h2 with
    | tuple b1 b2 b3 b4 =>
     exact c1g a1 a2 a3 b1 b2 b3 (b7k xs ys A.in1 s _ _ _ _ r a4 b4 e (by show A.units + 1 + _ < _; lia)) (by lia)
  | _=>cases e
 | .non,y,A,s,v,u,as,bs,r,h1,h2,e,hu=>by cases y <;> cases e
 | .bl _,y,A,s,v,u,as,bs,r,h1,h2,e,hu=>by cases y <;> cases e
 | .lst _,y,A,s,v,u,as,bs,r,h1,h2,e,hu=>by cases y <;> cases e
theorem b7k:∀ (xs ys:List D) (A:Around) (s:Shared) (vs us:List Value) (as bs:List Addr) (r:Bool),ReadsAll s.heap vs (a4p xs) as→ReadsAll s.heap us (a4p ys) bs→b9w xs ys=some r→A.units + PyData.depthAll (a4p xs) < cLine→LexAt A s vs us r
 | [],[],A,s,vs,us,as,bs,r,h1,h2,e,hu=>by cases h1; cases h2; cases e; exact .nn
 | [],y :: ys,A,s,vs,us,as,bs,r,h1,h2,e,hu=>by cases h1; cases h2; cases e; exact .nc
 | x :: xs,[],A,s,vs,us,as,bs,r,h1,h2,e,hu=>by cases h1; cases h2; cases e; exact .cn
 | x :: xs,y :: ys,A,s,vs,us,as,bs,r,h1,h2,e,hu=>by
  simp only [a4p] at h1 h2
  simp only [a4p,PyData.depthAll] at hu
  cases h1 with
  | cons a1 a2 =>
   cases h2 with
   | cons b1 b2 =>
    have he:=PySem.SeqAt.eqAt_reads _ _ A s _ _ _ _ a1 b1 (a5f x) (a5f y) (by lia)
    rw [b9a] at he
    simp only [b9w] at e
    split at e
    ·rename_i hq
     rw [hq] at he
     exact .eq he (b7k xs ys A s _ _ _ _ r a2 b2 e (by lia))
    ·rename_i hq
     have hq:D.eqv x y=false:=by simpa using hq
     rw [hq] at he
     exact .ne he (c3h x y A s _ _ _ _ r a1 b1 e (by lia))
end
end Kq
end
section
namespace Kq
open PySem PySem.Spec PyProof.Rows L2
theorem b2w {α β:Type} {f:α→Option β}:∀ {xs:List α} {ys:List β},a4i f xs=some ys→∀ (i:Nat) (x:α),xs[i]?=some x→∃ y,ys[i]?=some y∧f x=some y
 | [],ys,h,i,x,e=>by simp at e
 | a :: r,ys,h,i,x,e=>by
  simp only [a4i] at h
  obtain ⟨b,h1,h2⟩:=bnd h
  obtain ⟨q,h3,rfl⟩:=mpd h2
  cases i with
  | zero=>simp at e; subst e; exact ⟨b,rfl,h1⟩
  | succ i=>exact b2w h3 i x (by simpa using e)
noncomputable def btD (ds:List D) (i j:Nat):Bool:=(ltD (ds.getD i .non) (ds.getD j .non)).getD false
open Classical in
noncomputable def b4i (v:FV):Option FV:=(a1n v).bind fun xs=>(a4i (fD a0j) xs).bind fun ds =>
 if 0 < ds.length∧(∀ x∈ds,∀ y∈ds,(ltD x y).isSome=true)∧∀ ps,xs[argBest (btD ds) (ds.length - 1)]?≠some (.lst ps) then xs[argBest (btD ds) (ds.length - 1)]? else none
section
variable {X:Cx}
theorem d1x (hc:X.calm=true) (hu:X.A.units + 64 < cLine):a1b X (.builtin "min") (Rc X.K b4i):=by
 rintro pins s σ H xs us Q I r ⟨S,v,x,z,rfl,hs,rv,e,k⟩
 obtain ⟨qs,e1,e2⟩:=bnd e
 obtain ⟨ds,e3,e4⟩:=bnd e2
 obtain ⟨⟨hpos,hall,hnl⟩,e5⟩:(0 < ds.length∧(∀ x∈ds,∀ y∈ds,(ltD x y).isSome=true)∧∀ ps,qs[argBest (btD ds) (ds.length - 1)]?≠some (.lst ps))∧qs[argBest (btD ds) (ds.length - 1)]?=some z:=by
  split at e4
  ·rename_i h; exact ⟨h,e4⟩
  ·cases e4
 obtain ⟨a,ys,rfl,hq,ry⟩:=rv.list hs e1
 obtain ⟨u,rfl,ru⟩:=a3k r
 cases (show u=Value.ref a from ru)
 obtain ⟨its,r',pl,hz'⟩:=I.list hq
 have hh:X.A.in1.handled=none:=I.ok.hd hc
 have hlen:ys.length=its.length:=r'.length
 have hql:=ry.length
 have hdl:=b2v e3
 have hl2:its.length=ds.length:=by rw [← hlen,← hql,hdl]
 have it:∀ (i:Nat) (v:Value),its.toArray[i]?=some v→∃ (p:FV) (y:V) (d:D),qs[i]?=some p∧ds[i]?=some d∧fD a0j p=some d∧RV X.K S p y∧RelV y v:=fun i v hv=>by
  have hv:its[i]?=some v:=by simpa using hv
  have hi:=(List.getElem?_eq_some_iff.mp hv).1
  have hi':i < qs.length:=by lia
  obtain ⟨d,f3,f4⟩:=b2w e3 i qs[i] (List.getElem?_eq_getElem hi')
  obtain ⟨y,f1,f2⟩:=ry.get (i:=i) (List.getElem?_eq_getElem hi')
  obtain ⟨u,g1,g2⟩:=r'.get f1
  rw [hv] at g1; cases g1
  exact ⟨_,y,d,List.getElem?_eq_getElem hi',f3,f4,f2,g2⟩
 refine a7h (bt:=btD ds) hh pl.isList (by simp; lia) (fun i j u v s1 Q1 E1 kp hi hj q1=>?_) fun v h' tk hv hk=>?_
 ·obtain ⟨p1,y1,d1,a1,a2,a3,a4,a5⟩:=it i u hi
  obtain ⟨p2,y2,d2,b1,b2,b3,b4,b5⟩:=it j v hj
  obtain ⟨as,ra⟩:=a2l I hs (.inl a4) a5 a3
  obtain ⟨bs,rb⟩:=a2l I hs (.inl b4) b5 b3
  have hk:∀ b o,s.heap.get? b=some o→s1.heap.get? b=some o:=fun b o e=>kp b o (Γl e) e
  have hcmp:=hall d1 (List.mem_of_getElem? a2) d2 (List.mem_of_getElem? b2)
  cases hr:ltD d1 d2 with
  | none=>rw [hr] at hcmp; cases hcmp
  | some c =>
   have hb:btD ds i j=c:=by simp only [btD,List.getD_eq_getElem?_getD,a2,b2,Option.getD_some,hr]
   rw [hb] at q1
   have hd:=a4m a3
   unfold a0j at hd
   exact c3h d1 d2 X.A.in1 s1 u v as bs c (PyProof.Rows.Reads.keeps hk ra) (PyProof.Rows.Reads.keeps hk rb) hr (by show X.A.units + 1 + _ < _; lia) X.prog X.w _ _ q1
 ·have hv:its[argBest (btD ds) (its.toArray.size - 1)]?=some v:=by simpa using hv
  have hsz:its.toArray.size - 1=ds.length - 1:=by simp; lia
  rw [hsz] at hv
  obtain ⟨p,y,d,a1,a2,a3,a4,a5⟩:=it _ v (by simpa using hv)
  rw [e5] at a1; cases a1
  exact ⟨y,H,I.kept (t':=tk) hk,a5,k.old _ (fun ps hz=>hnl ps (by rw [e5,hz])) a4⟩
end
section
variable {X:Cx} {C:CC} {n:Nat} {sp:Γd→Nat→Sp} {a:Expr} {ea:EW} {pos p:Pos}
theorem d7n (G:Good X C n sp) (hg:C.gl (Γe "min")=true) (hs:a0g a=false) (ha:FR X C a ea):FE X C (.Call (.Name (Γe "min") p) [a] [] pos) (eUn b4i ea):=a8q (d1x G.calm G.room.units) G (by decide) (by nofun) (by nofun) (by nofun) hg hs ha
end
noncomputable def a0s {α:Type} (lt:α→α→Bool):α→List α→α
 | b,[]=>b
 | b,x :: r=>a0s lt (if lt x b=true then x else b) r
theorem a5q {α:Type} (lt:α→α→Bool):∀ (xs:List α) (b x:α),a0s lt b (xs++[x])=if lt x (a0s lt b xs)=true then x else a0s lt b xs
 | [],b,x=>rfl
 | y :: ys,b,x=>by
  show a0s lt (if lt y b=true then y else b) (ys++[x])=_
  rw [a5q lt ys]; rfl
theorem a6z {α:Type} (lt:α→α→Bool) (bt:Nat→Nat→Bool) (n:α) (r:List α) (h:∀ i j x y,(n :: r)[i]?=some x→(n :: r)[j]?=some y→bt i j=lt x y):∀ k,k≤r.length→(n :: r)[argBest bt k]?=some (a0s lt n (r.take k))
 | 0,_=>by simp [argBest,a0s]
 | k + 1,hk=>by
  have ih:=a6z lt bt n r h k (by lia)
  have hk:k < r.length:=hk
  have e2:(n :: r)[k + 1]?=some r[k]:=by simp [hk]
  rw [List.take_succ_eq_append_getElem hk,a5q]
  simp only [argBest,h (k + 1) (argBest bt k) _ _ e2 ih]
  split
  ·exact e2
  ·exact ih
theorem c5n {α:Type} (enc:α→FV) (encD:α→D) (lt:α→α→Bool) (h1:∀ a,fD a0j (enc a)=some (encD a)) (h2:∀ a b,ltD (encD a) (encD b)=some (lt a b)) (h3:∀ a ps,enc a≠.lst ps) (n:α) (r:List α) (Q:FV→Prop):wp (b4i (.lst ((n :: r).map enc))) Q↔Q (enc (a0s lt n r)):=by
 have hm:∀ xs:List α,a4i (fD a0j) (xs.map enc)=some (xs.map encD):=by
  intro xs
  induction xs with
  | nil=>rfl
  | cons x r ih=>simp only [List.map_cons,a4i,h1,ih,Option.bind_some,Option.map_some]
 have hb:∀ i j x y,(n :: r)[i]?=some x→(n :: r)[j]?=some y→btD ((n :: r).map encD) i j=lt x y:=fun i j x y hx hy=>by
  simp only [btD,List.getD_eq_getElem?_getD,List.getElem?_map,hx,hy,Option.map_some,Option.getD_some,h2]
 have ha:=a6z lt _ n r hb r.length (Γi _)
 rw [List.take_length] at ha
 have hx:((n :: r).map enc)[argBest (btD ((n :: r).map encD)) (((n :: r).map encD).length - 1)]?=some (enc (a0s lt n r)):=by
  rw [List.length_map,List.length_cons,Nat.add_sub_cancel,List.getElem?_map,ha]; rfl
 have he:b4i (.lst ((n :: r).map enc))=some (enc (a0s lt n r)):=by
  show ((some ((n :: r).map enc)).bind fun xs=>(a4i (fD a0j) xs).bind _)=_
  rw [Option.bind_some,hm,Option.bind_some,if_pos,hx]
  refine ⟨by simp,?_,?_⟩
  ·intro x hx y hy
   obtain ⟨a,-,rfl⟩:=List.mem_map.mp hx
   obtain ⟨b,-,rfl⟩:=List.mem_map.mp hy
   rw [h2]; rfl
  ·intro ps z
   rw [hx] at z
   exact h3 _ ps (Option.some.inj z)
 rw [he]; exact Iff.rfl
noncomputable def a3q {κ α:Type} [DecidableEq κ] (ks:List κ) (vs:List α) (k:κ) (v:α):List κ×List α :=
 if k∈ks then (ks,List.zipWith (fun k' v'=>if k'=k then v else v') ks vs) else (ks++[k],vs++[v])
noncomputable def a1x {κ α:Type} [DecidableEq κ]:List κ→List α→κ→Option α
 | k' :: ks,v :: vs,k=>if k'=k then some v else a1x ks vs k
 | _,_,_=>none
theorem b7v {a b:List Int} (h:a.map (Sum.inl:Int→Int ⊕ Str)=b.map Sum.inl):a=b:=by
 induction a generalizing b with
 | nil=>cases b with | nil=>rfl | cons=>cases h
 | cons x r ih=>cases b with
  | nil=>cases h
  | cons y q =>
   simp only [List.map_cons,List.cons.injEq,Sum.inl.injEq] at h
   rw [h.1,ih h.2]
theorem a5t:∀ (ks:List (List Int)) (us:List V) (k:List Int),b0v ((a1q ks).zip us) (k.map Sum.inl)=a1x ks us k
 | [],us,k=>by cases us <;> rfl
 | k' :: ks,[],k=>rfl
 | k' :: ks,u :: us,k=>by
  show b0v ((k'.map Sum.inl,u) :: (a1q ks).zip us) (k.map Sum.inl)=if k'=k then some u else a1x ks us k
  by_cases e:k'=k
  ·subst e; rw [a4a rfl,if_pos rfl]
  ·rw [a4b fun z=>e (b7v z),if_neg e]; exact a5t ks us k
theorem a2b {κ α:Type} [DecidableEq κ]:∀ {ks:List κ} {vs:List α} (k:κ),ks.length=vs.length→((a1x ks vs k).isSome=true↔k∈ks)
 | [],vs,k,h=>by simp [a1x]
 | k' :: ks,[],k,h=>by simp at h
 | k' :: ks,v :: vs,k,h=>by
  simp only [a1x]
  by_cases e:k'=k
  ·simp [e]
  ·simp only [e,if_false,List.mem_cons,Ne.symm e,false_or]
   rw [a2b k (by simpa using h)]
theorem c4q (ks:List (List Int)) (us:List V) (k:List Int) (u:V) (hl:ks.length=us.length):a6t ((a1q ks).zip us) (k.map Sum.inl) u=(a1q (a3q ks us k u).1).zip (a3q ks us k u).2:=by
 have hany:(((a1q ks).zip us).any fun kv=>decide (kv.1=k.map Sum.inl))=true↔k∈ks:=by
  rw [a5g,a5t,a2b k hl]
 unfold a6t a3q
 by_cases e:k∈ks
 ·rw [if_pos (hany.mpr e),if_pos e]
  clear e hany
  induction ks generalizing us with
  | nil=>cases us <;> rfl
  | cons k' ks ih=>cases us with
   | nil=>rfl
   | cons u' us =>
    have:=ih us (by simpa using hl)
    show (if k'.map Sum.inl=k.map Sum.inl then (k'.map Sum.inl,u) else (k'.map Sum.inl,u')) :: ((a1q ks).zip us).map _=(k'.map Sum.inl,if k'=k then u else u') :: (a1q ks).zip _
    rw [this]
    congr 1
    by_cases e:k'=k
    ·subst e; simp
    ·rw [if_neg fun z=>e (b7v z),if_neg e]
 ·rw [if_neg fun z=>e (hany.mp z),if_neg e]
  show _=(a1q (ks++[k])).zip (us++[u])
  have:a1q (ks++[k])=a1q ks++[k.map Sum.inl]:=by simp [a1q]
  rw [this,List.zip_append (by simpa [a1q] using hl)]; rfl
theorem a7w {κ α:Type} [DecidableEq κ] (ks:List κ) (vs:List α) (k:κ) (v:α) (h:ks.length=vs.length):(a3q ks vs k v).1.length=(a3q ks vs k v).2.length∧(a3q ks vs k v).1.length≤ks.length + 1:=by
 unfold a3q
 split
 ·simp [h]
 ·simp [h]
section
variable {K:Γd} {S H:Hp}
theorem b6f {κ:Type} [DecidableEq κ] {k:κ} {v:FV} {u:V} (r2:RV K S v u):∀ {ks:List κ} {vs:List FV} {us:List V},RVs K S vs us→RVs K S (List.zipWith (fun k' v'=>if k'=k then v else v') ks vs) (List.zipWith (fun k' v'=>if k'=k then u else v') ks us)
 | [],vs,us,_=>rfl
 | k' :: ks,[],us,r=>by cases (show us=[] from r); rfl
 | k' :: ks,p :: vs,us,⟨x,q,e,h1,h2⟩=>by
  subst e
  refine ⟨_,_,rfl,?_,b6f r2 h2⟩
  by_cases e:k'=k
  ·simp only [e,if_true]; exact r2
  ·simp only [e,if_false]; exact h1
theorem b2l {κ:Type} [DecidableEq κ] {ks:List κ} {vs:List FV} {us:List V} {k:κ} {v:FV} {u:V} (r:RVs K S vs us) (r2:RV K S v u):(a3q ks vs k v).1=(a3q ks us k u).1∧RVs K S (a3q ks vs k v).2 (a3q ks us k u).2:=by
 unfold a3q
 split
 ·exact ⟨rfl,b6f r2 r⟩
 ·exact ⟨rfl,r.append (RVs.one r2)⟩
theorem b3f {κ:Type} [DecidableEq κ]:∀ {ks:List κ} {vs:List FV} {us:List V} {k:κ} {v:FV},RVs K S vs us→a1x ks vs k=some v→∃ u,a1x ks us k=some u∧RV K S v u
 | [],vs,us,k,v,r,e=>by simp [a1x] at e
 | k' :: ks,[],us,k,v,r,e=>by simp [a1x] at e
 | k' :: ks,p :: vs,us,k,v,⟨x,q,e',h1,h2⟩,e=>by
  subst e'
  simp only [a1x] at e ⊢
  by_cases e0:k'=k
  ·rw [if_pos e0] at e ⊢; cases e; exact ⟨x,rfl,h1⟩
  ·rw [if_neg e0] at e ⊢; exact b3f h2 e
theorem b3d {ps:List FV} {k:List Int} {x:V} (r:RV K S (.tup ps) x) (e:a0z ps=some k):∃ b,x=.ref b∧S b=some (.tup ((k.map (Sum.inl:Int→Int ⊕ Str)).map kV)):=by
 obtain ⟨b,xs,rfl,h1,h2⟩:=r
 refine ⟨b,rfl,?_⟩
 rw [h1,a0y h2 e,List.map_map]; rfl
variable {c:Cn} {md:Md} {L:a0a} {σ:L2.St}
end
noncomputable def b9g (n m:Nat) (tg:Tg) (t:BW) (ek ev:EW):List FV→List (List Int)→List FV→a0a→(List (List Int)→List FV→a0a→Prop)→Prop
 | [],ks,vs,L,Q=>Q ks vs L
 | x :: xs,ks,vs,L,Q=>gW tg x (L++Γj m none) fun L1=>t L1 fun b L2=>if b=true then ek L2 fun kx L3=>wp (a8y kx) fun ps=>wp (a0z ps) fun k=>ev L3 fun v L4=>b9g n m tg t ek ev xs (a3q ks vs k v).1 (a3q ks vs k v).2 (L4.take n) Q else b9g n m tg t ek ev xs ks vs (L2.take n) Q
noncomputable def eCompD (n m:Nat) (it:AW) (tg:Tg) (t:BW) (ek ev:EW):EW:=fun L Q=>it L fun xs L1=>L1.length=n∧xs.length≤big∧b9g n m tg t ek ev xs [] [] L1 fun ks vs L2=>Q (.dct ks vs) L2
section
variable {K:Γd} {c:Cn} {md:Md} {L:a0a} {σ:L2.St} {S H:Hp}
end
section
variable {X:Cx} {C:CC} {n:Nat} {sp:Γd→Nat→Sp} {pos:Pos} {scope:Scope} {own:List Str} {kx vx tgx iter:Expr} {ifs:List Expr} {it:AW} {tg:Tg} {t:BW} {ek ev:EW} {nn m:Nat} {md':Md}
end
noncomputable def d0q (a b:FV):Option FV:=match b with
 | .dct ks _=>(a8y a).bind fun ps=>(a0z ps).bind fun k=>some (.bl (decide (k∈ks)))
 | .dci ks _=>(a2t a).bind fun k=>some (.bl (decide (k∈ks)))
 | b=>inB a b
noncomputable def ni2B (a b:FV):Option FV:=match b with
 | .dct ks _=>(a8y a).bind fun ps=>(a0z ps).bind fun k=>some (.bl (!decide (k∈ks)))
 | .dci ks _=>(a2t a).bind fun k=>some (.bl (!decide (k∈ks)))
 | b=>niB a b
noncomputable def dgetF (v w:FV):Option FV:=match v with
 | .dct ks vs=>(a8y w).bind fun ps=>(a0z ps).bind fun k=>a1x ks vs k
 | _=>none
section
variable {X:Cx}
theorem RH.dct {K:Γd} {S H:Hp} {ks:List (List Int)} {vs:List FV} {y:V} (hs:Same S H) (rq:RH K S H (.dct ks vs) y):∃ a us,y=.ref a∧ks.length=vs.length∧H a=some (.dT ((a1q ks).zip us))∧RVs K S vs us:=by
 rcases rq with ⟨a,us,e,hl,h1,h2⟩ | ⟨a,e,_,ps,us,e9,h1,h2⟩
 ·exact ⟨a,us,e,hl,hs _ _ h1,h2⟩
 ·obtain ⟨hl,rfl⟩:=itd e9
  exact ⟨a,us,e,hl,h1,h2⟩
theorem c2c {S H:Hp} {ks:List (List Int)} {vs:List FV} {ps:List FV} {k:List Int} {x y:V} (hs:Same S H) (rp:RH X.K S H (.tup ps) x) (rq:RH X.K S H (.dct ks vs) y) (e:a0z ps=some k):∃ a us,y=.ref a∧ks.length=us.length∧RVs X.K S vs us∧L2.DGet H a x (a1x ks us k):=by
 obtain ⟨a,us,rfl,hl,h1,h2⟩:=rq.dct hs
 obtain ⟨b,rfl,hb⟩:=b3d (rp.val rfl) e
 refine ⟨a,us,rfl,by rw [hl,h2.length],h2,?_⟩
 rw [← a5t]
 exact .t h1 (hs _ _ hb)
theorem a5h:∀ (ks:List Int) (us:List V) (k:Int),b0v ((a3m ks).zip us) (Sum.inl k)=a1x ks us k
 | [],us,k=>by cases us <;> rfl
 | k' :: ks,[],k=>rfl
 | k' :: ks,u :: us,k=>by
  show b0v ((Sum.inl k',u) :: (a3m ks).zip us) (Sum.inl k)=if k'=k then some u else a1x ks us k
  by_cases e:k'=k
  ·subst e; rw [a4a rfl,if_pos rfl]
  ·rw [a4b fun z=>e (Sum.inl.inj z),if_neg e]; exact a5h ks us k
theorem RH.dci {K:Γd} {S H:Hp} {ks:List Int} {vs:List FV} {y:V} (hs:Same S H) (rq:RH K S H (.dci ks vs) y):∃ a us,y=.ref a∧ks.length=vs.length∧H a=some (.dK ((a3m ks).zip us))∧RVs K S vs us:=by
 rcases rq with ⟨a,us,e,hl,h1,h2⟩ | ⟨a,e,_,ps,us,e9,h1,h2⟩
 ·exact ⟨a,us,e,hl,hs _ _ h1,h2⟩
 ·obtain ⟨hl,rfl⟩:=itd e9
  exact ⟨a,us,e,hl,h1,h2⟩
theorem b8p {S H:Hp} {ks:List Int} {vs:List FV} {k:Int} {y:V} (hs:Same S H) (rq:RH X.K S H (.dci ks vs) y):∃ a us,y=.ref a∧ks.length=us.length∧RVs X.K S vs us∧L2.DGet H a (.int k) (a1x ks us k):=by
 obtain ⟨a,us,rfl,hl,h1,h2⟩:=rq.dci hs
 refine ⟨a,us,rfl,by rw [hl,h2.length],h2,?_⟩
 rw [← a5h]
 exact .k (k:=Sum.inl k) h1
theorem d5f (hu:X.A.units + 64 < cLine):OpR X (compareOp .In) (Rq X.K d0q):=by
 intro pins s σ H x y v u Q I rx ry ⟨S,p,q,z,hs,rp,rq,e,k⟩
 cases q with
 | dct ks vs =>
  obtain ⟨ps,e1,e2⟩:=bnd e
  obtain ⟨kk,e3,e4⟩:=bnd e2
  cases a2c e1
  cases e4
  obtain ⟨a,us,rfl,hl,h2,g⟩:=c2c hs rp rq e3
  cases (show u=Value.ref a from ry)
  refine d_in (by lia) I g rx fun s' I'=>⟨.bl _,H,I',rfl,?_⟩
  have:(a1x ks us kk).isSome=decide (kk∈ks):=by rw [Bool.eq_iff_iff,a2b kk hl]; simp
  rw [this]
  exact k.bl
 | dci ks vs =>
  obtain ⟨kk,e1,e4⟩:=bnd e
  cases a0u e1
  cases e4
  cases rp.int
  obtain ⟨a,us,rfl,hl,h2,g⟩:=b8p (k:=kk) hs rq
  cases (show u=Value.ref a from ry)
  refine d_in (by lia) I g rx fun s' I'=>⟨.bl _,H,I',rfl,?_⟩
  have:(a1x ks us kk).isSome=decide (kk∈ks):=by rw [Bool.eq_iff_iff,a2b kk hl]; simp
  rw [this]
  exact k.bl
 | _=>exact q_in hu pins s σ H x y v u Q I rx ry ⟨S,p,_,z,hs,rp,rq,e,k⟩
end
theorem c7q:a6f d0q:=by
 intro v w z e
 cases w with
 | dct ks vs =>
  obtain ⟨ps,_,e⟩:=bnd e
  obtain ⟨k,_,e⟩:=bnd e
  cases e; exact ⟨_,rfl⟩
 | dci ks vs =>
  obtain ⟨k,_,e⟩:=bnd e
  cases e; exact ⟨_,rfl⟩
 | _ =>
  obtain ⟨b,_,rfl⟩:=mpd (show (inF v _).map FV.bl=some z from e)
  exact ⟨_,rfl⟩
section
variable {X:Cx} {C:CC} {n:Nat} {sp:Γd→Nat→Sp} {a b:Expr} {ea eb:EW} {pos p:Pos}
theorem fb_in2 (G:Good X C n sp) (ha:FE X C a ea) (hb:FR X C b eb) (hm:behindInMarks .In b=false):FB X C (.Compare a [.In] [b] pos) (a2h (eOp d0q ea eb)):=b0g c7q (d5f G.room.units) ha hb hm
variable {es:List Expr} {k:Nat} {p2:Pos}
end
section
variable (Q:FV→Prop)
@[scoped simp ↓] theorem k_in2i (k:Int) (ks:List Int) (vs:List FV):wp (d0q (.int k) (.dci ks vs)) Q=Q (.bl (decide (k∈ks))):=propext Iff.rfl
@[scoped simp ↓] theorem ints_n (Q:List Int→Prop):wp (a0z []) Q=Q []:=propext Iff.rfl
@[scoped simp ↓] theorem ints_c (i:Int) (r:List FV) (Q:List Int→Prop):wp (a0z (.int i :: r)) Q↔wp (a0z r) fun ns=>Q (i :: ns):=by
 show wp ((a0z r).map (i :: ·)) Q↔_; rw [a1y]
end
end Kq
end
section
namespace PySem
section
variable {prog:Program} {w:World} {A:Around} {E:Value→Shared→Prop} {s:Shared}
end
end PySem
namespace Kq
open PySem PySem.Spec PyProof.Rows L2
section
variable {P:Program} {w:World} {A:Around} {E:Value→Shared→Prop} {s:Shared}
theorem b5b {l:Addr} {xs:Array Value} {bt:Nat→Nat→Bool} {Q:Value→Shared→Prop} (hh:A.in1.handled=none) (hl:s.heap.IsList l xs) (hn:0 < xs.size) (C:c7f P w A.in1 (fun i v=>xs[i]?=some v) bt s.heap s.heap.objs.size)
  (K:∀ v h' tk,xs[argBest bt (xs.size - 1)]?=some v→(∀ b o,s.heap.get? b=some o→h'.get? b=some o)→Q v { s with heap:=h',toks:=tk }):wpAny (model P w) A (call (.builtin "max") [.ref l]) Q E s:=by
 have nm:(toString "max"++toString ".loop":String) = "max.loop":=by decide
 have ll:l < s.heap.objs.size:=by obtain ⟨_,e,_⟩:=hl; exact Γl e
 refine call_function_tree F.kind_max F.plain_max F.entry_max (F.args_max1 _) ?_
 show wpAny _ A.in1 (Builtin.Builtins.bindParams "max" ["key","default"] 0 ⟨[],[]⟩ >>= _) _ _ s
 refine Γa (wpAny_of_eq (show Builtin.Builtins.bindParams "max" ["key","default"] 0 ⟨[],[]⟩=pure [none,none] from rfl) (Γa (Γb (Γa (wpAny_pyIter_list hl ?_)))))
 have W:=Walks.list (prog:=P) (w:=w) hh s.heap.objs.size l (Γo ll) xs
 refine Γa (wpAny_newObj_type ?_)
 rw [nm]
 have z1:(s.heap.push { cls:=.type "list_iterator",data:=.fields #[.ref l,.int 0 0] }).objs.size=s.heap.objs.size + 1:=Heap.size_push ..
 refine Γb ⟨plainId_quiet F.plain_max_loop _,b4h (S:=(s.heap.push { cls:=.type "list_iterator",data:=.fields #[.ref l,.int 0 0] }).objs.size) W C ?_ ?_ ?_ hn ⟨⟨_,Γc _ (Γm _ rfl),rfl,rfl⟩,(hl.push _).push _⟩
  (fun b o hb e=>Γc _ (Γc _ e)) (Γm _ rfl) fun v h' tk hv hk=>?_⟩
 ·rw [z1]; intro z; simp only [List.mem_cons,List.not_mem_nil,or_false] at z; rcases z with z | z
  ·exact absurd z (Nat.ne_of_gt (Nat.lt_succ_self _))
  ·exact absurd z (Nat.ne_of_gt (Nat.lt_succ_of_lt ll))
 ·intro b hb; simp at hb; rw [hb]; exact Γi _
 ·rw [z1]; exact Nat.le_succ _
 ·refine K v h' tk hv fun b o e=>hk b o (by simp; exact Γo (Γl e)) ?_ (Γc _ (Γc _ e))
  rw [z1]; exact Γo (Nat.lt_succ_of_lt (Γl e))
end
noncomputable def c1f (v:FV):Option FV:=(a1n v).bind fun xs=>(a0z xs).bind fun ns=>match ns with
 | n :: r=>some (.int (a1v n r))
 | []=>none
section
variable {X:Cx}
theorem d1z (hc:X.calm=true):a1b X (.builtin "max") (Rc X.K c1f):=by
 rintro pins s σ H xs us Q I r ⟨S,v,x,z,rfl,hs,rv,e,k⟩
 obtain ⟨ps,e1,e2⟩:=bnd e
 obtain ⟨ns,e3,e4⟩:=bnd e2
 obtain ⟨a,ys,rfl,hq,ry⟩:=rv.list hs e1
 obtain ⟨u,rfl,ru⟩:=a3k r
 cases (show u=Value.ref a from ru)
 obtain ⟨its,r',pl,hz'⟩:=I.list hq
 have hh:X.A.in1.handled=none:=I.ok.hd hc
 have hlen:ys.length=its.length:=r'.length
 cases a0y ry e3
 cases ns with
 | nil=>cases e4
 | cons n r =>
  cases e4
  have hl2:its.length=r.length + 1:=by rw [← hlen]; simp
  have it:∀ (i:Nat) (v:Value),its.toArray[i]?=some v→∃ t,v=Value.int ((n :: r).getD i 0) t:=fun i v hv=>by
   have hv:its[i]?=some v:=by simpa using hv
   have hi:=(List.getElem?_eq_some_iff.mp hv).1
   obtain ⟨t,e⟩:=Vals.mapInt r' i (by simp; lia)
   rw [hv] at e
   exact ⟨t,Option.some.inj e⟩
  refine b5b (bt:=fun i j=>decide ((n :: r).getD j 0 < (n :: r).getD i 0)) hh pl.isList (by simp; lia) (fun i j u v s1 Q1 E1 _ hi hj q1=>?_) fun v h' tk hv hk=>?_
  ·obtain ⟨t1,rfl⟩:=it i u hi
   obtain ⟨t2,rfl⟩:=it j v hj
   exact PyProof.Rows.gt_int q1
  ·have hv:its[argBest (fun i j=>decide ((n :: r).getD j 0 < (n :: r).getD i 0)) (its.toArray.size - 1)]?=some v:=by simpa using hv
   have hb:=b2s n r r.length (Γi _)
   rw [List.take_length] at hb
   have hsz:its.toArray.size - 1=r.length:=by simp; lia
   rw [hsz] at hv
   generalize argBest (fun i j=>decide ((n :: r).getD j 0 < (n :: r).getD i 0)) r.length=z at hv hb
   obtain ⟨t,rfl⟩:=it z v (by simpa using hv)
   rw [List.getD_eq_getElem?_getD,hb]
   exact ⟨.int (a1v n r),H,I.kept (t':=tk) hk,⟨t,rfl⟩,k.int⟩
end
section
variable {X:Cx} {C:CC} {n:Nat} {sp:Γd→Nat→Sp} {a:Expr} {ea:EW} {pos p:Pos}
theorem d7p (G:Good X C n sp) (hg:C.gl (Γe "max")=true) (hs:a0g a=false) (ha:FR X C a ea):FE X C (.Call (.Name (Γe "max") p) [a] [] pos) (eUn c1f ea):=a8q (d1z G.calm) G (by decide) (by nofun) (by nofun) (by nofun) hg hs ha
end
@[scoped simp ↓] theorem f_maxI (v:FV) (Q:FV→Prop):wp (c1f v) Q↔wp (a1n v) fun xs=>wp (a0z xs) fun ns=>∃ n r,ns=n :: r∧Q (.int (a1v n r)):=by
 show wp ((a1n v).bind _) Q↔_
 simp only [a1p]
 have:∀ ns:List Int,wp (match ns with | n :: r=>some (FV.int (a1v n r)) | []=>none) Q↔∃ n r,ns=n :: r∧Q (.int (a1v n r)):=fun ns=>by
  cases ns with
  | nil=>exact ⟨fun h=>h.elim,fun ⟨n,r,e,_⟩=>nomatch e⟩
  | cons n r=>exact ⟨fun h=>⟨n,r,rfl,h⟩,fun ⟨n',r',e,h⟩=>by cases e; exact h⟩
 simp only [this]
end Kq
end
section
namespace PySem
section
variable {prog:Program} {w:World} {A:Around} {E:Value→Shared→Prop} {s:Shared}
end
end PySem
namespace Kq
open PySem PySem.Spec PyProof.Rows L2
section
variable {X:Cx} {a:Expr} {ta:TA} {p p2 pos pos2:Pos}
end
noncomputable def revTF (v:FV):Option FV:=(a1n v).map fun xs=>.tup xs.reverse
end Kq
end
section
namespace Kq
open PySem PySem.Spec PyProof.Rows L2
section
variable {P:Program} {w:World} {A:Around} {E:Value→Shared→Prop} {s:Shared}
end
noncomputable def b5x (v:FV):Option FV:=(a3o v).bind fun xs=>(c2v xs).map .int
section
variable {X:Cx}
theorem b4z (hc:X.calm=true):a1b X (.builtin "sum") (fun xs H Q=>∃ (a:Addr) (ns:List Int),xs=[.ref a]∧SqT X.K H a (ns.map V.int)∧ns.length≤big∧(∀ n∈ns,-(2 ^ 40)≤n∧n≤2 ^ 40)∧Q (.int ns.sum) H):=by
 intro pins s σ H xs us Q I r h
 obtain ⟨a,ns,rfl,hq,hz,hb,q⟩:=h
 obtain ⟨u,rfl,rx⟩:=a3k r
 cases rx
 obtain ⟨its,r',pl,hz'⟩:=I.tuple hq
 have hlen:ns.length=its.length:=by have:=r'.length; simpa using this
 have pt:s.heap.IsTuple a its.toArray:=pl
 have alt:a < s.heap.objs.size:=by obtain ⟨_,e,_⟩:=pt; exact Γl e
 have hh:X.A.in1.handled=none:=I.ok.hd hc
 refine call_sum_walk (wpAny_pyIter_tuple pt ?_)
 refine ⟨s.heap.objs.size,_,_,_,_,_,fun i=>ns.getD i 0,rfl,Walks.tuple hh s.heap.objs.size a (Γo alt) its.toArray,⟨⟨_,Γm _ rfl,rfl,rfl⟩,pt.at fun o e=>Γc _ e⟩,?_,?_,?_,?_⟩
 ·intro b hb'
  simp at hb'
  rcases hb' with rfl | rfl
  ·show _ < (s.heap.push _).objs.size; rw [Heap.size_push]; exact Nat.lt_succ_self _
  ·show _ < (s.heap.push _).objs.size; rw [Heap.size_push]; exact Nat.lt_succ_of_lt alt
 ·intro i v hv
  have hv:its.toArray[i]?=some v:=hv
  have hi:i < ns.length:=by rw [hlen]; simpa using (Array.getElem?_eq_some_iff.mp hv).1
  obtain ⟨t,e⟩:=Vals.mapInt r' i hi
  refine ⟨t,?_⟩
  have e':its.toArray[i]?=some (.int (ns.getD i 0) t):=by simpa using e
  rw [hv] at e'
  exact Option.some.inj e'
 ·intro j hj
  have hj':j < ns.length:=by rw [hlen]; simpa using hj
  have hm:ns.getD j 0∈ns:=by simp [List.getD,hj']
  refine ⟨?_,?_⟩
  ·have:=hb _ hm
   show -(2 ^ 63)≤ns.getD j 0∧ns.getD j 0 < 2 ^ 63
   lia
  ·rw [a1t ns (j + 1) hj']
   have b2:=b5v 1099511627776 (by decide) (ns.take (j + 1)) fun n hn=>by have:=hb n (List.mem_of_mem_take hn); lia
   have l2:(ns.take (j + 1)).length≤100000:=by rw [List.length_take]; unfold big at hz; lia
   unfold InLong; lia
 ·intro h' tk t' hk
  have e:preSum (fun i=>ns.getD i 0) its.toArray.size=ns.sum:=by
   rw [List.size_toArray,← hlen,a1t ns _ (Γi _),List.take_length]
  rw [e]
  refine ⟨.int ns.sum,H,?_,⟨t',rfl⟩,q⟩
  exact I.kept (t':=tk) fun b o e=>hk b o (by simp; exact Γo (Γl e)) (Γc _ e)
theorem d1v (hc:X.calm=true):a1b X (.builtin "sum") (Rc X.K b5x):=by
 rintro pins s σ H xs us Q I r ⟨S,v,x,z,rfl,hs,rv,e,k⟩
 cases v with
 | tup ps =>
  obtain ⟨n,e3,rfl⟩:=mpd e
  obtain ⟨ns,e4,e5⟩:=bnd e3
  obtain ⟨hb,rfl⟩:=itd e5
  obtain ⟨a,ys,rfl,hq,ry⟩:=rv.tup hs
  cases a0y ry e4
  refine b4z hc pins s σ H _ us Q I r ⟨a,ns,rfl,SqT.of hq,hb.1,fun n hn=>?_,k.int⟩
  have:=List.all_eq_true.mp hb.2 n hn
  simpa [a5k] using this
 | lst ps=>exact c6w hc pins s σ H _ us Q I r ⟨S,.lst ps,x,z,rfl,hs,rv,e,k⟩
 | scr ps=>exact c6w hc pins s σ H _ us Q I r ⟨S,.scr ps,x,z,rfl,hs,rv,e,k⟩
 | _=>cases e
end
section
variable {X:Cx} {C:CC} {n:Nat} {sp:Γd→Nat→Sp} {a:Expr} {ea:EW} {pos p:Pos}
theorem d7l (G:Good X C n sp) (hg:C.gl (Γe "sum")=true) (hs:a0g a=false) (ha:FR X C a ea):FE X C (.Call (.Name (Γe "sum") p) [a] [] pos) (eUn b5x ea):=a8q (d1v G.calm) G (by decide) (by nofun) (by nofun) (by nofun) hg hs ha
end
@[scoped simp ↓] theorem f_sum2 (v:FV) (Q:FV→Prop):wp (b5x v) Q↔wp (a3o v) fun xs=>wp (c2v xs) fun n=>Q (.int n):=by
 show wp ((a3o v).bind _) Q↔_
 simp only [a1p,a1y]
noncomputable def d6j {α:Type} (xs:List α) (k:Nat) (y:α):List α:=xs.take k++y :: xs.drop k
noncomputable def insF (v:FV) (ys:List FV):Option FV:=match ys with
 | [i,y]=>(a6w v).bind fun xs=>(a2t i).bind fun k=>if 0≤k∧k < 4611686018427387904∧xs.length < big then some (.lst (d6j xs k.toNat y)) else none
 | _=>none
noncomputable def eMethA (f:FV→List FV→Option FV) (i:Nat) (as:AW):EW:=fun L Q=>wp (lk L i) fun v=>wp (a6w v) fun _=>as L fun ys L1=>wp (lk L1 i) fun x=>wp (f x ys) fun z=>Q .non (L1.set i (some z))
section
variable {X:Cx}
theorem Vals.take:∀ {xs:List V} {us:List Value} (k:Nat),Vals xs us→Vals (xs.take k) (us.take k)
 | _,_,0,_=>.nil
 | _,_,k + 1,.nil=>.nil
 | _,_,k + 1,.cons r t=>.cons r (Vals.take k t)
theorem Vals.drop:∀ {xs:List V} {us:List Value} (k:Nat),Vals xs us→Vals (xs.drop k) (us.drop k)
 | _,_,0,h=>h
 | _,_,k + 1,.nil=>.nil
 | _,_,k + 1,.cons r t=>Vals.drop k t
end
section
variable {K:Γd} {S:Hp}
theorem RVs.ins {ps:List FV} {vs:List V} {p:FV} {v:V} (k:Nat) (h:RVs K S ps vs) (hp:RV K S p v):RVs K S (d6j ps k p) (d6j vs k v) :=
 (h.take k).append (show RVs K S (p :: ps.drop k) (v :: vs.drop k) from ⟨v,_,rfl,hp,h.drop k⟩)
end
section
variable {X:Cx} {C:CC} {n:Nat} {sp:Γd→Nat→Sp} {a b:Expr} {as:AW} {nx:Str} {p:Pos} {i:Nat}
end
end Kq
end
section
namespace PySem
open Sem (wp)
end PySem
namespace Kq
open PySem PySem.Spec PyProof.Rows L2
section
variable {P:Program} {w:World} {A:Around} {R:Result→Shared→Prop} {H:Hp} {h0:Heap} {it l D:Addr} {items:Array Value}
end
section
variable {X:Cx} {pins:List (Addr×Obj)} {σ:L2.St} {H:Hp} {s:Shared} {A:Around} {E:Value→Shared→Prop}
end
end Kq
end
section
namespace Kq
open PySem PySem.Spec PyProof.Rows L2
noncomputable def c9h:FV→Option (List Int×FV)
 | .tup [.tup ks,v]=>(a0z ks).map fun k=>(k,v)
 | _=>none
noncomputable def c3d:List FV→Option (List (List Int×FV))
 | []=>some []
 | x :: r=>(c9h x).bind fun p=>(c3d r).map fun q=>p :: q
noncomputable def b6g {α:Type}:List (List Int×α)→List (List Int)→List α→List (List Int)×List α
 | [],ks,vs=>(ks,vs)
 | p :: r,ks,vs=>b6g r (a3q ks vs p.1 p.2).1 (a3q ks vs p.1 p.2).2
noncomputable def dictF (v:FV):Option FV:=(a1n v).bind fun xs=>(c3d xs).bind fun ps=>some (.dct (b6g ps [] []).1 (b6g ps [] []).2)
section
variable {K:Γd} {S:Hp}
end
section
variable {X:Cx}
end
section
variable {X:Cx} {C:CC} {n:Nat} {sp:Γd→Nat→Sp} {a b:Expr} {ea eb:EW} {pos p:Pos}
end
noncomputable def iZipN (i:Nat) (eb:EW):AW:=fun L Q=>wp (lk L i) fun _=>eb L fun y L1=>wp (lk L1 i) fun x=>wp (a3o x) fun xs=>wp (a3o y) fun ys=>Q (a2d xs ys) L1
section
variable {X:Cx} {C:CC} {n:Nat} {sp:Γd→Nat→Sp} {b:Expr} {eb:EW} {pos p p2 tp:Pos} {i kk:Nat} {nx:Str} {elts:List Expr}
end
end Kq
end
section
namespace L2
open PySem PySem.Spec PyProof.Rows
noncomputable def a1e (h:Heap) (z TI TO:Addr) (f m:Value):Prop:=h.get? z=some { cls:=.type "zip",data:=.fields #[f,m,.bool false,.ref TI,.ref TO] }
theorem a4t {M:Model} {A:Around} {E:Value→Shared→Prop} {s:Shared} {a:Addr} {Q:Option Obj→Shared→Prop} (h:Q (s.heap.get? a) s):wpAny M A (loadIfAlive a) Q E s:=fun _ _ _=>h
section
variable {P:Program} {w:World} {A:Around} {E:Value→Shared→Prop} {s:Shared} {z TI TO:Addr} {f m:Value}
theorem b2b (zz:a1e s.heap z TI TO f m) (hf:f=.none ∨ ∃ n,f=.int n 0) (hm:∃ c,m=.bool c):wpAny (model P w) A (Builtin.SmallTypes.ownedTupleIsFree (.ref z)) (fun r s'=>(r=true∧s'=s) ∨ (r=false∧∃ g m',(∃ c,m'=.bool c)∧s' = { s with heap:=g }∧a1e g z TI TO f m'∧Heap.SameBut z s.heap g)) (fun _ _=>False) s:=by
 unfold Builtin.SmallTypes.ownedTupleIsFree
 refine Γa (wpAny_field zz rfl (x:=f) rfl ?_)
 rcases hf with rfl | ⟨n,rfl⟩
 ·exact Γb (.inl ⟨rfl,rfl⟩)
 ·refine Γa (a4t ?_)
  cases e:s.heap.get? n.toNat with
  | none=>exact Γb (.inl ⟨rfl,rfl⟩)
  | some o =>
   rw [if_neg (by exact Γk)]
   refine Γa (wpAny_field zz rfl (x:=m) rfl ?_)
   obtain ⟨c,rfl⟩:=hm
   cases c with
   | true =>
    rw [if_neg (by decide)]
    exact Γb (.inr ⟨rfl,s.heap,_,⟨_,rfl⟩,rfl,zz,rfl,fun b hb=>rfl⟩)
   | false =>
    rw [if_pos (by decide)]
    refine Γa (wpAny_setField_rec zz (by simp) fun g1 z1 b1=>Γb (.inr ⟨rfl,g1,.bool true,⟨_,rfl⟩,rfl,z1,b1⟩))
end
section
variable {P:Program} {w:World} {A:Around} {E:Value→Shared→Prop} {s:Shared} {p q:Bool} {z TI TO i1 i2 l1 l2:Addr} {k1 k2:Nat} {xs ys:Array Value} {x y a b f m:Value}
theorem b5i {Q:Value→Shared→Prop} (D:ZipApart z TI TO i1 i2 l1 l2) (zz:a1e s.heap z TI TO f m) (hf:f=.none ∨ ∃ n,f=.int n 0) (hm:∃ c,m=.bool c) (zi:IsPair s.heap TI (.ref i1) (.ref i2)) (zo:IsPair s.heap TO a b)
  (t1:IterB p s.heap i1 l1 k1) (t2:IterB q s.heap i2 l2 k2) (m1:SeqB p s.heap l1 xs) (m2:SeqB q s.heap l2 ys) (ex:xs[k1]?=some x) (ey:ys[k2]?=some y)
  (K:∀ h' f' m',(f'=.none ∨ ∃ n,f'=.int n 0)→(∃ c,m'=.bool c)→a1e h' z TI TO f' m'→(∃ c d,IsPair h' TO c d)→IterB p h' i1 l1 (k1 + 1)→IterB q h' i2 l2 (k2 + 1)→IsPair h' s.heap.objs.size x y →
   (∀ c o,c≠z→c≠TO→c≠i1→c≠i2→s.heap.get? c=some o→h'.get? c=some o)→Q (.ref s.heap.objs.size) { s with heap:=h' }) :
  wpAny (model P w) A (Builtin.«zip.__next__» ⟨[.ref z],[]⟩) (fun fin s'=>∃ v,fin=.done (.ret v)∧Q v s') E s:=by
 show wpAny _ _ (field (.ref z) 2 >>= _) _ _ _; refine Γa (wpAny_field zz rfl (x:=.bool false) rfl ?_)
 show wpAny _ _ (field (.ref z) 3 >>= _) _ _ _; refine Γa (wpAny_field zz rfl (x:=.ref TI) rfl (Γa (wpAny_seqItems zi rfl ?_)))
 show wpAny _ _ (Builtin.SmallTypes.ownedTupleIsFree (.ref z) >>= _) _ _ _
 refine Γa (wpAny_mono (b2b zz hf hm) ?_ fun _ _ h=>h.elim)
 rintro r s' (⟨hr,hs'⟩ | ⟨hr,g,m',hm',hs',zz',b0⟩)
 ·rw [hs',hr]; simp only [if_true]
  refine Γa (wpAny_rule (Γa (wpAny_field zz rfl (x:=.ref TO) rfl (Γa (wpAny_setField_rec zz (by simp) fun g1 z1 b1=>?_)))))
  replace z1:a1e g1 z TI TO .ellipsis m:=z1
  refine Γa ?_; simp only [List.zipIdx_cons,List.zipIdx_nil,List.forIn_cons,List.forIn_nil]
  refine Γa (Γa (wpAny_onRaise ?_)); show wpAny _ _ (Builtin.SmallTypes.nextOf (.ref i1) >>= _) _ _ _
  refine Γa (a8a (t1.move b1.extBut D.i1z) (m1.move b1.extBut D.l1z) ex fun g2 t12 b2=>Γb ?_)
  have o2:IsPair g2 TO a b:=b2.extBut _ _ D.TOi1 (b1.extBut _ _ D.TOz zo)
  refine Γa (wpAny_seqItems o2 rfl (Γa (wpAny_updateSeq_pair o2 fun g3 o3 b3=>?_)))
  replace o3:IsPair g3 TO x b:=o3
  refine Γa (wpAny_letGo (Γb (Γa (Γa (wpAny_onRaise ?_))))); show wpAny _ _ (Builtin.SmallTypes.nextOf (.ref i2) >>= _) _ _ _
  refine Γa (a8a (((t2.move b1.extBut D.i2z).move b2.extBut D.i12.symm).move b3.extBut D.TOi2.symm) (((m2.move b1.extBut D.l2z).move b2.extBut D.l2i1).move b3.extBut D.l2TO) ey fun g4 t24 b4=>Γb ?_)
  have o4:IsPair g4 TO x b:=b4.extBut _ _ D.TOi2 o3
  refine Γa (wpAny_seqItems o4 rfl (Γa (wpAny_updateSeq_pair o4 fun g5 o5 b5=>?_)))
  replace o5:IsPair g5 TO x y:=o5
  refine Γa (wpAny_letGo (Γb (Γb (Γa (wpAny_seqItems o5 rfl (Γa (wpAny_newTuple ?_)))))))
  have sz:g5.objs.size=s.heap.objs.size:=by rw [b5.1,b4.1,b3.1,b2.1,b1.1]
  have z5:a1e g5 z TI TO .ellipsis m:=b5.extBut _ _ D.TOz.symm (b4.extBut _ _ D.i2z.symm (b3.extBut _ _ D.TOz.symm (b2.extBut _ _ D.i1z.symm z1)))
  have kk:∀ c o,c≠z→c≠TO→c≠i1→c≠i2→s.heap.get? c=some o→g5.get? c=some o:=fun c o c1 c2 c3 c4 e=>b5.extBut _ _ c2 (b4.extBut _ _ c4 (b3.extBut _ _ c2 (b2.extBut _ _ c3 (b1.extBut _ _ c1 e))))
  have t15:IterB p g5 i1 l1 (k1 + 1):=((t12.move b3.extBut D.TOi1.symm).move b4.extBut D.i12).move b5.extBut D.TOi1.symm
  have t25:IterB q g5 i2 l2 (k2 + 1):=t24.move b5.extBut D.TOi2.symm
  have zlt:z < g5.objs.size:=Γl z5
  show wpAny _ _ (Builtin.SmallTypes.ownedTupleHandOut (.ref z) (.ref g5.objs.size) >>= _) _ _ _; refine Γa ?_; unfold Builtin.SmallTypes.ownedTupleHandOut
  have z6:a1e (g5.push { cls:=.type "tuple",data:=.seq #[x,y] }) z TI TO .ellipsis m:=Γc _ z5
  refine Γa (wpAny_setField_rec z6 (by simp) fun g7 z7 b7=>?_); replace z7:a1e g7 z TI TO (rawInt g5.objs.size) m:=z7
  refine wpAny_setField_rec z7 (by simp) fun g8 z8 b8=>?_; replace z8:a1e g8 z TI TO (rawInt g5.objs.size) (.bool false):=z8
  have up:∀ c o,c≠z→g5.get? c=some o→g8.get? c=some o:=fun c o c1 e=>b8.extBut _ _ c1 (b7.extBut _ _ c1 (Γc _ e))
  have tt:IsPair g8 g5.objs.size x y:=b8.extBut _ _ (Nat.ne_of_gt zlt) (b7.extBut _ _ (Nat.ne_of_gt zlt) (Γm _ rfl))
  rw [sz] at z8 tt
  refine Γb ⟨_,rfl,?_⟩; show Q (.ref g5.objs.size) _; rw [sz]
  exact K g8 _ _ (.inr ⟨_,rfl⟩) ⟨_,rfl⟩ z8 ⟨_,_,up _ _ D.TOz o5⟩ (t15.to fun o e=>up _ o D.i1z e) (t25.to fun o e=>up _ o D.i2z e) tt fun c o c1 c2 c3 c4 e=>up c o c1 (kk c o c1 c2 c3 c4 e)
 ·rw [hs',hr]; simp only [Γp,if_false]
  refine Γa ?_
  rw [← Array.forIn_toList]
  simp only [List.forIn_cons,List.forIn_nil]
  refine Γa (Γa (Γg ?_)); show wpAny _ _ (Builtin.SmallTypes.nextOf (.ref i1) >>= _) _ _ _
  refine Γa (a8a (t1.move b0.extBut D.i1z) (m1.move b0.extBut D.l1z) ex fun g2 t12 b2=>Γb (Γb ?_))
  refine Γa (Γa (Γg ?_)); show wpAny _ _ (Builtin.SmallTypes.nextOf (.ref i2) >>= _) _ _ _
  refine Γa (a8a ((t2.move b0.extBut D.i2z).move b2.extBut D.i12.symm) ((m2.move b0.extBut D.l2z).move b2.extBut D.l2i1) ey fun g4 t24 b4=>Γb (Γb (Γb ?_)))
  show wpAny _ _ (newTuple [x,y] >>= _) _ _ _
  refine Γa (wpAny_newTuple (Γb ⟨_,rfl,?_⟩))
  have sz:g4.objs.size=s.heap.objs.size:=by rw [b4.1,b2.1,b0.1]
  show Q (.ref g4.objs.size) _
  have tt:IsPair (g4.push { cls:=.type "tuple",data:=.seq #[x,y] }) g4.objs.size x y:=Γm _ rfl
  rw [sz] at tt
  rw [sz]
  have z4:a1e g4 z TI TO f m':=b4.extBut _ _ D.i2z.symm (b2.extBut _ _ D.i1z.symm zz')
  refine K _ f m' hf hm' (Γc _ z4) ⟨a,b,Γc _ (b4.extBut _ _ D.TOi2 (b2.extBut _ _ D.TOi1 (b0.extBut _ _ D.TOz zo)))⟩ ((t12.move b4.extBut D.i12).to fun o e=>Γc _ e) (t24.to fun o e=>Γc _ e) tt fun c o c1 c2 c3 c4 e=>Γc _ (b4.extBut _ _ c4 (b2.extBut _ _ c3 (b0.extBut _ _ c1 e)))
theorem b9z {Q:Fin→Shared→Prop} (hh:A.handled=none) (D:ZipApart z TI TO i1 i2 l1 l2) (zz:a1e s.heap z TI TO f m) (hf:f=.none ∨ ∃ n,f=.int n 0) (hm:∃ c,m=.bool c) (zi:IsPair s.heap TI (.ref i1) (.ref i2)) (zo:IsPair s.heap TO a b)
  (t1:IterB p s.heap i1 l1 k1) (t2:IterB q s.heap i2 l2 k2) (m1:SeqB p s.heap l1 xs) (m2:SeqB q s.heap l2 ys) (en:xs[k1]?=none ∨ ys[k2]?=none)
  (K:∀ h' e,(∀ c o,c≠z→c≠TO→c≠i1→c≠i2→s.heap.get? c=some o→h'.get? c=some o)→(∃ o,h'.get? e=some o∧o.cls=.type "StopIteration")→E (.ref e) { s with heap:=h' }) :
  wpAny (model P w) A (Builtin.«zip.__next__» ⟨[.ref z],[]⟩) Q E s:=by
 show wpAny _ _ (field (.ref z) 2 >>= _) _ _ _; refine Γa (wpAny_field zz rfl (x:=.bool false) rfl ?_)
 show wpAny _ _ (field (.ref z) 3 >>= _) _ _ _; refine Γa (wpAny_field zz rfl (x:=.ref TI) rfl (Γa (wpAny_seqItems zi rfl ?_)))
 show wpAny _ _ (Builtin.SmallTypes.ownedTupleIsFree (.ref z) >>= _) _ _ _
 refine Γa (wpAny_mono (b2b zz hf hm) ?_ fun _ _ h=>h.elim)
 rintro r s' (⟨hr,hs'⟩ | ⟨hr,g,m',hm',hs',zz',b0⟩)
 ·rw [hs',hr]; simp only [if_true]
  refine Γa (wpAny_rule (Γa (wpAny_field zz rfl (x:=.ref TO) rfl (Γa (wpAny_setField_rec zz (by simp) fun g1 z1 b1=>?_)))))
  replace z1:a1e g1 z TI TO .ellipsis m:=z1
  refine Γa ?_; simp only [List.zipIdx_cons,List.zipIdx_nil,List.forIn_cons,List.forIn_nil]
  refine Γa (Γa (wpAny_onRaise ?_)); show wpAny _ _ (Builtin.SmallTypes.nextOf (.ref i1) >>= _) _ _ _
  have fin:∀ {g:Heap} {e:Addr} {o:Obj},a1e g z TI TO .ellipsis m→g.get? e=some o→o.cls=.type "StopIteration"→e≠z:=fun h1 h2 h3 x=>by subst x; rw [h1] at h2; cases h2; simp at h3
  cases hx:xs[k1]? with
  | none =>
   refine Γa (b3z hh (t1.move b1.extBut D.i1z) (m1.move b1.extBut D.l1z) hx fun g2 e b2 he=>?_)
   obtain ⟨oe,e1,e2⟩:=he
   have z2:a1e g2 z TI TO .ellipsis m:=b2 _ _ D.i1z.symm z1
   exact wpAny_setField_rec z2 (by simp) fun g3 _ b3=>K g3 e (fun c o c1 _ c3 _ x=>b3.extBut _ _ c1 (b2 _ _ c3 (b1.extBut _ _ c1 x))) ⟨oe,b3.extBut _ _ (fin z2 e1 e2) e1,e2⟩
  | some x =>
   have hy:ys[k2]?=none:=by rcases en with h | h; rw [hx] at h; cases h; exact h
   refine Γa (a8a (t1.move b1.extBut D.i1z) (m1.move b1.extBut D.l1z) hx fun g2 t12 b2=>Γb ?_)
   have o2:IsPair g2 TO a b:=b2.extBut _ _ D.TOi1 (b1.extBut _ _ D.TOz zo)
   refine Γa (wpAny_seqItems o2 rfl (Γa (wpAny_updateSeq_pair o2 fun g3 o3 b3=>Γa (wpAny_letGo (Γb (Γa (Γa (wpAny_onRaise ?_))))))))
   show wpAny _ _ (Builtin.SmallTypes.nextOf (.ref i2) >>= _) _ _ _
   refine Γa (b3z hh (((t2.move b1.extBut D.i2z).move b2.extBut D.i12.symm).move b3.extBut D.TOi2.symm) (((m2.move b1.extBut D.l2z).move b2.extBut D.l2i1).move b3.extBut D.l2TO) hy fun g4 e b4 he=>?_)
   obtain ⟨oe,e1,e2⟩:=he
   have z4:a1e g4 z TI TO .ellipsis m:=b4 _ _ D.i2z.symm (b3.extBut _ _ D.TOz.symm (b2.extBut _ _ D.i1z.symm z1))
   exact wpAny_setField_rec z4 (by simp) fun g5 _ b5=>K g5 e (fun c o c1 c2 c3 c4 x=>b5.extBut _ _ c1 (b4 _ _ c4 (b3.extBut _ _ c2 (b2.extBut _ _ c3 (b1.extBut _ _ c1 x))))) ⟨oe,b5.extBut _ _ (fin z4 e1 e2) e1,e2⟩
 ·rw [hs',hr]; simp only [Γp,if_false]
  refine Γa ?_
  rw [← Array.forIn_toList]
  simp only [List.forIn_cons,List.forIn_nil]
  refine Γa (Γa (Γg ?_)); show wpAny _ _ (Builtin.SmallTypes.nextOf (.ref i1) >>= _) _ _ _
  cases hx:xs[k1]? with
  | none =>
   refine Γa (b3z hh (t1.move b0.extBut D.i1z) (m1.move b0.extBut D.l1z) hx fun g2 e b2 he=>?_)
   exact K g2 e (fun c o c1 _ c3 _ x=>b2 _ _ c3 (b0.extBut _ _ c1 x)) he
  | some x =>
   have hy:ys[k2]?=none:=by rcases en with h | h; rw [hx] at h; cases h; exact h
   refine Γa (a8a (t1.move b0.extBut D.i1z) (m1.move b0.extBut D.l1z) hx fun g2 t12 b2=>Γb (Γb ?_))
   refine Γa (Γa (Γg ?_)); show wpAny _ _ (Builtin.SmallTypes.nextOf (.ref i2) >>= _) _ _ _
   refine Γa (b3z hh ((t2.move b0.extBut D.i2z).move b2.extBut D.i12.symm) ((m2.move b0.extBut D.l2z).move b2.extBut D.l2i1) hy fun g4 e b4 he=>?_)
   exact K g4 e (fun c o c1 _ c3 c4 x=>b4 _ _ c4 (b2.extBut _ _ c3 (b0.extBut _ _ c1 x))) he
theorem b5h {Q:Option Value→Shared→Prop} (D:ZipApart z TI TO i1 i2 l1 l2) (zz:a1e s.heap z TI TO f m) (hf:f=.none ∨ ∃ n,f=.int n 0) (hm:∃ c,m=.bool c) (zi:IsPair s.heap TI (.ref i1) (.ref i2)) (zo:IsPair s.heap TO a b)
  (t1:IterB p s.heap i1 l1 k1) (t2:IterB q s.heap i2 l2 k2) (m1:SeqB p s.heap l1 xs) (m2:SeqB q s.heap l2 ys) (ex:xs[k1]?=some x) (ey:ys[k2]?=some y)
  (K:∀ h' f' m',(f'=.none ∨ ∃ n,f'=.int n 0)→(∃ c,m'=.bool c)→a1e h' z TI TO f' m'→(∃ c d,IsPair h' TO c d)→IterB p h' i1 l1 (k1 + 1)→IterB q h' i2 l2 (k2 + 1)→IsPair h' s.heap.objs.size x y →
   (∀ c o,c≠z→c≠TO→c≠i1→c≠i2→s.heap.get? c=some o→h'.get? c=some o)→Q (some (.ref s.heap.objs.size)) { s with heap:=h' }):wpAny (model P w) A (pyNext (.ref z)) Q E s:=by
 have ty:s.TypeIs (.ref z) "zip":=⟨_,zz,rfl⟩
 unfold pyNext
 exact Γa (wpAny_attempt (wpAny_callSpecial?_slot (name:=Γe "__next__") ty F.slot_zip_next (wpAny_call_entry F.slot_zip_next ty F.entry_zip_next (b5i D zz hf hm zi zo t1 t2 m1 m2 ex ey fun h' f' m' x1 x2 a1 a2 a3 a4 a5 a6=>Γb (K h' f' m' x1 x2 a1 a2 a3 a4 a5 a6)) (F.args_zip_next_1 _))))
theorem b5g {Q:Option Value→Shared→Prop} (hh:A.handled=none) (D:ZipApart z TI TO i1 i2 l1 l2) (zz:a1e s.heap z TI TO f m) (hf:f=.none ∨ ∃ n,f=.int n 0) (hm:∃ c,m=.bool c) (zi:IsPair s.heap TI (.ref i1) (.ref i2)) (zo:IsPair s.heap TO a b)
  (t1:IterB p s.heap i1 l1 k1) (t2:IterB q s.heap i2 l2 k2) (m1:SeqB p s.heap l1 xs) (m2:SeqB q s.heap l2 ys) (en:xs[k1]?=none ∨ ys[k2]?=none)
  (K:∀ h',(∀ c o,c≠z→c≠TO→c≠i1→c≠i2→s.heap.get? c=some o→h'.get? c=some o)→Q none { s with heap:=h' }):wpAny (model P w) A (pyNext (.ref z)) Q E s:=by
 have ty:s.TypeIs (.ref z) "zip":=⟨_,zz,rfl⟩
 unfold pyNext
 refine Γa (wpAny_attempt (wpAny_callSpecial?_slot (name:=Γe "__next__") ty F.slot_zip_next (wpAny_call_entry F.slot_zip_next ty F.entry_zip_next (b9z hh D zz hf hm zi zo t1 t2 m1 m2 en fun h' e hk he=>?_) (F.args_zip_next_1 _))))
 obtain ⟨o,e1,e2⟩:=he
 exact Γa (wpAny_isInstance (T:="StopIteration") (b:=true) ⟨o,e1,e2⟩ isSubtype_stop (Γb (K _ hk)))
end
theorem b1h {prog:Program} {w:World} {A:Around} {E:Value→Shared→Prop} {s:Shared} {z TI TO:Addr} {f m:Value} {Q:Value→Shared→Prop} (zz:a1e s.heap z TI TO f m) (h:Q (.ref z) s):wpAny (model prog w) A (pyIter (.ref z)) Q E s:=by
 have hT:s.TypeIs (.ref z) "zip":=⟨_,zz,rfl⟩
 refine wpAny_pyIter_slot hT F.slot_zip_iter (wpAny_call_entry F.slot_zip_iter hT F.entry_zip_iter ?_ (F.args_zip_iter_1 _))
 show wpAny _ _ (ret (.ref z)) _ _ s
 exact Γb ⟨_,rfl,"zip",_,hT,F.slot_zip_next.lookup,h⟩
section
variable {X:Cx}
end
end L2
end
section
namespace Kq
open PySem PySem.Spec PyProof.Rows L2
section
variable {X:Cx} {C:CC} {n:Nat} {sp:Γd→Nat→Sp} {a b:Expr} {ea eb:EW} {pos p tp:Pos} {nt:Str}
end
noncomputable def a7y (o:HO):Prop:=∀ xs,o≠.tup xs
theorem b6y {v:FV} {xs:List V}:a7y (c7k v xs):=fun ys z=>by cases v <;> cases z
mutual
noncomputable def noL:FV→Bool
 | .lst _=>false
 | .scr _=>false
 | .tup xs=>b4f xs
 | .dct _ _=>false
 | .dci _ _=>false
 | .dcz _ _ _=>false
 | _=>true
noncomputable def b4f:List FV→Bool
 | []=>true
 | x :: r=>noL x && b4f r
end
noncomputable def d2h (i:Nat) (r:AW):AW:=fun L Q=>wp (lk L i) fun _=>r L fun xs L1=>wp (lk L1 i) fun x=>Q (x :: xs) L1
noncomputable def b8m (call:CW) (f:Nat) (a:AW):EW:=fun L Q=>a L fun xs L1=>call f xs fun z=>noL z.1=true∧Q z.1 L1
noncomputable def b3l (call:CW) (f:Nat) (a:AW):EW:=fun L Q=>a L fun xs L1=>call f xs fun z=>wp (a6w z.1) fun ps=>b4f ps=true∧Q z.1 L1
noncomputable def RHs (K:Γd) (S H:Hp) (os:List Addr):List FV→List V→Prop
 | [],vs=>vs=[]
 | p :: ps,vs=>∃ v r,vs=v :: r∧(RV K S p v ∨ ∃ a,v=.ref a∧a∈os∧a3n K S H a p)∧RHs K S H os ps r
noncomputable def lah (K:Γd) (md:Md) (e:AW):TA:=fun σ H Q=>∃ c L S Q0,Iv K c md L σ S H∧e L Q0∧∀ v L',Q0 v L'→∀ x S' H' os,RHs K S' H' os v x→(∀ a∈os,S' a=none∧∃ o,H' a=some o∧a7y o)→Iv K c md L' σ S' H'→Same S S'→Q x H'
noncomputable def FAh (X:Cx) (C:CC) (x:List Expr) (e:AW):Prop:=PA X.nox x (lah X.K C.md e)
section
variable {K:Γd} {S H S' H':Hp} {os os':List Addr}
theorem RHs.more:∀ {ps:List FV} {vs:List V},RHs K S H os ps vs→(∀ a∈os,a∈os')→RHs K S H os' ps vs
 | [],vs,h,_=>h
 | p :: ps,vs,⟨v,r,e,h1,h2⟩,k=>⟨v,r,e,h1.imp_right fun ⟨a,e,m,o⟩=>⟨a,e,k a m,o⟩,RHs.more h2 k⟩
noncomputable def a4v (S H:Hp) (os:List Addr):Hp:=fun a=>if a∈os then H a else S a
theorem a4u (h:∀ a∈os,S a=none∧∃ o,H a=some o∧a7y o):Same S (a4v S H os):=fun a o e=>by
 unfold a4v
 by_cases m:a∈os
 ·rw [(h a m).1] at e; cases e
 ·rw [if_neg m]; exact e
theorem a9b (s:Same S H):Same (a4v S H os) H:=fun a o e=>by
 unfold a4v at e
 by_cases m:a∈os
 ·rw [if_pos m] at e; exact e
 ·rw [if_neg m] at e; exact s a o e
theorem RHs.vals (h:∀ a∈os,S a=none∧∃ o,H a=some o∧a7y o):∀ {ps:List FV} {vs:List V},RHs K S H os ps vs→RVs K (a4v S H os) ps vs
 | [],vs,e=>e
 | p :: ps,vs,⟨v,r,e,h1,h2⟩=>by
  refine ⟨v,r,e,?_,RHs.vals h h2⟩
  rcases h1 with h1 | ⟨a,rfl,m,o1,qs,xs,e9,o2,o3⟩
  ·exact h1.mono (a4u h)
  ·have o4:a4v S H os a=some (c7k p xs):=by unfold a4v; rw [if_pos m]; exact o2
   have o5:=o3.mono (a4u h)
   cases p with
   | lst ps=>cases e9; exact ⟨a,xs,rfl,o4,o5⟩
   | dct ks ws=>obtain ⟨hl,rfl⟩:=itd e9; exact ⟨a,xs,rfl,hl,o4,o5⟩
   | dci ks ws=>obtain ⟨hl,rfl⟩:=itd e9; exact ⟨a,xs,rfl,hl,o4,o5⟩
   | dcz o ks ws=>obtain ⟨hl,rfl⟩:=itd e9; exact ⟨a,xs,rfl,hl,o4,o5⟩
   | _=>cases e9
noncomputable def a6m (S:Hp) (os:List Addr):Hp:=fun a=>if a∈os then none else S a
mutual
theorem RV.less {K:Γd} {S:Hp} {os:List Addr} (h:∀ a∈os,∃ o,S a=some o∧a7y o):∀ {p:FV} {v:V},noL p=true→RV K S p v→RV K (a6m S os) p v
 | .non,v,_,e=>e
 | .bl b,v,_,e=>e
 | .int i,v,_,e=>e
 | .str _,v,_,e=>e
 | .shn _,v,_,e=>e
 | .tup ps,v,n,⟨a,xs,e,h1,h2⟩=>⟨a,xs,e,by
   unfold a6m
   rw [if_neg fun m=>by obtain ⟨zs,z,n⟩:=h a m; rw [z] at h1; cases h1; exact n _ rfl]; exact h1,RVs.less h (by simpa [noL] using n) h2⟩
 | .dct ks vs,v,n,_=>by simp [noL] at n
 | .dci ks vs,v,n,_=>by simp [noL] at n
 | .dcz _ ks vs,v,n,_=>by simp [noL] at n
 | .lst ps,v,n,_=>by simp [noL] at n
 | .scr ps,v,n,_=>by simp [noL] at n
theorem RVs.less {K:Γd} {S:Hp} {os:List Addr} (h:∀ a∈os,∃ o,S a=some o∧a7y o):∀ {ps:List FV} {vs:List V},b4f ps=true→RVs K S ps vs→RVs K (a6m S os) ps vs
 | [],vs,_,e=>e
 | p :: ps,vs,n,⟨v,r,e,h1,h2⟩=>by
  have n:noL p=true∧b4f ps=true:=by simpa [b4f] using n
  exact ⟨v,r,e,RV.less h n.1 h1,RVs.less h n.2 h2⟩
end
variable {c:Cn} {md:Md} {L:a0a} {σ:L2.St}
theorem b7l (I:Iv K c md L σ S H) (h:∀ a∈os,S a=none∧∃ o,H a=some o∧a7y o) {w:FV} (k:Kept K (a4v S H os) H S' H' none w):Iv K c md L σ (a6m S' os) H'∧Same S (a6m S' os):=by
 have s:Same S (a6m S' os):=fun a o e=>by
  unfold a6m
  by_cases m:a∈os
  ·rw [(h a m).1] at e; cases e
  ·rw [if_neg m]; exact k.same a o (a4u h a o e)
 refine ⟨I.go3 s (fun a o e=>?_) (fun a o e=>?_) fun a o e=>k.keep a o e (by simp),s⟩
 ·unfold a6m at e
  by_cases m:a∈os
  ·rw [if_pos m] at e; cases e
  ·rw [if_neg m] at e; exact k.sub a o e
 ·unfold a6m at e
  by_cases m:a∈os
  ·rw [if_pos m] at e; cases e
  ·rw [if_neg m] at e
   rcases k.grow a o e with e2 | e2
   ·unfold a4v at e2
    rw [if_neg m] at e2
    exact .inl e2
   ·exact .inr e2
theorem b7m (h:∀ a∈os,S a=none∧∃ o,H a=some o∧a7y o) {w:FV} (k:Kept K (a4v S H os) H S' H' none w):∀ a∈os,∃ o,S' a=some o∧a7y o:=fun a m=>by
 obtain ⟨o,e,n⟩:=(h a m).2
 exact ⟨o,k.same a _ (by unfold a4v; rw [if_pos m]; exact e),n⟩
end
section
variable {X:Cx} {C:CC} {n:Nat} {sp:Γd→Nat→Sp} {a:Expr} {ea:EW} {pos p:Pos} {call:CW} {f i:Nat} {nx:Str} {xs:List Expr} {as:AW}
theorem fah_of (h:FA X C xs as):FAh X C xs as:=PA.imp h fun σ H Q ⟨c,L,S,Q0,I,h,k⟩=>⟨c,L,S,Q0,I,h,fun v L' q x S' H' r I' s=>by
 have:∀ {ps:List FV} {vs:List V},RVs X.K S' ps vs→RHs X.K S' H' [] ps vs:=by
  intro ps
  induction ps with
  | nil=>intro vs h; exact h
  | cons p ps ih=>intro vs ⟨v,r,e,h1,h2⟩; exact ⟨v,r,e,.inl h1,ih h2⟩
 exact k v L' q x S' H' [] (this r) (fun a h=>by simp at h) I' s⟩
theorem d3j (hs:a0g a=false) (ha:FE X C a ea) (hr:FAh X C xs as):FAh X C (a :: xs) (a0b ea as):=PA.imp (a0h ha hr (a0d hs)) fun σ H Q ⟨c,L,S,Q0,I,h,k⟩ =>
 ⟨c,L,S,_,I,h,fun v L1 hv x S1 H1 r1 I1 s1=>⟨c,L1,S1,_,I1,hv,fun vs L2 hvs us S2 H2 os r2 ho I2 s2=>k _ L2 hvs _ S2 H2 os ⟨x,us,rfl,.inl (r1.mono s2),r2⟩ ho I2 (s1.trans s2)⟩⟩
theorem d8h (G:Good X C n sp) (h:C.nm i nx=true) (m:a0k C.md i≠.imm) (hr:FAh X C xs as):FAh X C (.Name nx p :: xs) (d2h i as):=PA.imp (a0h (a1g G h) hr (a0d rfl)) fun σ H Q ⟨c,L,S,Q0,I,h,k⟩=>by
 obtain ⟨v,e,h⟩:=wpx h
 have e:=(a2s _ _ _).mp e
 obtain ⟨l,e1,_,_⟩:=I.own i v m e
 refine ⟨_,e1,c,L,S,_,I,h,fun vs L2 hvs us S2 H2 os r2 ho I2 s2=>?_⟩
 obtain ⟨v2,e2,q⟩:=wpx hvs
 have e2:=(a2s _ _ _).mp e2
 obtain ⟨l2,f1,o,_⟩:=I2.own i v2 m e2
 rw [e1] at f1; cases f1
 refine k _ L2 q _ S2 H2 (l :: os) ⟨.ref l,us,rfl,.inr ⟨l,rfl,Γn,o⟩,r2.more fun a h=>Γh _ h⟩ (fun a ha=>?_) I2 s2
 rcases List.mem_cons.mp ha with rfl | ha
 ·obtain ⟨o1,qs,zs,_,o2,_⟩:=o
  exact ⟨o1,_,o2,b6y⟩
 ·exact ho a ha
theorem d3i (G:Good X C n sp) (e:sp X.K f=spQ X.K call false false f) (hf:C.fns[f]?=some nx) (hg:C.gl nx=true) (hd:(nx == ("__debug__":Str))=false) (hs:a2e (a :: xs)=true) (ha:FAh X C (a :: xs) as):FE X C (.Call (.Name nx p) (a :: xs) [] pos) (b8m call f as) :=
 PE.imp (a6d G hf hg hd hs ha) fun σ H Q ⟨c,L,S,Q0,I,h,k⟩=>⟨c,L,S,_,I,h,fun vs L1 hv us S1 H1 os r1 ho I1 s1=>by
  rw [e]
  refine ⟨a4v S1 H1 os,vs,_,a9b I1.sub,r1.vals ho,hv,fun z q x S' H' kp r=>?_⟩
  obtain ⟨I2,s2⟩:=b7l I1 ho kp
  exact k _ L1 q.2 x _ H' (RV.less (b7m ho kp) q.1 r) I2 (s1.trans s2)⟩
theorem d3c (G:Good X C n sp) (e:sp X.K f=spQ X.K call false true f) (hf:C.fns[f]?=some nx) (hg:C.gl nx=true) (hd:(nx == ("__debug__":Str))=false) (hs:a2e (a :: xs)=true) (ha:FAh X C (a :: xs) as):FF X C (.Call (.Name nx p) (a :: xs) [] pos) (b3l call f as) :=
 PE.imp (a6d G hf hg hd hs ha) fun σ H Q ⟨c,L,S,Q0,I,h,k⟩=>⟨c,L,S,_,I,h,fun vs L1 hv us S1 H1 os r1 ho I1 s1=>by
  rw [e]
  refine ⟨a4v S1 H1 os,vs,_,a9b I1.sub,r1.vals ho,hv,fun z q x S' H' kp r=>?_⟩
  obtain ⟨z1,z2⟩:=z
  obtain ⟨a,rfl,⟨o1,ps,zs,ez,o2,o3⟩,hn⟩:=r
  obtain ⟨ps',e1,e2,q⟩:=wpx q
  cases a3s e1
  cases ez
  obtain ⟨I2,s2⟩:=b7l I1 ho kp
  have ha':a ∉ os:=fun m=>by obtain ⟨_,zs,e,_⟩:=ho a m; rw [hn] at e; cases e
  exact k _ L1 q a _ H' ⟨by unfold a6m; rw [if_neg ha']; exact o1,_,zs,rfl,o2,RVs.less (b7m ho kp) e2 o3⟩ (I1.fresh hn) I2 (s1.trans s2)⟩
end
@[scoped simp ↓] theorem d9o (i:Nat) (r:AW) (L:a0a) (Q:List FV→a0a→Prop):d2h i r L Q=(wp (lk L i) fun _=>r L fun xs L1=>wp (lk L1 i) fun x=>Q (x :: xs) L1):=propext Iff.rfl
@[scoped simp ↓] theorem d1l (call:CW) (f:Nat) (a:AW) (L:a0a) (Q:FV→a0a→Prop):b8m call f a L Q=(a L fun xs L1=>call f xs fun z=>noL z.1=true∧Q z.1 L1):=propext Iff.rfl
@[scoped simp ↓] theorem d1k (call:CW) (f:Nat) (a:AW) (L:a0a) (Q:FV→a0a→Prop):b3l call f a L Q=(a L fun xs L1=>call f xs fun z=>wp (a6w z.1) fun ps=>b4f ps=true∧Q z.1 L1):=propext Iff.rfl
@[scoped simp] theorem noL_bl (b:Bool):noL (.bl b)=true:=by simp [noL]
@[scoped simp] theorem d5y (b:Int):noL (.int b)=true:=by simp [noL]
@[scoped simp] theorem d2q:b4f []=true:=by simp [b4f]
@[scoped simp] theorem c9r (x:FV) (r:List FV):b4f (x :: r)=(noL x && b4f r):=by simp [b4f]
theorem a7z {α:Type} (f:α→FV) (h:∀ x,noL (f x)=true):∀ xs:List α,b4f (xs.map f)=true
 | []=>by simp
 | x :: r=>by simp [h x,a7z f h r]
noncomputable def d4u (v:FV):Option FV:=(a6w v).map fun xs=>.lst xs.reverse
noncomputable def b8k (f:FV→Option FV) (i:Nat):EW:=fun L Q=>wp (lk L i) fun x=>wp (f x) fun z=>Q .non (L.set i (some z))
section
variable {X:Cx} {C:CC} {n:Nat} {sp:Γd→Nat→Sp} {pos p:Pos} {call:CW} {f i:Nat} {nx:Str}
theorem c7l (G:Good X C n sp) {apos cpos:Pos} (h:C.nm i nx=true) (m:a0k C.md i=.own) (hl:d9b apos cpos=true):FE X C (.Call (.Attribute (.Name nx p) (Γe "reverse") apos) [] [] cpos) (b8k d4u i):=by
 refine PE.imp (c9f PySem.F.plainAttrs_list PySem.F.slot_list_reverse PySem.F.type_list_reverse b4g (a1g G h) rfl hl) fun σ H Q ⟨c,L,S,Q0,I,h,k⟩=>?_
 obtain ⟨v,e,h⟩:=wpx h
 obtain ⟨z,e3,q⟩:=wpx h
 have e':=(a2s _ _ _).mp e
 have mi:a0k C.md i≠.imm:=fun z=>by rw [m] at z; cases z
 obtain ⟨l,e1,⟨o1,ps,xs,e9,h1,h2⟩,_⟩:=I.own i v mi e'
 obtain ⟨qs,e4,rfl⟩:=mpd e3
 cases a3s e4
 cases e9
 refine ⟨_,e1,.inl ⟨rfl,xs,SqL.of h1⟩,?_⟩
 exact ⟨l,xs,rfl,rfl,h1,k _ _ q .non S _ rfl (I.write m e' e1 h2.rev) (Same.refl S)⟩
end
@[scoped simp ↓] theorem d1g (f:FV→Option FV) (i:Nat) (L:a0a) (Q:FV→a0a→Prop):b8k f i L Q=(wp (lk L i) fun x=>wp (f x) fun z=>Q .non (L.set i (some z))):=propext Iff.rfl
@[scoped simp ↓] theorem k_rev (xs:List FV) (Q:FV→Prop):wp (d4u (.lst xs)) Q↔Q (.lst xs.reverse):=Iff.rfl
end Kq
end
section
namespace Kq
open PySem PySem.Spec PyProof.Rows L2 PySem.W
noncomputable def Lv {α:Type} (n:Nat) (P:α→Prop):KasT α→Prop
 | .ret a=>P a
 | .ask i j k=>i < n∧j < n∧∀ b,Lv n P (k b)
theorem Lv.mono {α:Type} {n:Nat} {P P':α→Prop} (h:∀ a,P a→P' a):∀ {t:KasT α},Lv n P t→Lv n P' t
 | .ret a,x=>h a x
 | .ask i j k,x=>⟨x.1,x.2.1,fun b=>Lv.mono h (x.2.2 b)⟩
theorem Lv.bind {α β:Type} {n:Nat} {P:α→Prop} {P':β→Prop} {f:α→KasT β} (h:∀ a,P a→Lv n P' (f a)):∀ {t:KasT α},Lv n P t→Lv n P' (t.bind f)
 | .ret a,x=>h a x
 | .ask i j k,x=>⟨x.1,x.2.1,fun b=>Lv.bind h (x.2.2 b)⟩
section
variable {n:Nat}
end
noncomputable def IntTup (h:Heap) (v:Value):Prop:=∃ (a:Addr) (o:Obj) (us:List Value) (n:Nat) (k:Int) (ks:List Int),v=.ref a∧h.get? a=some o∧o.cls=.type "tuple"∧o.data=.seq us.toArray n∧Vals ((k :: ks).map V.int) us
theorem IntTup.keep {h h':Heap} {v:Value} (x:IntTup h v) (k:∀ b o,h.get? b=some o→h'.get? b=some o):IntTup h' v:=by
 obtain ⟨a,o,us,n,i,ks,e,h1,h2⟩:=x
 exact ⟨a,o,us,n,i,ks,e,k _ _ h1,h2⟩
section
variable {prog:Program} {w:World} {A:Around} {E:Value→Shared→Prop} {s:Shared} {vs:List Value}
theorem b3e {h:Heap}:∀ {vs:List Value},(∀ v∈vs,IntTup h v)→∃ fs:List Value,KatTups h vs fs∧fs.length=vs.length∧∀ f∈fs,∃ k t,f=.int k t
 | [],_=>⟨[],trivial,rfl,by simp⟩
 | v :: vs,hv=>by
  obtain ⟨a,o,us,n,k,ks,rfl,h1,h2,h3,h4⟩:=hv v (by simp)
  obtain ⟨fs,g1,g2,g3⟩:=b3e fun x hx=>hv x (Γh _ hx)
  cases h4 with
  | @cons _ u _ us' r1 h4 =>
  obtain ⟨t1,rfl⟩:=r1
  exact ⟨.int k t1 :: fs,KatTups.cons h1 h2 h3 (by simp) g1,by simp [g2],fun f hf=>by
   rcases List.mem_cons.mp hf with rfl | hf
   ·exact ⟨_,_,rfl⟩
   ·exact g3 f hf⟩
end
end Kq
end
section
namespace Kq
open PySem PySem.Spec PyProof.Rows L2
noncomputable def a1z:List FV→Bool
 | []=>true
 | .tup ps :: r=>(match a0z ps with | some (_ :: _)=>true | _=>false) && a1z r
 | _=>false
noncomputable def d8m (a:EW):EW:=fun L Q=>a L fun v L1=>wp (a1n v) fun xs=>a1z xs=true∧2≤xs.length∧xs.length < 64∧∀ ys:List FV,ys.Perm xs→Q (.lst ys) L1
theorem Vals.perm {us us':List Value} (p:us'.Perm us):∀ {ys:List V},Vals ys us→∃ zs,zs.Perm ys∧Vals zs us':=by
 induction p with
 | nil=>intro ys h; exact ⟨ys,.refl _,h⟩
 | cons x p ih =>
  intro ys h
  cases h with
  | @cons y _ ys' _ r h =>
  obtain ⟨zs,e,g⟩:=ih h
  exact ⟨y :: zs,e.cons y,.cons r g⟩
 | swap x y l =>
  intro ys h
  cases h with
  | @cons a _ ys' _ r h =>
  cases h with
  | @cons b _ ys'' _ r' h =>
  exact ⟨b :: a :: ys'',.swap a b ys'',.cons r' (.cons r h)⟩
 | trans p q ih1 ih2 =>
  intro ys h
  obtain ⟨zs,e,g⟩:=ih2 h
  obtain ⟨ws,e',g'⟩:=ih1 g
  exact ⟨ws,e'.trans e,g'⟩
section
variable {K:Γd} {S:Hp}
theorem RVs.perm {vs vs':List V} (p:vs'.Perm vs):∀ {ps:List FV},RVs K S ps vs→∃ qs,qs.Perm ps∧RVs K S qs vs':=by
 induction p with
 | nil=>intro ps h; exact ⟨ps,.refl _,h⟩
 | cons x p ih =>
  intro ps h
  cases ps with
  | nil=>cases h
  | cons q ps =>
   obtain ⟨v,r,e,h1,h2⟩:=h
   cases e
   obtain ⟨zs,e,g⟩:=ih h2
   exact ⟨q :: zs,e.cons q,_,_,rfl,h1,g⟩
 | swap x y l =>
  intro ps h
  cases ps with
  | nil=>cases h
  | cons a ps =>
   obtain ⟨v,r,e,h1,h2⟩:=h
   cases e
   cases ps with
   | nil=>cases h2
   | cons b ps =>
    obtain ⟨v2,r2,e2,h3,h4⟩:=h2
    cases e2
    exact ⟨b :: a :: ps,.swap a b ps,_,_,rfl,h3,_,_,rfl,h1,h4⟩
 | trans p q ih1 ih2 =>
  intro ps h
  obtain ⟨zs,e,g⟩:=ih2 h
  obtain ⟨ws,e',g'⟩:=ih1 g
  exact ⟨ws,e'.trans e,g'⟩
end
section
variable {X:Cx}
end
section
variable {X:Cx} {C:CC} {n:Nat} {sp:Γd→Nat→Sp} {a:Expr} {ea:EW} {pos p:Pos}
end
theorem c0l (ks:List Int) (us:List V) (k:Int) (u:V) (hl:ks.length=us.length):a6t ((a3m ks).zip us) (Sum.inl k) u=(a3m (a3q ks us k u).1).zip (a3q ks us k u).2:=by
 have hany:(((a3m ks).zip us).any fun kv=>decide (kv.1=Sum.inl k))=true↔k∈ks:=by
  rw [a5g,a5h,a2b k hl]
 unfold a6t a3q
 by_cases e:k∈ks
 ·rw [if_pos (hany.mpr e),if_pos e]
  clear e hany
  induction ks generalizing us with
  | nil=>cases us <;> rfl
  | cons k' ks ih=>cases us with
   | nil=>rfl
   | cons u' us =>
    have:=ih us (by simpa using hl)
    show (if (Sum.inl k':Int ⊕ Str)=Sum.inl k then (Sum.inl k',u) else (Sum.inl k',u')) :: ((a3m ks).zip us).map _=(Sum.inl k',if k'=k then u else u') :: (a3m ks).zip _
    rw [this]
    congr 1
    by_cases e:k'=k
    ·subst e; simp
    ·rw [if_neg fun z=>e (Sum.inl.inj z),if_neg e]
 ·rw [if_neg fun z=>e (hany.mp z),if_neg e]
  show _=(a3m (ks++[k])).zip (us++[u])
  have:a3m (ks++[k])=a3m ks++[Sum.inl k]:=by simp [a3m]
  rw [this,List.zip_append (by simpa [a3m] using hl)]; rfl
theorem b8a {κ α β:Type} [DecidableEq κ] {ks:List κ} {vs:List α} {us:List β} {k:κ} (h1:ks.length=vs.length) (h2:ks.length=us.length) (h:a1x ks vs k=none):a1x ks us k=none:=by
 have a:=a2b (α:=α) k h1
 have b:=a2b (α:=β) k h2
 cases e:a1x ks us k with
 | none=>rfl
 | some u =>
  rw [e] at b
  have:=a.mpr (b.mp rfl)
  rw [h] at this; cases this
noncomputable def d8t (v w:FV):Option (Option FV):=match v with
 | .dct ks vs=>(a8y w).bind fun ps=>(a0z ps).bind fun k=>some (a1x ks vs k)
 | .dci ks vs=>(a2t w).bind fun k=>some (a1x ks vs k)
 | .dcz _ ks vs=>(a8y w).bind fun ps=>(a0z ps).bind fun k=>some (a1x ks vs k)
 | _=>none
noncomputable def dgF (v w:FV):Option FV:=(d8t v w).bind id
noncomputable def b8q (v w:FV):Option FV:=(d8t v w).map fun o=>o.getD .non
noncomputable def d2s:FV→Option Unit
 | .dct _ _=>some ()
 | .dci _ _=>some ()
 | _=>none
noncomputable def b8n (v j x:FV):Option FV:=match v with
 | .dct ks vs=>(a8y j).bind fun ps=>(a0z ps).bind fun k=>if ks.length < big then some (.dct (a3q ks vs k x).1 (a3q ks vs k x).2) else none
 | .dci ks vs=>(a2t j).bind fun k=>if ks.length < big then some (.dci (a3q ks vs k x).1 (a3q ks vs k x).2) else none
 | _=>none
noncomputable def RO (K:Γd) (S:Hp):Option FV→Option V→Prop
 | none,o=>o=none
 | some p,o=>∃ u,o=some u∧RV K S p u
section
variable {X:Cx} {K:Γd} {S H:Hp}
theorem b6b {κ:Type} [DecidableEq κ] {ks:List κ} {vs:List FV} {us:List V} {k:κ} (h1:ks.length=vs.length) (r:RVs K S vs us):RO K S (a1x ks vs k) (a1x ks us k):=by
 cases e:a1x ks vs k with
 | none=>exact b8a h1 (by rw [h1,r.length]) e
 | some p=>exact b3f r e
theorem RH.dcz {o:Obj} {ks:List (List Int)} {vs:List FV} {x:V} (hs:Same S H) (r:RH K S H (.dcz o ks vs) x):∃ a us,x=.ref a∧ks.length=vs.length∧H a=some (.frz o (.dT ((a1q ks).zip us)))∧RVs K S vs us:=by
 rcases r with ⟨a,xs,e,h0,h1,h2⟩ | ⟨a,e,_,qs,xs,e2,h1,h2⟩
 ·exact ⟨a,xs,e,h0,hs _ _ h1,h2⟩
 ·obtain ⟨hl,rfl⟩:=itd e2
  exact ⟨a,xs,e,hl,h1,h2⟩
theorem b8o {v w:FV} {x y:V} {o:Option FV} (hs:Same S H) (rv:RH K S H v x) (rw':RH K S H w y) (e:d8t v w=some o):∃ a o',x=.ref a∧L2.DGet H a y o'∧RO K S o o':=by
 cases v with
 | dct ks vs =>
  obtain ⟨ps,e1,e2⟩:=bnd e
  obtain ⟨k,e3,e4⟩:=bnd e2
  cases a2c e1
  cases e4
  obtain ⟨a,us,rfl,hl,h1,h2⟩:=rv.dct hs
  obtain ⟨b,rfl,hb⟩:=b3d (rw'.val rfl) e3
  refine ⟨a,a1x ks us k,rfl,?_,b6b hl h2⟩
  rw [← a5t]
  exact .t h1 (hs _ _ hb)
 | dci ks vs =>
  obtain ⟨k,e3,e4⟩:=bnd e
  cases a0u e3
  cases e4
  cases rw'.int
  obtain ⟨a,us,rfl,hl,h1,h2⟩:=rv.dci hs
  refine ⟨a,a1x ks us k,rfl,?_,b6b hl h2⟩
  rw [← a5h]
  exact .k (k:=Sum.inl k) h1
 | dcz o ks vs =>
  obtain ⟨ps,e1,e2⟩:=bnd e
  obtain ⟨k,e3,e4⟩:=bnd e2
  cases a2c e1
  cases e4
  obtain ⟨a,us,rfl,hl,h1,h2⟩:=rv.dcz hs
  obtain ⟨b,rfl,hb⟩:=b3d (rw'.val rfl) e3
  refine ⟨a,a1x ks us k,rfl,?_,b6b hl h2⟩
  rw [← a5t]
  exact .inr ⟨_,_,b,.inr ⟨o,h1⟩,rfl,hs _ _ hb,rfl⟩
 | _=>cases e
theorem c5s {v:FV} {x:V} {u:Unit} (hs:Same S H) (rv:RH K S H v x) (e:d2s v=some u):∃ a,x=.ref a∧L2.IsD H a:=by
 cases v with
 | dct ks vs =>
  obtain ⟨a,us,rfl,hl,h1,h2⟩:=rv.dct hs
  exact ⟨a,rfl,.inr ⟨_,.inl h1⟩⟩
 | dci ks vs =>
  obtain ⟨a,us,rfl,hl,h1,h2⟩:=rv.dci hs
  exact ⟨a,rfl,.inl ⟨_,.inl h1⟩⟩
 | _=>cases e
end
noncomputable def c6n (i:Nat) (b:EW):EW:=fun L Q=>wp (lk L i) fun v=>wp (d2s v) fun _=>b L fun y L1=>wp (lk L1 i) fun x=>wp (b8q x y) fun z=>Q z L1
noncomputable def c0h (k:Nat) (i e:EW):SW:=fun L Q=>wp (lk L k) fun _=>e L fun x L1=>i L1 fun j L2=>wp (lk L2 k) fun y=>wp (b8n y j x) fun z=>Q .next (L2.set k (some z))
noncomputable def b8l (ek ev:EW):EW:=fun L Q=>ek L fun k L1=>ev L1 fun v L2=>wp (a2t k) fun i=>Q (.dci [i] [v]) L2
section
variable {K:Γd} {c:Cn} {md:Md} {L:a0a} {σ:L2.St} {S H:Hp}
theorem Iv.writeV (I:Iv K c md L σ S H) {i:Nat} {v w:FV} {a:Addr} {ps:List FV} {xs:List V} (m:a0k md i=.own) (e:L[i]?=some (some v)) (e1:σ[i]?=some (some (.ref a))) (hw:d5q w=some ps) (r:RVs K S ps xs) :
  Iv K c md (L.set i (some w)) σ S (upd H a (c7k w xs)):=by
 obtain ⟨a',e1',⟨h1,_⟩,_⟩:=I.own i v (fun z=>by rw [m] at z; cases z) e
 rw [e1] at e1'; cases e1'
 exact I.back m e e1 (Same.refl S) (fun b o z=>by rw [a0f fun y=>by subst y; rw [h1] at z; cases z]; exact I.sub b o z) (fun b o z=>.inl z) (fun b o z n=>by rw [a0f n]; exact z) ⟨h1,ps,xs,hw,a0e,r⟩
theorem c2a {i:Nat} {v j x z:FV} {a:Addr} {y u:V} (I:Iv K c md L σ S H) (m:a0k md i=.own) (e:L[i]?=some (some v)) (e1:σ[i]?=some (some (.ref a))) (rj:RV K S j y) (rx:RV K S x u) (h:b8n v j x=some z):∃ H',L2.DPut H a y u H'∧Iv K c md (L.set i (some z)) σ S H':=by
 obtain ⟨a',f1,⟨o1,ps,us,e9,o2,o3⟩,_⟩:=I.own i v (fun z=>by rw [m] at z; cases z) e
 rw [e1] at f1; cases f1
 have hbl:=a1m
 cases v with
 | dct ks vs =>
  obtain ⟨qs,g1,h⟩:=bnd h
  obtain ⟨k,g2,h⟩:=bnd h
  obtain ⟨hb,rfl⟩:=itd h
  obtain ⟨hl,rfl⟩:=itd e9
  cases a2c g1
  obtain ⟨b,rfl,hkb⟩:=b3d rj g2
  have hu:ks.length=us.length:=by rw [hl,o3.length]
  obtain ⟨p1,p2⟩:=b2l (ks:=ks) (k:=k) o3 rx
  refine ⟨_,.t o2 (I.sub _ _ hkb) (by simp [a1q]; lia),?_⟩
  rw [c4q ks us k u hu,← p1]
  exact I.writeV (w:=.dct _ _) m e e1 (if_pos (a7w ks _ k x hl).1) p2
 | dci ks vs =>
  obtain ⟨k,g2,h⟩:=bnd h
  obtain ⟨hb,rfl⟩:=itd h
  obtain ⟨hl,rfl⟩:=itd e9
  cases a0u g2
  cases (show y=V.int k from rj)
  have hu:ks.length=us.length:=by rw [hl,o3.length]
  obtain ⟨p1,p2⟩:=b2l (ks:=ks) (k:=k) o3 rx
  refine ⟨_,.k (k:=Sum.inl k) o2 (by simp [a3m]; lia),?_⟩
  rw [c0l ks us k u hu,← p1]
  exact I.writeV (w:=.dci _ _) m e e1 (if_pos (a7w ks _ k x hl).1) p2
 | _=>cases h
end
section
variable {X:Cx} {C:CC} {n:Nat} {sp:Γd→Nat→Sp} {fr:Bool} {a b:Expr} {ea eb:EW} {pos p px:Pos} {i:Nat} {nx:Str}
theorem d3a:FF X C (.Dict [] [] pos) (eC (.dct [] [])):=PE.imp c0v fun σ H Q ⟨c,L,S,Q0,I,h,k⟩=>fun p hp=>k _ L h p S _ ⟨I.sn hp,[],[],rfl,a0e,rfl⟩ (I.fresh hp) (I.lay hp _) (Same.refl S)
theorem d3b (ha:FE X C a ea) (hb:FE X C b eb):FF X C (.Dict [some a] [b] pos) (b8l ea eb):=PE.imp (c5d (c0q ha hb c4w) rfl rfl (by simp) (by simp)) fun σ H Q ⟨c,L,S,Q0,I,h,k⟩=>fun p hp=>by
 have fr0:=I.fresh hp
 have I0:=I.lay hp (.dK [])
 have I1:=I0.prot (a:=p) (o:=.dK []) a0e (I.sn hp) fun y u hy hu=>fr0.2.2 y u (fun z=>by rw [hy] at z; cases z) hu
 refine ⟨_,L,S,_,I1,h,fun v L1 q x S1 H1 r1 J1 s1=>⟨_,L1,S1,_,J1,q,fun w L2 q2 y S2 H2 r2 J2 s2=>?_⟩⟩
 obtain ⟨kk,e,q2⟩:=wpx q2
 cases a0u e
 cases (show x=V.int kk from r1)
 obtain ⟨g1,g2,g3⟩:=J2.prs (p,.dK []) Γn
 refine ⟨g1,[(Sum.inl kk,y)],rfl,by simp,?_⟩
 have J3:=J2.regrow (o':=.dK (a6v [] [(Sum.inl kk,y)])) (I.h0 hp) (fun q hq=>fr0.2.1 q hq) I.fzp
 have J4:=J3.unprot I.fzp
 obtain ⟨_,f2,f3⟩:=J3.prs _ Γn
 refine k _ L2 q2 p S2 _ ⟨f2,[w],[y],rfl,a0e,RVs.one r2⟩ ⟨I.h0 hp,fr0.2.1,fun z u hz hu hs=>?_⟩ J4 (s1.trans s2)
 by_cases mo:a0k C.md z=.own
 ·exact f3 z u mo hu hs
 ·have mo:a0k C.md z=.frz:=by cases t:a0k C.md z with | imm=>exact absurd t hz | own=>exact absurd t mo | frz=>rfl
  obtain ⟨b',h1⟩:=J4.fzm z u mo hu
  obtain ⟨_,h2,_⟩:=J4.fzs _ h1
  rw [hs] at h2; cases h2
  obtain ⟨ys,h3⟩:=I.fzp _ h1
  exact fr0.2.1 _ h3 rfl
theorem fe_dgN (G:Good X C n sp) (hs:a3u b=false) (h:C.nm i nx=true) (hb:FR X C b eb):FE X C (.Subscript (.Name nx p) b pos) (a5y dgF i eb):=PE.imp (c5e (X:=X.nox) (by have:=G.room.units; show X.A.units + 1 < cLine; lia) (a1g G h) hb (a7x hs)) fun σ H Q ⟨c,L,S,Q0,I,h,k⟩=>by
 obtain ⟨v0,e,h⟩:=wpx h
 obtain ⟨x,e1,_⟩:=I.rd e
 refine ⟨x,e1,c,L,S,_,I,h,fun w L2 hw y S2 H2 r2 I2 s2=>?_⟩
 obtain ⟨v,e2,q⟩:=wpx hw
 obtain ⟨x',e3,r1⟩:=I2.rd e2
 rw [e1] at e3; cases e3
 obtain ⟨z,e4,q⟩:=wpx q
 obtain ⟨o,e5,e6⟩:=bnd e4
 obtain ⟨a,o',rfl,g,ro⟩:=b8o I2.sub r1 r2 e5
 cases (show o=some z from e6)
 obtain ⟨u,rfl,r5⟩:=ro
 exact ⟨a,u,rfl,g,k z L2 q u S2 H2 r5 I2 s2⟩
theorem d7s (G:Good X C n sp) {apos cpos:Pos} (h:C.nm i nx=true) (hl:d9b apos cpos=true) (hs:a0g b=false) (hb:FR X C b eb):FE X C (.Call (.Attribute (.Name nx p) (Γe "get") apos) [b] [] cpos) (c6n i eb):=by
 refine PE.imp (c0w (X:=X.nox) (by have:=G.room.units; show X.A.units + 1 < cLine; lia) (a1g G h) hb ⟨rfl,by rw [a0d hs]; rfl,hl,by rw [a0d hs]; rfl⟩) fun σ H Q ⟨c,L,S,Q0,I,h,k⟩=>?_
 obtain ⟨v0,e,h⟩:=wpx h
 obtain ⟨u0,e0,h⟩:=wpx h
 obtain ⟨x,e1,r0⟩:=I.rd e
 obtain ⟨a,rfl,hd⟩:=c5s I.sub r0 e0
 refine ⟨_,e1,a,rfl,hd,c,L,S,_,I,h,fun w L2 hw y S2 H2 r2 I2 s2=>?_⟩
 obtain ⟨v,e2,q⟩:=wpx hw
 obtain ⟨x',e3,r1⟩:=I2.rd e2
 rw [e1] at e3; cases e3
 obtain ⟨z,e4,q⟩:=wpx q
 obtain ⟨o,e5,rfl⟩:=mpd e4
 obtain ⟨a',o',e6,g,ro⟩:=b8o I2.sub r1 r2 e5
 cases e6
 refine ⟨o',g,k _ L2 q _ S2 H2 ?_ I2 s2⟩
 cases o with
 | none=>cases (show o'=none from ro); exact rfl
 | some q=>obtain ⟨u,rfl,r5⟩:=ro; exact r5
theorem d6x (G:Good X C n sp) (hn:C.nm i nx=true) (m:a0k C.md i=.own) (hc:(!a7c a && !a3u b)=true) (ha:FE X C a ea) (hb:FE X C b eb):FS X C fr (.Assign [.Subscript (.Name nx px) b p] a pos) (c0h i eb ea):=by
 have hc:=b2 hc
 refine PS.imp (c4v (X:=X.nox) (by have:=G.room.units; show X.A.units + 1 < cLine; lia) (a1g (pos:=px) G hn) hb ha (a4c (nb hc.1))) fun D σ H ⟨c,L,S,Q0,I,h,k⟩=>?_
 have mi:a0k C.md i≠.imm:=fun z=>by rw [m] at z; cases z
 obtain ⟨v0,e,h⟩:=wpx h
 obtain ⟨l,e1,_⟩:=I.own i v0 mi ((a2s _ _ _).mp e)
 refine ⟨c,L,S,_,I,h,fun v L1 q x S1 H1 r1 I1 s1=>⟨_,e1,c,L1,S1,_,I1,q,fun w L2 q y S2 H2 r2 I2 s2=>?_⟩⟩
 obtain ⟨v1,e2,q2⟩:=wpx q
 obtain ⟨z,e3,q3⟩:=wpx q2
 have e2:=(a2s _ _ _).mp e2
 obtain ⟨H3,g,I3⟩:=c2a I2 m e2 e1 r2 (r1.mono s2) e3
 exact ⟨l,H3,rfl,g,k .next _ q3 σ S2 _ I3 (s1.trans s2)⟩
end
section
variable (Q:FV→Prop) (i:Nat) (L:a0a)
@[scoped simp ↓] theorem d3m (b:EW) (Q:FV→a0a→Prop):c6n i b L Q=(wp (lk L i) fun v=>wp (d2s v) fun _=>b L fun y L1=>wp (lk L1 i) fun x=>wp (b8q x y) fun z=>Q z L1):=propext Iff.rfl
@[scoped simp ↓] theorem d2m (k:Nat) (i e:EW) (Q:FFl→a0a→Prop):c0h k i e L Q=(wp (lk L k) fun _=>e L fun x L1=>i L1 fun j L2=>wp (lk L2 k) fun y=>wp (b8n y j x) fun z=>Q .next (L2.set k (some z))):=propext Iff.rfl
@[scoped simp ↓] theorem d1h (ek ev:EW) (Q:FV→a0a→Prop):b8l ek ev L Q=(ek L fun k L1=>ev L1 fun v L2=>wp (a2t k) fun i=>Q (.dci [i] [v]) L2):=propext Iff.rfl
@[scoped simp ↓] theorem isD_i (ks:List Int) (vs:List FV) (Q:Unit→Prop):wp (d2s (.dci ks vs)) Q=Q ():=propext Iff.rfl
@[scoped simp ↓] theorem k_dgi (ks:List Int) (vs:List FV) (k:Int):wp (dgF (.dci ks vs) (.int k)) Q=wp (a1x ks vs k) Q:=propext Iff.rfl
@[scoped simp ↓] theorem k_dg1i (ks:List Int) (vs:List FV) (k:Int):wp (b8q (.dci ks vs) (.int k)) Q=Q ((a1x ks vs k).getD .non):=propext Iff.rfl
@[scoped simp ↓] theorem d6g (ks:List (List Int)) (vs ps:List FV) (x:FV):wp (b8n (.dct ks vs) (.tup ps) x) Q↔wp (a0z ps) fun k=>ks.length < big∧Q (.dct (a3q ks vs k x).1 (a3q ks vs k x).2):=by
 show wp ((a0z ps).bind _) Q↔_; rw [a1p]; simp only [a2q]
@[scoped simp ↓] theorem d6h (ks:List Int) (vs:List FV) (k:Int) (x:FV):wp (b8n (.dci ks vs) (.int k) x) Q↔ks.length < big∧Q (.dci (a3q ks vs k x).1 (a3q ks vs k x).2):=a2q _ _ _
end
section
variable {P:Program} {w:World} {A:Around} {E:Value→Shared→Prop} {s:Shared}
end
section
variable {X:Cx}
end
noncomputable def eSortI (a:EW):EW:=fun L Q=>a L fun v L1=>wp (a1n v) fun xs=>wp (a0z xs) fun ns=>ns.length < 64∧∀ ms:List Int,ms.Perm ns→ms.Pairwise (·≤·)→Q (.lst (ms.map .int)) L1
section
variable {X:Cx} {C:CC} {n:Nat} {sp:Γd→Nat→Sp} {a:Expr} {ea:EW} {pos p:Pos}
end
section
variable {X:Cx}
end
section
variable {X:Cx} {C:CC} {n:Nat} {sp:Γd→Nat→Sp} {a:Expr} {ea:EW} {pos p:Pos}
end
end Kq
end
section
namespace L2
open PySem PySem.Spec PyProof.Rows
theorem b3u:typeLookup (.type "zip") "__len__" = pure none:=by rw [typeLookup_type,builtinLookup_eq_fast]; kernel_rfl
theorem b0y:typeLookup (.type "zip") "__length_hint__" = pure none:=by rw [typeLookup_type,builtinLookup_eq_fast]; kernel_rfl
noncomputable def ZSt (p q:Bool) (z TI TO i1 i2 a b:Addr) (i:Nat) (h:Heap):Prop:=(∃ f m,(f=.none ∨ ∃ n,f=.int n 0)∧(∃ c,m=.bool c)∧a1e h z TI TO f m)∧IsPair h TI (.ref i1) (.ref i2)∧(∃ c d,IsPair h TO c d)∧IterB p h i1 a i∧IterB q h i2 b i
theorem ZSt.keep {p q:Bool} {z TI TO i1 i2 a b:Addr} {i:Nat} {h h':Heap} (st:ZSt p q z TI TO i1 i2 a b i h) (kk:∀ c∈[z,TO,i1,i2,TI],∀ o,h.get? c=some o→h'.get? c=some o):ZSt p q z TI TO i1 i2 a b i h':=by
 obtain ⟨⟨f,m,hf0,hm0,zz⟩,zi,⟨x,y,zo⟩,t1,t2⟩:=st
 exact ⟨⟨f,m,hf0,hm0,kk z (by simp) _ zz⟩,kk TI (by simp) _ zi,⟨x,y,kk TO (by simp) _ zo⟩,t1.to fun o e=>kk i1 (by simp) o e,t2.to fun o e=>kk i2 (by simp) o e⟩
theorem ZSt.obj {p q:Bool} {z TI TO i1 i2 a b:Addr} {i:Nat} {h:Heap} (st:ZSt p q z TI TO i1 i2 a b i h):∀ c∈[z,TO,i1,i2,TI],∃ o,h.get? c=some o:=by
 obtain ⟨⟨f,m,hf0,hm0,zz⟩,zi,⟨x,y,zo⟩,t1,t2⟩:=st
 intro c hc
 simp only [List.mem_cons,List.not_mem_nil,or_false] at hc
 rcases hc with rfl | rfl | rfl | rfl | rfl
 ·exact ⟨_,zz⟩
 ·exact ⟨_,zo⟩
 ·obtain ⟨o,e,_⟩:=t1.obj; exact ⟨o,e⟩
 ·obtain ⟨o,e,_⟩:=t2.obj; exact ⟨o,e⟩
 ·exact ⟨_,zi⟩
section
variable {X:Cx} {pins:List (Addr×Obj)} {σ:St} {A:Around} {R:Result→Shared→Prop}
theorem d0y {p q:Bool} {z TI TO i1 i2 a b S:Addr} {xs ys:List V} {res:Value} (hh:A.in1.handled=none) (D:ZipApart z TI TO i1 i2 a b) (hl:min xs.length ys.length≤100000) (J:Nat→Hp→List V→Prop)
  (hJ:∀ i H zs,J i H zs→H S=some (.lst zs)∧SqB p X.K H a xs∧SqB q X.K H b ys∧zs.length=i)
  (step:∀ i H zs T x y,J i H zs→xs[i]?=some x→ys[i]?=some y→H T=none→J (i + 1) (upd (upd H T (.tup [x,y])) S (.lst (zs++[.ref T]))) (zs++[.ref T]))
  (hR:∀ H zs s,J (min xs.length ys.length) H zs→Inv X pins σ H s→R (.ok (.ret res)) s) :
  ∀ (k i:Nat) (s:Shared) (H:Hp) (zs:List V),min xs.length ys.length - i=k→i≤min xs.length ys.length→Inv X pins σ H s→ZSt p q z TI TO i1 i2 a b i s.heap→(∀ c∈[z,TO,i1,i2,TI],b3t X pins H c)→J i H zs →
  codeAny (model X.prog X.w) A (.builtin "list.extend.loop" ⟨[.ref S,.ref z,res],[]⟩) R s:=by
 intro k
 induction k with
 | zero =>
  intro i s H zs hk hi I st hf hj
  have hin:i=min xs.length ys.length:=by lia
  obtain ⟨hS,q1,q2,hzl⟩:=hJ i H zs hj
  obtain ⟨⟨f,m,hf0,hm0,zz⟩,zi,⟨u0,v0,zo⟩,t1,t2⟩:=st
  obtain ⟨its,rv,m1,l1⟩:=I.seqB q1
  obtain ⟨jts,rw',m2,l2⟩:=I.seqB q2
  have e1:=rv.length
  have e2:=rw'.length
  refine codeAny_builtin F.entry_extend_loop ?_
  rw [Around.under_plainId F.plain_extend_loop _]
  show wpAny _ A.in1 (pyNext (.ref z) >>= _) _ _ s
  refine Γa (b5g hh D zz hf0 hm0 zi zo t1 t2 m1 m2 (by
   by_cases hx:xs.length≤i
   ·exact .inl (by simp; lia)
   ·exact .inr (by simp; lia)) fun h' hk=>?_)
  refine Γb (hR H zs _ (hin ▸ hj) ?_)
  exact I.turnedL (t':=s.toks) (ch:=[z,TO,i1,i2]) (fun c ob hc e=>by simp only [List.mem_cons,List.not_mem_nil,or_false,not_or] at hc; exact hk c ob hc.1 hc.2.1 hc.2.2.1 hc.2.2.2 e)
   (fun c hc=>hf c (by simp only [List.mem_cons,List.not_mem_nil,or_false] at hc ⊢; rcases hc with z | z | z | z <;> simp [z]))
 | succ k ih =>
  intro i s H zs hk hi I st hf hj
  have hlt:i < min xs.length ys.length:=by lia
  have hobj:=st.obj
  obtain ⟨hS,q1,q2,hzl⟩:=hJ i H zs hj
  obtain ⟨⟨f,m,hf0,hm0,zz⟩,zi,⟨u0,v0,zo⟩,t1,t2⟩:=st
  obtain ⟨its,rv,m1,l1⟩:=I.seqB q1
  obtain ⟨jts,rw',m2,l2⟩:=I.seqB q2
  have hx:xs[i]?=some xs[i]:=List.getElem?_eq_getElem (by lia)
  have hy:ys[i]?=some ys[i]:=List.getElem?_eq_getElem (by lia)
  obtain ⟨u,hu,ru⟩:=rv.get hx
  obtain ⟨u',hu',ru'⟩:=rw'.get hy
  refine codeAny_builtin F.entry_extend_loop ?_
  rw [Around.under_plainId F.plain_extend_loop _]
  show wpAny _ A.in1 (pyNext (.ref z) >>= _) _ _ s
  refine Γa (b5h D zz hf0 hm0 zi zo t1 t2 m1 m2 (x:=u) (y:=u') (by simpa using hu) (by simpa using hu') fun h'' f' m' hf' hm' z'' a2 a3 a4 T'' hk'=>?_)
  have I1:Inv X pins σ (upd H s.heap.objs.size (.tup [xs[i],ys[i]])) { s with heap:=h'' }:=I.turnedNew (t':=s.toks) (ch:=[z,TO,i1,i2]) (Γi _)
   (fun c ob hc e=>by simp only [List.mem_cons,List.not_mem_nil,or_false,not_or] at hc; exact hk' c ob hc.1 hc.2.1 hc.2.2.1 hc.2.2.2 e)
   (fun c hc=>hf c (by simp only [List.mem_cons,List.not_mem_nil,or_false] at hc ⊢; rcases hc with z | z | z | z <;> simp [z])) ⟨by show 2≤sizeLine; decide,[u,u'],.cons ru (.cons ru' .nil),⟨_,T'',rfl,_,rfl⟩⟩
  have hST:S≠s.heap.objs.size:=fun z=>by rw [z,I.fresh] at hS; cases hS
  have hS1:upd H s.heap.objs.size (.tup [xs[i],ys[i]]) S=some (.lst zs):=by rw [a0f hST]; exact hS
  obtain ⟨z1,its',n',r',hl',e'⟩:=I1.lstM hS1
  show wpAny _ A.in1 (updateSeq S (·.push (.ref s.heap.objs.size)) >>= _) _ _ _
  have I2:=I1.lset (its':=its'++[Value.ref s.heap.objs.size]) (f:=(·.push (Value.ref s.heap.objs.size))) (t':=s.toks) hS1 e' (by simp) (r'.append (.cons (show RelV (.ref s.heap.objs.size) (.ref s.heap.objs.size) from rfl) .nil)) (by rw [List.length_append,List.length_singleton,sizeLine_eq]; lia)
  have hj2:=step i H zs s.heap.objs.size _ _ hj hx hy I.fresh
  have hSc:∀ c∈[z,TO,i1,i2,TI],c≠S:=fun c hc z=>by rw [z] at hc; have:=(hf S hc).1; rw [hS] at this; cases this
  have hTc:∀ c∈[z,TO,i1,i2,TI],c≠s.heap.objs.size:=fun c hc=>by obtain ⟨o,e⟩:=hobj c hc; exact Γo (Γl e)
  refine Γa (wpAny_updateSeq e' rfl (Γb ⟨plainId_quiet F.plain_extend_loop _,ih (i + 1) _ _ _ (by lia) (by lia) I2 ?_ ?_ hj2⟩) (by rw [List.size_toArray,sizeLine_eq]; lia) (by rw [Array.size_push,List.size_toArray,sizeLine_eq]; lia))
  ·have st1:ZSt p q z TI TO i1 i2 a b (i + 1) h'':=⟨⟨f',m',hf',hm',z''⟩,hk' _ _ D.TIz D.TITO D.TIi1 D.TIi2 zi,a2,a3,a4⟩
   exact st1.keep fun c hc o e=>(Γf _ _ (Ne.symm (hSc c hc))).trans e
  ·intro c hc
   have h1:=hf c hc
   exact ⟨by rw [a0f (hSc c hc),a0f (hTc c hc)]; exact h1.1,h1.2⟩
end
end L2
end
section
namespace L2
open PySem PySem.Spec PyProof.Rows
section
variable {X:Cx} {pins:List (Addr×Obj)} {σ:St}
theorem b9k {H:Hp} {Q:VK} {p q:Bool} {z TI TO i1 i2 a b:Addr} {xs ys:List V} {s2:Shared} (hc:X.calm=true) (I:Inv X pins σ H s2) (D:ZipApart z TI TO i1 i2 a b) (st:ZSt p q z TI TO i1 i2 a b 0 s2.heap) (hf:∀ c∈[z,TO,i1,i2,TI],b3t X pins H c)
  (q1:SqB p X.K H a xs) (q2:SqB q X.K H b ys) (hl:min xs.length ys.length≤100000)
  (h:∀ S,H S=none→∃ J:Nat→Hp→List V→Prop,J 0 (upd H S (.lst [])) []∧(∀ i H zs,J i H zs→H S=some (.lst zs)∧SqB p X.K H a xs∧SqB q X.K H b ys∧zs.length=i) ∧
   (∀ i H zs T x y,J i H zs→xs[i]?=some x→ys[i]?=some y→H T=none→J (i + 1) (upd (upd H T (.tup [x,y])) S (.lst (zs++[.ref T]))) (zs++[.ref T]))∧∀ H zs,J (min xs.length ys.length) H zs→Q (.ref S) H) :
  wpAny (model X.prog X.w) X.A (call (.type "list") [.ref z]) (EP X pins σ Q) X.xe s2:=by
 have hfr:=I.fresh
 obtain ⟨J,j0,hJ,step,fin⟩:=h _ hfr
 have hobj:=st.obj
 have zz':∀ {h':Heap},ZSt p q z TI TO i1 i2 a b 0 h'→∀ {s:Shared},s.heap=h'→s.TypeIs (.ref z) "zip":=fun st' s e=>by
  obtain ⟨⟨f,m,_,_,zz⟩,_⟩:=st'
  exact ⟨_,by rw [e]; exact zz,rfl⟩
 have hSz:s2.heap.objs.size≠z:=fun e=>by obtain ⟨o,ho⟩:=hobj z (by simp); exact absurd (Γl ho) (by rw [← e]; exact Nat.lt_irrefl _)
 have hSc:∀ c∈[z,TO,i1,i2,TI],c≠s2.heap.objs.size:=fun c hc=>by obtain ⟨o,e⟩:=hobj c hc; exact Γo (Γl e)
 refine callType_codes (Q₁:=fun obj s₁=>obj=.ref s2.heap.objs.size∧s₁ = { s2 with heap:=s2.heap.push { cls:=.type "list",data:=.seq #[] } }) F.called_list (F.typeCall_list_1 _) F.entry_list_init
  (code_list_new _ ⟨rfl,rfl⟩) fun obj s₁ h₁=>?_
 obtain ⟨rfl,rfl⟩:=h₁
 have I1:Inv X pins σ (upd H s2.heap.objs.size (.lst [])) { s2 with heap:=s2.heap.push { cls:=.type "list",data:=.seq ([]:List Value).toArray },toks:=s2.toks }:=I.lnew (its:=[]) .nil (Nat.zero_le _)
 have hS:(s2.heap.push { cls:=.type "list",data:=.seq #[] }).get? s2.heap.objs.size=some { cls:=.type "list",data:=.seq #[] }:=Γm _ rfl
 have st1:ZSt p q z TI TO i1 i2 a b 0 (s2.heap.push { cls:=.type "list",data:=.seq #[] }):=st.keep fun c _ o e=>Γc _ e
 refine ⟨⟨_,hS,rfl⟩,F.args_list_init_2 _ _,?_⟩
 show wpAny _ _ (do let old ← Builtin.List.listItems (.ref s2.heap.objs.size); Builtin.List.listUpdate (.ref s2.heap.objs.size) (fun _=>#[]); letGo old.toList.reverse; Builtin.List.listExtendWith (.ref s2.heap.objs.size) (.ref z) .none) _ _ _
 refine Γa ?_
 unfold Builtin.List.listItems
 refine Γa (wpAny_seqItems hS rfl (Γb ?_))
 show wpAny _ _ (updateSeq s2.heap.objs.size (fun _=>#[]) >>= fun _=>letGo (#[]:Array Value).toList.reverse >>= fun _=>Builtin.List.listExtendWith (.ref s2.heap.objs.size) (.ref z) .none) _ _ _
 refine Γa (wpAny_updateSeq hS rfl ?_)
 have hS₂:=Heap.get?_update_self (Obj.mapSeq (fun _=>(#[]:Array Value))) hS rfl
 have I2:=I1.lset (its':=[]) (f:=fun _=>(#[]:Array Value)) (t':=s2.toks) (ys:=[]) a0e hS rfl .nil (Nat.zero_le _)
 have st2:=st1.keep (h':=(s2.heap.push { cls:=.type "list",data:=.seq #[] }).update s2.heap.objs.size (Obj.mapSeq (fun _=>(#[]:Array Value)))) fun c hc o e=>(Γf _ _ (Ne.symm (hSc c hc))).trans e
 refine Γa (wpAny_letGo ?_)
 unfold Builtin.List.listExtendWith
 refine Γa (wpAny_typeOf (T:="zip") (zz' st2 rfl) ?_)
 have h1:Builtin.List.listSameRef (.ref s2.heap.objs.size) (.ref z)=false:=by simp [Builtin.List.listSameRef,hSz]
 have h2:(Value.type "zip" == Value.type "list")=false:=by decide
 have h3:(Value.type "zip" == Value.type "tuple")=false:=by decide
 simp only [h1,h2,h3,Bool.or_false,Γp,if_false]
 refine Γa ?_
 obtain ⟨⟨f,m,hf0,hm0,zz⟩,_⟩:=id st2
 refine b1h zz ?_
 refine Γa (Γg ?_)
 unfold Builtin.List.listLengthHint
 refine Γa (wpAny_specialOf (zz' st2 rfl) b3u ?_)
 show wpAny _ _ (specialOf (Value.ref z) (Γe "__length_hint__") >>= _) _ _ _
 refine Γa (wpAny_specialOf (zz' st2 rfl) b0y ?_)
 refine Γb ?_
 show wpAny _ _ (rule "list.extend.makes-room" >>= fun _=>Builtin.List.listTouch (.ref s2.heap.objs.size) >>= fun _=>again (.builtin "list.extend.loop" ⟨[.ref s2.heap.objs.size,.ref z,.none],[]⟩)) _ _ _
 refine Γa (wpAny_rule ?_)
 refine Γa ?_
 show wpAny _ _ (updateSeq s2.heap.objs.size (·.push .none) >>= fun _=>updateSeq s2.heap.objs.size (·.pop)) _ _ _
 refine Γa (wpAny_updateSeq hS₂ rfl ?_)
 have hS₃:=Heap.get?_update_self (Obj.mapSeq (·.push Value.none)) hS₂ rfl
 refine wpAny_updateSeq (hz:=by seq_fits) hS₃ rfl ?_
 have I3:=I2.lset (its:=[]) (its':=[Value.none]) (f:=(·.push Value.none)) (t':=s2.toks) (ys:=[.non]) a0e hS₂ rfl (.cons rfl .nil) (by decide)
 have I4:=I3.lset (its:=[Value.none]) (its':=[]) (f:=(·.pop)) (t':=s2.toks) (ys:=[]) a0e hS₃ rfl .nil (Nat.zero_le _)
 have e4:upd (upd (upd (upd H s2.heap.objs.size (.lst [])) s2.heap.objs.size (.lst [])) s2.heap.objs.size (.lst [.non])) s2.heap.objs.size (.lst [])=upd H s2.heap.objs.size (.lst []):=by
  funext c
  by_cases hc:c=s2.heap.objs.size
  ·subst hc; simp [a0e]
  ·simp [a0f hc]
 rw [e4] at I4
 refine Γb ⟨plainId_quiet F.plain_extend_loop _,d0y (A:=X.A.in1) (show X.A.in1.in1.handled=none from I.ok.hd hc) D hl J hJ step (fun H' zs s' hj I'=>⟨rfl,.ref s2.heap.objs.size,H',I',rfl,fin H' zs hj⟩) _ 0 _ _ _ rfl (Nat.zero_le _) I4 ?_ ?_ j0⟩
 ·exact (st2.keep fun c hc o e=>(Γf _ _ (Ne.symm (hSc c hc))).trans e).keep fun c hc o e=>(Γf _ _ (Ne.symm (hSc c hc))).trans e
 ·intro c hc
  exact ⟨by rw [a0f (hSc c hc)]; exact (hf c hc).1,(hf c hc).2⟩
variable {e1 e2:Expr} {ta:TA} {pp p2 pos pos2:Pos}
noncomputable def d4d (K:Γd) (ta:TA):TE:=fun σ H Q=>ta σ H fun vs H1=>∃ (p q:Bool) (a b:Addr) (xs ys:List V),vs=[.ref a,.ref b]∧SqB p K H1 a xs∧SqB q K H1 b ys∧min xs.length ys.length≤100000 ∧
 ∀ S,H1 S=none→∃ J:Nat→Hp→List V→Prop,J 0 (upd H1 S (.lst [])) []∧(∀ i H zs,J i H zs→H S=some (.lst zs)∧SqB p K H a xs∧SqB q K H b ys∧zs.length=i) ∧
  (∀ i H zs T x y,J i H zs→xs[i]?=some x→ys[i]?=some y→H T=none→J (i + 1) (upd (upd H T (.tup [x,y])) S (.lst (zs++[.ref T]))) (zs++[.ref T]))∧∀ H zs,J (min xs.length ys.length) H zs→Q (.ref S) H
theorem c5c (hc:X.calm=true) (hg:Gl X "zip") (hm:X.mg "zip" = none) (hg2:Gl X "list") (hm2:X.mg "list" = none) (ha:PA X [e1,e2] ta)
  (hs:starEach [e1,e2] X.env=[(false,eval e1 X.env),(false,eval e2 X.env)]) (hs2:starEach [e2] X.env=[(false,eval e2 X.env)]):PE X (.Call (.Name "list" pp) [.Call (.Name "zip" p2) [e1,e2] [] pos2] [] pos) (d4d X.K ta):=by
 intro pins s σ H Q I h
 refine wpAny_Call_Name_kw (a2y I hg2 hm2 PyProof.Rows.boot_list ?_ (by decide) (by decide))
 refine PyProof.Rows.callWith_type1 (T:="list") ?_ rfl rfl
 show wpAny _ _ (spliced ((false,eval (.Call (.Name "zip" p2) [e1,e2] [] pos2) X.env) :: backTo pos [])) _ _ s
 refine Calls.spliced_cons (Call_ (a2y I hg hm PyProof.Rows.boot_zip (PyProof.Rows.callWith_type1 (thn (ha pos2 pins s σ H _ I h) fun us s1 ⟨vs,H1,I1,r1,q1⟩=>?_) (by rw [hs,hs2]) (by rw [hs2]; rfl)) (by decide) (by decide)))
 obtain ⟨p,q,a,b,xs,ys,e,hq1,hq2,hl,kk⟩:=q1
 subst e
 obtain ⟨u1,u2,rfl,ra,rb⟩:=b3v r1
 cases ra; cases rb
 obtain ⟨its,rv,m1,_⟩:=I1.seqB hq1
 obtain ⟨jts,rw',m2,_⟩:=I1.seqB hq2
 refine b0m m1 m2 fun h' zz zi zo t1 t2 hk=>Calls.spliced_nil ?_
 have I2:Inv X pins σ H1 { s1 with heap:=h' }:=I1.kept (t':=s1.toks) fun c o e=>hk c o e
 refine b9k hc I2 (zipApart_new m1.lt m2.lt) ⟨⟨.none,.bool false,.inl rfl,⟨_,rfl⟩,zz⟩,zi,⟨_,_,zo⟩,t1,t2⟩ (fun c hc=>?_) hq1 hq2 hl kk
 have hge:s1.heap.objs.size≤c:=by
  simp only [List.mem_cons,List.not_mem_nil,or_false] at hc
  rcases hc with rfl | rfl | rfl | rfl | rfl <;> first | exact Γi _ | exact Nat.le_add_right _ _
 exact I1.fpOk hge (I1.hok.fresh hge)
end
end L2
end
section
namespace Kq
open PySem PySem.Spec PyProof.Rows L2
noncomputable def c6m (a b:EW):EW:=fun L Q=>a L fun x L1=>b L1 fun y L2=>wp (a3o x) fun xs=>wp (a3o y) fun ys=>min xs.length ys.length≤100000∧Q (.lst (a2d xs ys)) L2
theorem b6x {xs ys:List FV} {i:Nat} {x y:FV} (hx:xs[i]?=some x) (hy:ys[i]?=some y):(a2d xs ys).take (i + 1)=(a2d xs ys).take i++[.tup [x,y]]:=by
 have h1:=(List.getElem?_eq_some_iff.mp hx)
 have h2:=(List.getElem?_eq_some_iff.mp hy)
 have hl:i < (a2d xs ys).length:=by simp [a2d]; have:=h1.1; have:=h2.1; lia
 rw [List.take_succ_eq_append_getElem hl]
 congr 1
 simp [a2d,h1.2,h2.2]
theorem SqB.same {b:Bool} {K:Γd} {H H':Hp} {a:Addr} {xs:List V} (s:Same H H') (h:SqB b K H a xs):SqB b K H' a xs:=by
 cases b with
 | true =>
  rcases h with (h | ⟨u,h⟩) | h
  ·exact .inl (.inl (s _ _ h))
  ·exact .inl (.inr ⟨u,s _ _ h⟩)
  ·exact .inr h
 | false =>
  rcases h with (h | ⟨u,h⟩) | h
  ·exact .inl (.inl (s _ _ h))
  ·exact .inl (.inr ⟨u,s _ _ h⟩)
  ·exact .inr h
section
variable {X:Cx} {C:CC} {n:Nat} {sp:Γd→Nat→Sp} {a b:Expr} {ea eb:EW} {p p2 pos pos2:Pos}
theorem d7j (G:Good X C n sp) (hg:(C.gl (Γe "zip") && C.gl (Γe "list"))=true) (hs1:a0g a=false) (hs2:a0g b=false) (ha:FE X C a ea) (hb:FE X C b eb):FF X C (.Call (.Name (Γe "list") p) [.Call (.Name (Γe "zip") p2) [a,b] [] pos2] [] pos) (c6m ea eb):=by
 have hg:=b2 hg
 refine PE.imp (c5c (X:=X.nox) G.calm (G.gl hg.1) (G.blt "zip" (by decide)) (G.gl hg.2) (G.blt "list" (by decide)) (a0h ha (a0h hb a1u (a0d hs2)) (a0d hs1)) (by rw [a0d hs1,a0d hs2]; rfl) (a0d hs2)) fun σ H Q ⟨c,L,S,Q0,I,h,k⟩=>?_
 refine ⟨c,L,S,_,I,h,fun v L1 hv x S1 H1 r1 I1 s1=>⟨c,L1,S1,_,I1,hv,fun w L2 hw y S2 H2 r2 I2 s2=>?_⟩⟩
 obtain ⟨ps,e1,hw⟩:=wpx hw
 obtain ⟨qs,e2,hl,q⟩:=wpx hw
 obtain ⟨l1,rfl,st1⟩:=(r1.mono s2).stays e1
 obtain ⟨l2,rfl,st2⟩:=r2.stays e2
 obtain ⟨xs,g1,f1⟩:=st1 S2 S2 (Same.refl _) (Same.refl _)
 obtain ⟨ys,g2,f2⟩:=st2 S2 S2 (Same.refl _) (Same.refl _)
 have lx:=f1.length
 have ly:=f2.length
 refine ⟨_,_,l1,l2,xs,ys,rfl,SqB.same I2.sub g1,SqB.same I2.sub g2,by rw [← lx,← ly]; exact hl,fun A hA=>?_⟩
 have fr0:=I2.fresh hA
 have nS:∀ {S':Hp},True:=trivial
 refine ⟨fun i H zs=>∃ S',Iv X.K { c with pr:=(A,.lst zs) :: c.pr } C.md L2 σ S' H∧Same S2 S'∧RVs X.K S' ((a2d ps qs).take i) zs∧zs.length=i,⟨S2,?_,Same.refl _,rfl,rfl⟩,?_,?_,?_⟩
 ·exact (I2.lay hA (.lst [])).prot a0e (I2.sn hA) fun y u hy hu=>fr0.2.2 y u (fun z=>by rw [hy] at z; cases z) hu
 ·rintro i H zs ⟨S',I',s',r',hz⟩
  obtain ⟨h1,h2,_⟩:=I'.prs (A,.lst zs) Γn
  exact ⟨h1,SqB.same (s'.trans I'.sub) g1,SqB.same (s'.trans I'.sub) g2,hz⟩
 ·rintro i H zs T x y ⟨S',I',s',r',hz⟩ hx hy hT
  have I3:=I'.new hT (.tup [x,y])
  have I4:=I3.regrow (o':=.lst (zs++[.ref T])) (I2.h0 hA) fr0.2.1 I2.fzp
  have hi:i < ps.length:=by rw [lx]; exact (List.getElem?_eq_some_iff.mp hx).1
  have hi2:i < qs.length:=by rw [ly]; exact (List.getElem?_eq_some_iff.mp hy).1
  obtain ⟨x',ex,rx⟩:=f1.get (i:=i) (p:=ps[i]) (by simp [hi])
  obtain ⟨y',ey,ry⟩:=f2.get (i:=i) (p:=qs[i]) (by simp [hi2])
  rw [hx] at ex; cases ex
  rw [hy] at ey; cases ey
  have sn:=a0p (o:=.tup [x,y]) (I'.sn hT)
  refine ⟨_,I4,s'.trans sn,?_,by rw [List.length_append,hz]; rfl⟩
  rw [b6x (x:=ps[i]) (y:=qs[i]) (by simp [hi]) (by simp [hi2])]
  refine (r'.mono sn).append (RVs.one ⟨T,[x,y],rfl,a0e,?_⟩)
  exact ⟨x,_,rfl,(rx.mono s').mono sn,RVs.one ((ry.mono s').mono sn)⟩
 ·rintro H zs ⟨S',I',s',r',hz⟩
  obtain ⟨h1,h2,h3⟩:=I'.prs (A,.lst zs) Γn
  have I5:=I'.unprot I2.fzp
  have ht:(a2d ps qs).take (min xs.length ys.length)=a2d ps qs:=List.take_of_length_le (by simp [a2d]; lia)
  rw [ht] at r'
  refine k _ L2 q A S' H ⟨h2,_,zs,rfl,h1,r'⟩ ⟨I2.h0 hA,fr0.2.1,fun z u hz' hu hs=>?_⟩ I5 (s1.trans (s2.trans s'))
  by_cases mo:a0k C.md z=.own
  ·exact h3 z u mo hu hs
  ·have mo:a0k C.md z=.frz:=by cases t:a0k C.md z with | imm=>exact absurd t hz' | own=>exact absurd t mo | frz=>rfl
   obtain ⟨b',h4⟩:=I5.fzm z u mo hu
   obtain ⟨_,h5,_⟩:=I5.fzs _ h4
   rw [hs] at h5; cases h5
   obtain ⟨ys',h6⟩:=I2.fzp _ h4
   exact fr0.2.1 _ h6 rfl
end
@[scoped simp ↓] theorem d3l (a b:EW) (L:a0a) (Q:FV→a0a→Prop):c6m a b L Q=(a L fun x L1=>b L1 fun y L2=>wp (a3o x) fun xs=>wp (a3o y) fun ys=>min xs.length ys.length≤100000∧Q (.lst (a2d xs ys)) L2):=propext Iff.rfl
noncomputable def inW (tg:Tg) (t:BW) (e:EW):List FV→List FV→a0a→(List FV→a0a→Prop)→Prop
 | [],acc,L,Q=>Q acc L
 | y :: r,acc,L,Q=>gW tg y L fun L1=>t L1 fun b L2=>if b=true then e L2 fun v L3=>inW tg t e r (acc++[v]) L3 Q else inW tg t e r acc L2 Q
noncomputable def b0l (n m:Nat) (tg:Tg) (t:BW) (it2:AW) (tg2:Tg) (t2:BW) (e:EW):List FV→List FV→a0a→(List FV→a0a→Prop)→Prop
 | [],acc,L,Q=>Q acc L
 | x :: xs,acc,L,Q=>gW tg x (L++Γj m none) fun L1=>t L1 fun b L2=>if b=true then it2 L2 fun ys L3=>acc.length + ys.length≤big∧inW tg2 t2 e ys acc L3 fun acc' L4=>b0l n m tg t it2 tg2 t2 e xs acc' (L4.take n) Q else b0l n m tg t it2 tg2 t2 e xs acc (L2.take n) Q
noncomputable def d1i (n m:Nat) (it:AW) (tg:Tg) (t:BW) (it2:AW) (tg2:Tg) (t2:BW) (e:EW):EW:=fun L Q=>it L fun xs L1=>L1.length=n∧b0l n m tg t it2 tg2 t2 e xs [] L1 fun ys L2=>Q (.lst ys) L2
noncomputable def liv (K:Γd) (md:Md) (it:AW):TI:=fun σ H R=>∃ c L S Q0,Iv K c md L σ S H∧it L Q0∧∀ xs L',Q0 xs L'→∀ J S' H',Iv K c md L' σ S' H'→(∀ c md,ItR K c md J xs S')→Same S S'→R J H'
noncomputable def FIv (X:Cx) (C:CC) (tg iter:Expr) (it:AW):Prop:=PI X.nox tg iter (liv X.K C.md it)
section
variable {X:Cx} {C:CC} {n:Nat} {sp:Γd→Nat→Sp} {a b tg:Expr} {ea eb:EW} {pos p:Pos}
end
section
variable {K:Γd} {c:Cn} {md:Md} {L:a0a} {σ:L2.St} {S H:Hp}
theorem d0p {n:Nat} {it2:AW} {tg:Tg} {t:BW} {e:EW} {acc:Addr} {us:List V} {ps:List FV} {Q1:List FV→a0a→Prop} {R:L2.St→Hp→Prop} (I:Iv K { c with pr:=(acc,.lst us) :: c.pr } md L σ S H)
  (h0:c.H0 acc=none) (hp:∀ p∈c.pr,p.1≠acc) (hz:∀ p∈c.fz,∃ o,(p.2,o)∈c.pr) (r:RVs K S ps us) (ht:a4w md tg=true) (hg:a9h n tg=true)
  (hh:it2 L fun ys L1=>ps.length + ys.length≤big∧inW tg t e ys ps L1 Q1)
  (k:∀ ps' us' L' σ' S' H',Q1 ps' L'→Iv K { c with pr:=(acc,.lst us') :: c.pr } md L' σ' S' H'→RVs K S' ps' us'→Same S S'→σ'.length=σ.length→(∀ q,q < n→σ'[q]?=σ[q]?)→R σ' H') :
  tIn (liv K md it2) (gT K tg) (lb K md t) (lv K md e) acc σ H R:=by
 have hbl:=a1m
 refine ⟨_,L,S,_,I,hh,fun ys L1 hx J S1 H1 I1 hJ s1=>?_⟩
 obtain ⟨hb,hc⟩:=hx
 let W:Nat→Nat→L2.St→Hp→Prop:=fun i j σ' H'=>∃ L' S' ps' us',j=(ys.drop i).length∧Iv K { c with pr:=(acc,.lst us') :: c.pr } md L' σ' S' H'∧RVs K S' ps' us'∧Same S1 S'∧σ'.length=σ.length∧(∀ q,q < n→σ'[q]?=σ[q]?)∧ps'.length≤ps.length + i∧inW tg t e (ys.drop i) ps' L' Q1
 refine ⟨W,⟨_,L1,S1,ps,us,rfl,I1,r.mono s1,Same.refl _,rfl,fun _ _=>rfl,Γi _,by rw [List.drop_zero]; exact hc⟩,?_⟩
 rintro i j σ' H' ⟨L',S',ps',us',rfl,I',r',s',hl,far0,hps,hc⟩
 obtain ⟨j1,j2⟩:=hJ _ _ i L' σ' S' H' I' s'
 cases hd:ys.drop i with
 | nil =>
  left
  rw [hd] at hc
  exact ⟨j1 (List.getElem?_eq_none_iff.mpr (List.drop_eq_nil_iff.mp hd)),k ps' us' L' σ' S' H' hc I' r' (s1.trans s') hl far0⟩
 | cons p rest =>
  right
  rw [hd] at hc
  have hi:ys[i]?=some p:=by
   have:=congrArg (·[0]?) hd
   simpa using this
  have hd':ys.drop (i + 1)=rest:=by
   have:=congrArg List.tail hd
   simpa [List.tail_drop] using this
  have hix:i < ys.length:=(List.getElem?_eq_some_iff.mp hi).1
  obtain ⟨go,yl⟩:=j2 p hi
  refine ⟨go,fun x H2 y=>?_⟩
  obtain ⟨S2,s2,tr,rx⟩:=yl x H2 y
  have I2:=tr _ _ _ _ I'
  obtain ⟨σ2,L2,gq,q2,I2,len2,far⟩:=b0d ht I2 rx hc
  refine gq _ ?_
  refine ⟨_,L2,S2,_,I2,q2,fun b L3 hb3 S3 H3 I3 s3=>?_⟩
  cases b with
  | false =>
   rw [if_neg Γk] at hb3 ⊢
   exact ⟨rest.length,by simp,L3,S3,ps',us',by rw [hd'],I3,r'.mono (s2.trans s3),s'.trans (s2.trans s3),len2.trans hl,fun q hq=>(far n hg q hq).trans (far0 q hq),by lia,by rw [hd']; exact hb3⟩
  | true =>
   rw [if_pos rfl] at hb3 ⊢
   refine ⟨_,L3,S3,_,I3,hb3,fun v L4 hv u S4 H4 r4 I4 s4=>?_⟩
   obtain ⟨k1,_⟩:=I4.prs (acc,.lst us') Γn
   have lr:=r'.length
   exact ⟨us',k1,by lia,rest.length,by simp,L4,S4,ps'++[v],us'++[u],by rw [hd'],I4.regrow h0 hp hz,(r'.mono (s2.trans (s3.trans s4))).append (RVs.one r4),s'.trans (s2.trans (s3.trans s4)),len2.trans hl,fun q hq=>(far n hg q hq).trans (far0 q hq),by simp; lia,by rw [hd']; exact hv⟩
theorem b9f {J:It} {xs:List FV} {n m:Nat} {tg:Tg} {t:BW} {it2:AW} {tg2:Tg} {t2:BW} {e:EW} {Q:VK} {Q1:List FV→a0a→Prop} (I:Iv K c md L σ S H) (hJ:ItR K c md J xs S) (hL:L.length=n) (hmd:md.length≤n) (ht:a4w md tg=true) (hg:a9h n tg=true) (ht2:a4w md tg2=true) (hg2:a9h n tg2=true) (h:b0l n m tg t it2 tg2 t2 e xs [] L Q1)
  (k:∀ acc ps L' S' H',H acc=none→Q1 ps L'→a3n K S' H' acc (.lst ps)→b1z c md L' σ acc→Iv K c md L' σ S' H'→Same S S'→Q (.ref acc) H') :
  ∀ acc,H acc=none→∃ W:Nat→Nat→Hp→Prop,(∃ m,W 0 m (upd H acc (.lst [])))∧∀ i j H,W i j H →
   (J.stop i H∧Q (.ref acc) H) ∨ (J.go i H∧∀ x H',J.yld i H x H'→gT K tg x (σ++Γj m none) H' fun σ2 H2=>Wk (σ++Γj m none) σ2∧lb K md t σ2 H2 fun b H3 =>
    if b=true then tIn (liv K md it2) (gT K tg2) (lb K md t2) (lv K md e) acc σ2 H3 fun σ3 H4=>Wk (σ++Γj m none) σ3∧∃ m',m' < j∧W (i + 1) m' H4 else ∃ m',m' < j∧W (i + 1) m' H3):=by
 intro acc hacc
 have h0:=I.h0 hacc
 have hp:∀ p∈c.pr,p.1≠acc:=(I.fresh hacc).2.1
 have hz:=I.fzp
 have hl:σ.length=n:=by rw [← I.len]; exact hL
 let W:Nat→Nat→Hp→Prop:=fun i j H1=>∃ L S1 ps us,j=(xs.drop i).length∧Iv K { c with pr:=(acc,.lst us) :: c.pr } md L σ S1 H1∧RVs K S1 ps us∧Same S S1∧L.length=n∧b0l n m tg t it2 tg2 t2 e (xs.drop i) ps L Q1
 have I1:Iv K { c with pr:=(acc,.lst []) :: c.pr } md L σ S (upd H acc (.lst [])):=(I.lay hacc _).prot a0e (I.sn hacc) fun j w hm hj=>(I.fresh hacc).2.2 j w (fun z=>by rw [hm] at z; cases z) hj
 refine ⟨W,⟨_,L,S,[],[],rfl,I1,rfl,Same.refl S,hL,by rw [List.drop_zero]; exact h⟩,?_⟩
 rintro i j H1 ⟨L,S1,ps,us,rfl,I,r,s,hL,hc⟩
 have I0:=I.unprot hz
 obtain ⟨j1,j2⟩:=hJ i L σ S1 H1 I0 s
 obtain ⟨g1,g2,g3⟩:=I.prs (acc,.lst us) Γn
 cases hd:xs.drop i with
 | nil =>
  left
  rw [hd] at hc
  refine ⟨j1 (List.getElem?_eq_none_iff.mpr (List.drop_eq_nil_iff.mp hd)),k acc ps L S1 H1 hacc hc ⟨g2,ps,us,rfl,g1,r⟩ ⟨h0,hp,fun q w hm hq hs=>?_⟩ I0 s⟩
  by_cases mo:a0k md q=.own
  ·exact g3 q w mo hq hs
  ·have mo:a0k md q=.frz:=by cases z:a0k md q with | imm=>exact absurd z hm | own=>exact absurd z mo | frz=>rfl
   obtain ⟨b,f1⟩:=I0.fzm q w mo hq
   obtain ⟨_,f2,_⟩:=I0.fzs _ f1
   rw [hs] at f2; cases f2
   obtain ⟨ys,f3⟩:=hz _ f1
   exact hp _ f3 rfl
 | cons p rest =>
  right
  rw [hd] at hc
  have hi:xs[i]?=some p:=by
   have:=congrArg (·[0]?) hd
   simpa using this
  have hd':xs.drop (i + 1)=rest:=by
   have:=congrArg List.tail hd
   simpa [List.tail_drop] using this
  have hix:i < xs.length:=(List.getElem?_eq_some_iff.mp hi).1
  obtain ⟨go,yl⟩:=j2 p hi
  refine ⟨go,fun x H2 y=>?_⟩
  obtain ⟨S2,s2,tr,rx⟩:=yl x H2 y
  have I2:=(tr _ _ _ _ I).more m
  obtain ⟨σ2,L2,gq,q2,I2,len2,far⟩:=b0d ht I2 rx hc
  have l2:n≤σ2.length:=by rw [len2,List.length_append,hl]; lia
  have far':∀ q,q < n→σ2[q]?=σ[q]?:=fun q hq=>by rw [far n hg q hq,List.getElem?_append_left (by rw [hl]; exact hq)]
  have wk:∀ {σ3:List (Option V)},σ3.length=(σ++Γj m none).length→(∀ q,q < n→σ3[q]?=σ[q]?)→Wk (σ++Γj m none) σ3:=fun {σ3} hl3 f3=>⟨hl3,fun q v hv=>by
   have hq:q < n:=by
    by_cases h:q < σ.length
    ·rw [← hl]; exact h
    ·rw [List.getElem?_append_right (by lia),List.getElem?_replicate] at hv
     split at hv <;> cases hv
   rw [List.getElem?_append_left (by rw [hl]; exact hq)] at hv
   rw [f3 q hq]; exact hv⟩
  refine gq _ ⟨wk len2 far',?_⟩
  refine ⟨_,L2,S2,_,I2,q2,fun b L3 hb3 S3 H3 I3 s3=>?_⟩
  cases b with
  | false =>
   rw [if_neg Γk] at hb3 ⊢
   exact ⟨rest.length,by simp,L3.take n,S3,ps,us,by rw [hd'],I3.take hmd hl l2 far',r.mono (s2.trans s3),s.trans (s2.trans s3),by rw [List.length_take,I3.len]; lia,by rw [hd']; exact hb3⟩
  | true =>
   rw [if_pos rfl] at hb3 ⊢
   refine d0p (n:=n) I3 h0 hp hz (r.mono (s2.trans s3)) ht2 hg2 hb3 fun ps' us' L' σ' S' H' q' I' r' s' hl' f'=>?_
   have f'':∀ q,q < n→σ'[q]?=σ[q]?:=fun q hq=>(f' q hq).trans (far' q hq)
   exact ⟨wk (hl'.trans len2) f'',rest.length,by simp,L'.take n,S',ps',us',by rw [hd'],I'.take hmd hl (by rw [hl']; exact l2) f'',r',s.trans (s2.trans (s3.trans s')),by rw [List.length_take,I'.len,hl']; lia,by rw [hd']; exact q'⟩
end
section
variable {X:Cx} {C:CC} {n:Nat} {sp:Γd→Nat→Sp} {pos p px:Pos} {i:Nat} {nx:Str} {fr:Bool}
variable {scope:Scope} {own:List Str} {elt tgx iter tgx2 iter2:Expr} {ifs ifs2:List Expr} {it it2:AW} {tg tg2:Tg} {t t2:BW} {e:EW} {nn m:Nat} {md':Md}
structure CompOk2 (X:Cx) (C:CC) (n:Nat) (sp:Γd→Nat→Sp) (scope:Scope) (own:List Str) (elt tgx iter:Expr) (ifs:List Expr) (tgx2 iter2:Expr) (ifs2:List Expr) (nn m:Nat) (md':Md) (it:AW) (tg:Tg) (t:BW) (it2:AW) (tg2:Tg) (t2:BW) (e:EW):Prop where
 st:(C.scOk scope own && decide (C.N.length=nn) && decide (own.length=m) && decide (md'.length≤nn) && c9x C.md md' && a4w md' tg && a9h nn tg && !b7t iter)=true
 st2:(a4w md' tg2 && a9h nn tg2 && !b7t iter2)=true
 it:FI X C md' tgx iter it
 tg:∀ X',Good X' (C.sub scope own md') n sp→FG X' tgx tg
 ts:∀ X',Good X' (C.sub scope own md') n sp→FTs X' (C.sub scope own md') ifs t
 it2:∀ X',Good X' (C.sub scope own md') n sp→FIv X' (C.sub scope own md') tgx2 iter2 it2
 tg2:∀ X',Good X' (C.sub scope own md') n sp→FG X' tgx2 tg2
 ts2:∀ X',Good X' (C.sub scope own md') n sp→FTs X' (C.sub scope own md') ifs2 t2
 el:∀ X',Good X' (C.sub scope own md') n sp→FE X' (C.sub scope own md') elt e
theorem CompOk2.run (G:Good X C n sp) (h:CompOk2 X C n sp scope own elt tgx iter ifs tgx2 iter2 ifs2 nn m md' it tg t it2 tg2 t2 e) {σ:L2.St} {H:Hp} {Q:VK} (hq:lf X.K C.md (d1i nn m it tg t it2 tg2 t2 e) σ H Q):c7t (li X.K C.md md' it) (gT X.K tg) (lb X.K md' t) (liv X.K md' it2) (gT X.K tg2) (lb X.K md' t2) (lv X.K md' e) own.length σ H Q:=by
 have h0:=b2 h.st; have h1:=b2 h0.1; have h2:=b2 h1.1; have h3:=b2 h2.1; have h4:=b2 h3.1; have h5:=b2 h4.1; have h6:=b2 h5.1
 have g0:=b2 h.st2; have g1:=b2 g0.1
 obtain ⟨c,L,S,Q0,I,hh,k⟩:=hq
 refine ⟨c,L,S,_,I,hh,fun xs L1 hx J c' S1 H1 I1 un e0 hJ s1=>?_⟩
 obtain ⟨hl,hc⟩:=hx
 rw [de h5.2]
 refine b9f I1 hJ hl (de h4.2) h2.2 h1.2 g1.1 g1.2 hc fun acc ps L' S' H' hn q o fr I' s'=>k _ L' q acc S' H' o ⟨by rw [← e0]; exact fr.1,((un _ _ _ _ I1).fresh hn).2.1,fun j w hm=>fr.2.2 j w (a8d h3.2 j hm)⟩ (un _ _ _ _ I') (s1.trans s')
end
noncomputable def ePop (i:Nat):EW:=fun L Q=>wp (lk L i) fun v=>wp (a6w v) fun xs=>wp (xs[xs.length - 1]?) fun y=>Q y (L.set i (some (.lst xs.dropLast)))
noncomputable def popI (xs:List FV) (k:Int):Option FV:=if 0≤k∧k < 4611686018427387904 then xs[k.toNat]? else none
noncomputable def ePopAt (i:Nat) (a:EW):EW:=fun L Q=>wp (lk L i) fun v=>wp (a6w v) fun _=>a L fun w L1=>wp (a2t w) fun k=>wp (lk L1 i) fun x=>wp (a6w x) fun xs=>wp (popI xs k) fun y=>Q y (L1.set i (some (.lst (xs.eraseIdx k.toNat))))
section
variable {K:Γd} {S:Hp}
end
section
variable {X:Cx} {C:CC} {n:Nat} {sp:Γd→Nat→Sp} {a:Expr} {ea:EW} {pos p:Pos} {i:Nat} {nx:Str}
end
end Kq
end
section
namespace L2
open PySem PySem.Spec PyProof.Rows
section
variable {X:Cx} {a e k:Expr} {ta te tk:TE} {pos p2:Pos}
end
end L2
namespace Kq
open PySem PySem.Spec PyProof.Rows L2
noncomputable def turnLF (v:FV):Option FV:=(a6w v).map fun xs=>.lst xs.reverse
section
variable {X:Cx} {C:CC} {a:Expr} {ea:EW} {pos:Pos}
end
end Kq
end
section
namespace L2
open PySem PySem.Spec PyProof.Rows
section
variable {X:Cx} {pos:Pos}
end
end L2
namespace Kq
open PySem PySem.Spec PyProof.Rows L2
section
variable {X:Cx} {C:CC} {n:Nat} {sp:Γd→Nat→Sp} {a b d:Expr} {ea eb ed:EW} {pos px py pz:Pos} {i j l:Nat} {nx ny nz:Str} {fr:Bool}
end
end Kq
end
section
namespace Kq
open PySem PySem.Spec PyProof.Rows L2
noncomputable def eMv (j:Nat):EW:=fun L Q=>wp (lk L j) fun v=>Q v (L.set j none)
noncomputable def eCallT (call:CW) (f:Nat) (ea:EW) (as:AW):EW:=fun L Q=>ea L fun v L1=>as L1 fun vs L2=>call f (v :: vs) fun z=>Q z.1 L2
section
variable {X:Cx} {C:CC} {n:Nat} {sp:Γd→Nat→Sp} {a b:Expr} {ea eb:EW} {pos p:Pos} {call:CW}
variable {K:Γd} {c:Cn} {md:Md} {L:a0a} {σ:L2.St} {S H S' H':Hp} {i j f:Nat} {nx:Str} {xs:List Expr} {as:AW}
theorem a3c {L:a0a} {j i:Nat} {v:FV} (z:(L.set j none)[i]?=some (some v)):i≠j∧L[i]?=some (some v):=by
 by_cases q:i=j
 ·subst q
  have hj:i < L.length:=by have:=(List.getElem?_eq_some_iff.mp z).1; rwa [List.length_set] at this
  rw [List.getElem?_set_self hj] at z; cases z
 ·rw [List.getElem?_set_ne (Ne.symm q)] at z; exact ⟨q,z⟩
theorem Iv.drop (I:Iv K c md L σ S H) (hm:a0k md j=.own) (hj:j≠0):Iv K c md (L.set j none) σ S H where
 len:=by rw [List.length_set]; exact I.len
 imm:=fun i v h e=>I.imm i v h (a3c e).2
 own:=fun i v h e=>I.own i v h (a3c e).2
 dis:=fun i k v w a h1 h2 e1 e2=>I.dis i k v w a h1 h2 (a3c e1).2 (a3c e2).2
 sub:=I.sub
 frame:=I.frame
 s0:=I.s0
 grow:=I.grow
 lent:=fun a h=>by
  obtain ⟨g1,g2,g3⟩:=I.lent a h
  rw [List.getElem?_set_ne hj]; exact ⟨g1,g2,g3⟩
 fzs:=fun p hp=>by
  obtain ⟨g1,g2,g3⟩:=I.fzs p hp
  have:p.1≠j:=fun z=>by rw [z,hm] at g1; cases g1
  rw [List.getElem?_set_ne (Ne.symm this)]; exact ⟨g1,g2,g3⟩
 fzm:=fun i v h e=>I.fzm i v h (a3c e).2
 fzp:=I.fzp
 prs:=fun p hp=>let ⟨g1,g2,g3⟩:=I.prs p hp; ⟨g1,g2,fun i v h e=>g3 i v h (a3c e).2⟩
 ntp:=I.ntp
end
noncomputable def sFrz (j:Nat) (r:SW):SW:=fun L Q=>wp (lk L j) fun _=>r L fun fl L'=>Q fl (L'.set j none)
section
variable {X:Cx} {C:CC} {n:Nat} {sp:Γd→Nat→Sp} {fr:Bool} {sts:List Stmt} {r:SW}
variable {K:Γd} {c:Cn} {md md':Md} {L:a0a} {σ:L2.St} {S H:Hp} {j:Nat}
end
end Kq
end
set_option maxHeartbeats 1000000
set_option maxHeartbeats 4000000
section
namespace Kq
open PySem PySem.Spec PyProof.Rows L2 PySem.W
noncomputable def gA (a:Array Keyed) (i:Nat):Keyed:=a.getD i (.none,.none)
theorem a2z {a:Array Keyed} {i:Nat} (h:i < a.size):a[i]?=some (gA a i):=by
 simp [gA,Array.getD_eq_getD_getElem?,getElem?_pos a i h]
theorem a2n {a b:Array Keyed} {i j:Nat} (h:a[i]?=b[j]?):gA a i=gA b j:=by
 simp only [gA,Array.getD_eq_getD_getElem?,h]
structure Cmp (prog:Program) (w:World) (A:Around) (E:Value→Shared→Prop) (s:Shared) (kd:SortKind) (Ok:Keyed→Prop) (lt:Keyed→Keyed→Bool):Prop where
 run:∀ x y,Ok x→Ok y→∀ (st:SortSt) (Q:Option Bool→SortSt→Prop),kindOf st=kd→Q (some (lt x y)) st→wpS (model prog w) A E s (lt' x y) Q st
 refl:∀ x,lt x x=false
 trans:∀ x y z,lt y x=false→lt z y=false→lt z x=false
 asym:∀ x y,lt x y=true→lt y x=false
noncomputable def Srt (lt:Keyed→Keyed→Bool) (a:Array Keyed) (lo hi:Nat):Prop:=∀ i j,lo≤i→i≤j→j < hi→lt (gA a j) (gA a i)=false
noncomputable def Dsc (lt:Keyed→Keyed→Bool) (a:Array Keyed) (lo hi:Nat):Prop:=∀ i j,lo≤i→i≤j→j < hi→lt (gA a i) (gA a j)=false
noncomputable def Out (a b:Array Keyed) (lo hi:Nat):Prop:=b.Perm a∧∀ k,k < lo ∨ hi≤k→gA b k=gA a k
theorem Out.refl (a:Array Keyed) (lo hi:Nat):Out a a lo hi:=⟨Array.Perm.refl _,fun _ _=>rfl⟩
theorem Out.trans {a b c:Array Keyed} {lo hi:Nat} (h:Out a b lo hi) (g:Out b c lo hi):Out a c lo hi:=⟨g.1.trans h.1,fun k hk=>(g.2 k hk).trans (h.2 k hk)⟩
theorem Out.size {a b:Array Keyed} {lo hi:Nat} (h:Out a b lo hi):b.size=a.size:=h.1.size_eq
theorem Out.wide {a b:Array Keyed} {lo hi lo' hi':Nat} (h:Out a b lo hi) (h1:lo'≤lo) (h2:hi≤hi'):Out a b lo' hi':=⟨h.1,fun k hk=>h.2 k (by lia)⟩
noncomputable def AllOk (Ok:Keyed→Prop) (a:Array Keyed):Prop:=∀ x∈a.toList,Ok x
theorem AllOk.at {Ok:Keyed→Prop} {a:Array Keyed} (h:AllOk Ok a) {i:Nat} (hi:i < a.size):Ok (gA a i):=by
 refine h _ ?_
 have:=a2z hi
 rw [← Array.getElem?_toList] at this
 exact List.mem_of_getElem? this
theorem AllOk.perm {Ok:Keyed→Prop} {a b:Array Keyed} (h:AllOk Ok a) (p:b.Perm a):AllOk Ok b:=fun x hx=>h x ((Array.perm_iff_toList_perm.mp p).mem_iff.mp hx)
theorem Srt.out {lt:Keyed→Keyed→Bool} {a b:Array Keyed} {lo hi l h:Nat} (s:Srt lt a l h) (o:Out a b lo hi) (d:h≤lo ∨ hi≤l):Srt lt b l h:=fun i j h1 h2 h3=>by
 rw [o.2 i (by lia),o.2 j (by lia)]; exact s i j h1 h2 h3
theorem a4k {a:Array Keyed} {i j:Nat} (hj:j≤a.size) (k:Nat):gA (mirror a i j ((j - i) / 2)) k=if i≤k∧k < j then gA a (i + j - 1 - k) else gA a k:=by
 have e:=getElem?_mirror_all (i:=i) hj k
 split
 ·rename_i h; rw [if_pos h] at e; exact a2n e
 ·rename_i h; rw [if_neg h] at e; exact a2n e
theorem a2j {a:Array Keyed} {i j:Nat} (hj:j≤a.size):Out a (mirror a i j ((j - i) / 2)) i j:=⟨mirror_perm _ _ _ _,fun k hk=>by rw [a4k hj,if_neg (by lia)]⟩
section
variable {prog:Program} {w:World} {A:Around} {E:Value→Shared→Prop} {s:Shared} {kd:SortKind} {Ok:Keyed→Prop} {lt:Keyed→Keyed→Bool}
abbrev stA (kd:SortKind) (a:Array Keyed) (p:Array (Nat×Nat×Nat)) (g:Nat):SortSt:=SortSt.mk' kd a p g none
theorem ask (C:Cmp prog w A E s kd Ok lt) {a:Array Keyed} {p:Array (Nat×Nat×Nat)} {g i j:Nat} {Q:Option Bool→SortSt→Prop} (ho:AllOk Ok a) (hi:i < a.size) (hj:j < a.size) (h:Q (some (lt (gA a i) (gA a j))) (stA kd a p g)):wpS (model prog w) A E s (ltAt' i j) Q (stA kd a p g):=by
 rw [ltAt'_eq]
 refine wpS_bind (wpS_get ?_)
 show wpS _ _ _ _ (do let x ← elem' a i; let y ← elem' a j; lt' x y) Q _
 rw [elem'_eq,elem'_eq,a2z hi,a2z hj]
 exact wpS_bind (wpS_pure (wpS_bind (wpS_pure (C.run _ _ (ho.at hi) (ho.at hj) _ _ rfl h))))
theorem turned {a:Array Keyed} {p:Array (Nat×Nat×Nat)} {g i j:Nat} {Q:Unit→SortSt→Prop} (h:Q () (stA kd (mirror a i j ((j - i) / 2)) p g)):wpS (model prog w) A E s (reverseSlice' i j) Q (stA kd a p g):=by
 rw [reverseSlice'_eq]; exact wpS_modify h
theorem d6c {a:Array Keyed} {p:Array (Nat×Nat×Nat)} {g i j:Nat} {Q:Unit→SortSt→Prop} (h:Q () (stA kd (bubble a i (i - j)) p g)):wpS (model prog w) A E s (moveDown' i j) Q (stA kd a p g):=by
 rw [moveDown'_eq]; exact wpS_modify h
noncomputable def Eqv (lt:Keyed→Keyed→Bool) (a:Array Keyed) (lo hi:Nat):Prop:=∀ i j,lo≤i→i < hi→lo≤j→j < hi→lt (gA a i) (gA a j)=false
theorem a4h {a:Array Keyed} {l hi k:Nat} (hj:hi≤a.size) (hk:k < hi):∃ k',k' < hi∧gA (mirror a l hi ((hi - l) / 2)) k=gA a k'∧(k < l→k'=k)∧(l≤k→l≤k'):=by
 rw [a4k hj]
 split
 ·exact ⟨l + hi - 1 - k,by lia,rfl,by lia,by lia⟩
 ·exact ⟨k,hk,rfl,fun _=>rfl,fun h=>h⟩
theorem a5a (C:Cmp prog w A E s kd Ok lt) {a:Array Keyed} {lo l hi:Nat} (hj:hi≤a.size) (hd:Dsc lt a lo hi) (he:Eqv lt a l hi) (hl:lo≤l):Dsc lt (mirror a l hi ((hi - l) / 2)) lo hi:=by
 intro i j h1 h2 h3
 obtain ⟨i',i1,i2,i3,i4⟩:=a4h (l:=l) hj (show i < hi by lia)
 obtain ⟨j',j1,j2,j3,j4⟩:=a4h (l:=l) hj h3
 rw [i2,j2]
 by_cases hi':i < l
 ·have e:=i3 hi'
  subst e
  by_cases hj':j < l
  ·have e:=j3 hj'
   subst e
   exact hd _ _ h1 h2 h3
  ·exact hd _ _ h1 (by have:=j4 (by lia); lia) j1
 ·exact he _ _ (i4 (by lia)) i1 (j4 (by lia)) j1
theorem b4a {a:Array Keyed} {lo hi:Nat} (hj:hi≤a.size) (hd:Dsc lt a lo hi):Srt lt (mirror a lo hi ((hi - lo) / 2)) lo hi:=by
 intro i j h1 h2 h3
 rw [a4k hj,a4k hj,if_pos ⟨by lia,h3⟩,if_pos ⟨h1,by lia⟩]
 exact hd _ _ (by lia) (by lia) (by lia)
theorem b2h (C:Cmp prog w A E s kd Ok lt) {b:Array Keyed} {lo x:Nat} (hs:Srt lt b lo (lo + x)) (hx:1≤x) (hl:lt (gA b (lo + x)) (gA b (lo + x - 1))=false):Srt lt b lo (lo + (x + 1)):=by
 intro i j h1 h2 h3
 by_cases hj:j < lo + x
 ·exact hs i j h1 h2 hj
 ·have:j=lo + x:=by lia
  subst this
  by_cases hi:i=lo + x
  ·rw [hi]; exact C.refl _
  ·exact C.trans _ _ _ (hs i (lo + x - 1) h1 (by lia) (by lia)) hl
theorem a4o (C:Cmp prog w A E s kd Ok lt) {b:Array Keyed} {lo x:Nat} (hs:Dsc lt b lo (lo + x)) (hx:1≤x) (hl:lt (gA b (lo + x - 1)) (gA b (lo + x))=false):Dsc lt b lo (lo + (x + 1)):=by
 intro i j h1 h2 h3
 by_cases hj:j < lo + x
 ·exact hs i j h1 h2 hj
 ·have:j=lo + x:=by lia
  subst this
  by_cases hi:i=lo + x
  ·rw [hi]; exact C.refl _
  ·exact C.trans _ _ _ hl (hs i (lo + x - 1) h1 (by lia) (by lia))
theorem c8d (C:Cmp prog w A E s kd Ok lt) {a:Array Keyed} {p:Array (Nat×Nat×Nat)} {g lo n:Nat} {Q:Option Nat→SortSt→Prop} (ho:AllOk Ok a) (h1:1≤n) (hn:lo + n≤a.size)
  (h:∀ m b,1≤m→m≤n→Out a b lo (lo + n)→Srt lt b lo (lo + m)→Q (some m) (stA kd b p g)):wpS (model prog w) A E s (countRun' lo n) Q (stA kd a p g):=by
 rw [countRun'_eq]
 refine wpS_bind (wpS_mono (wpS_forRange (I:=fun x c st'=>st'=stA kd a p g∧c=(none,x)∧Srt lt a lo (lo + x))
  (Q:=fun c st'=>∃ m,st'=stA kd a p g∧c=(none,m)∧1≤m∧m≤n∧Srt lt a lo (lo + m)∧(m=n ∨ lt (gA a (lo + m)) (gA a (lo + m - 1))=true)) ?_ ?_ ⟨rfl,rfl,fun i j h1 h2 h3=>?_⟩) ?_)
 ·rintro x c st' hx hxn ⟨rfl,rfl,hs⟩
  dsimp only
  refine wpS_bind (ask C ho (by lia) (by lia) ?_)
  cases e:lt (gA a (lo + x)) (gA a (lo + x - 1)) with
  | true=>exact wpS_pure ⟨x,rfl,rfl,hx,by lia,hs,.inr e⟩
  | false=>exact wpS_pure ⟨rfl,rfl,b2h C hs hx e⟩
 ·rintro c st' ⟨rfl,rfl,hs⟩
  rw [show max 1 n=n by lia] at hs ⊢
  exact ⟨n,rfl,rfl,h1,Γi _,hs,.inl rfl⟩
 ·have:i=j:=by lia
  subst this; exact C.refl _
 rintro c st' ⟨m,rfl,rfl,hm1,hmn,hs,hor⟩
 dsimp only
 by_cases hm:m=n
 ·rw [if_pos (by simpa using hm)]
  exact wpS_pure (h m a hm1 hmn (Out.refl _ _ _) hs)
 rw [if_neg (by simpa using hm)]
 have hlt:=C.asym _ _ (hor.resolve_left hm)
 have one:m=1→Dsc lt a lo (lo + (m + 1)):=fun e=>a4o C (by
  intro i j h1 h2 h3
  have:i=j:=by lia
  subst this; exact C.refl _) hm1 hlt
 have two:lt (gA a lo) (gA a (lo + m - 1))=false→Out a (mirror a lo (lo + m) ((lo + m - lo) / 2)) lo (lo + n)∧Dsc lt (mirror a lo (lo + m) ((lo + m - lo) / 2)) lo (lo + (m + 1)):=by
  intro hr
  have hall:Eqv lt a lo (lo + m):=by
   intro i j h1 h2 h3 h4
   exact C.trans _ _ _ (C.trans _ _ _ (hs j (lo + m - 1) h3 (by lia) (by lia)) hr) (hs lo i (Γi _) h1 h2)
  have hsz:lo + m≤a.size:=by lia
  refine ⟨(a2j hsz).wide (Γi _) (by lia),?_⟩
  refine a4o C (a5a C hsz (fun i j h1 h2 h3=>hall i j h1 (by lia) (by lia) h3) hall (Γi _)) hm1 ?_
  rw [(a2j (i:=lo) hsz).2 (lo + m) (by lia)]
  obtain ⟨k',k1,k2,-,k4⟩:=a4h (l:=lo) hsz (show lo + m - 1 < lo + m by lia)
  rw [k2]
  exact C.trans _ _ _ hlt (hall _ _ (k4 (by lia)) k1 (by lia) (by lia))
 by_cases hgt:m > 1
 rw [if_pos hgt]
 refine wpS_bind (ask C ho (by lia) (by lia) ?_)
 rcases Bool.eq_false_or_eq_true (lt (gA a lo) (gA a (lo + m - 1))) with hr | hr
 rw [hr]
 exact wpS_pure (h m a hm1 hmn (Out.refl _ _ _) hs)
 rw [hr]
 refine wpS_bind (turned ?_)
 obtain ⟨hb,hd⟩:=two hr
 generalize mirror a lo (lo + m) ((lo + m - lo) / 2)=b at hb hd ⊢
 rotate_left
 rw [if_neg hgt]
 have hd:=one (by lia)
 have hb:=Out.refl a lo (lo + n)
 revert hb hd
 generalize hab:stA kd a p g=sa
 suffices h:∀ b,sa=stA kd b p g→Out a b lo (lo + n)→Dsc lt b lo (lo + (m + 1))→_ from fun hd hb=>h a hab.symm hb hd
 rintro b rfl hb hd
 all_goals
  clear hs hor hlt one two
  have hsz:=hb.size
  refine wpS_bind (wpS_lift (wpAny_rule ⟨rfl,?_⟩))
  refine wpS_bind (wpS_mono (wpS_forRange (I:=fun x c st'=>∃ b q,st'=stA kd b p g∧c=(none,x,q)∧Out a b lo (lo + n)∧Dsc lt b lo (lo + x)∧q + 1≤x∧Eqv lt b (lo + x - (q + 1)) (lo + x))
   (Q:=fun c st'=>∃ x b q,st'=stA kd b p g∧c=(none,x,q)∧1≤x∧x≤n∧Out a b lo (lo + n)∧Dsc lt b lo (lo + x)∧q + 1≤x∧Eqv lt b (lo + x - (q + 1)) (lo + x)) ?_ ?_ ⟨b,0,rfl,rfl,hb,hd,by lia,?_⟩) ?_)
  ·rintro x c st' hx hxn ⟨b,q,rfl,rfl,hb,hd,hq,he⟩
   have hsz:=hb.size
   have hok:=ho.perm hb.1
   dsimp only
   refine wpS_bind (ask C hok (by lia) (by lia) ?_)
   rcases Bool.eq_false_or_eq_true (lt (gA b (lo + x)) (gA b (lo + x - 1))) with hr | hr
   ·rw [hr]
    have hr':=C.asym _ _ hr
    have e0:∀ b':Array Keyed,Eqv lt b' (lo + (x + 1) - (0 + 1)) (lo + (x + 1)):=fun b' i j h1 h2 h3 h4=>by
     have:i=j:=by lia
     subst this; exact C.refl _
    simp only [if_true]
    by_cases h0:q > 0
    ·rw [if_pos h0]
     refine wpS_bind (turned (wpS_pure ?_))
     have hs2:lo + x≤b.size:=by lia
     have hom:=a2j (i:=lo + x - (q + 1)) hs2
     refine ⟨_,0,rfl,rfl,hb.trans (hom.wide (by lia) (by lia)),?_,by lia,e0 _⟩
     refine a4o C (a5a C hs2 hd he (by lia)) (by lia) ?_
     rw [hom.2 (lo + x) (by lia)]
     obtain ⟨k',k1,k2,-,k4⟩:=a4h (l:=lo + x - (q + 1)) hs2 (show lo + x - 1 < lo + x by lia)
     rw [k2]
     exact C.trans _ _ _ hr' (hd _ _ (by have:=k4 (by lia); lia) (by lia) (by lia))
    ·rw [if_neg h0]
     exact wpS_pure ⟨b,0,rfl,rfl,hb,a4o C hd (by lia) hr',by lia,e0 _⟩
   ·rw [hr]
    simp only [Γp,if_false]
    refine wpS_bind (ask C hok (by lia) (by lia) ?_)
    rcases Bool.eq_false_or_eq_true (lt (gA b (lo + x - 1)) (gA b (lo + x))) with hr2 | hr2
    ·rw [hr2]
     exact wpS_pure ⟨x,b,q,rfl,rfl,by lia,by lia,hb,hd,hq,he⟩
    ·rw [hr2]
     refine wpS_pure ⟨b,q + 1,rfl,rfl,hb,a4o C hd (by lia) hr2,by lia,fun i j h1 h2 h3 h4=>?_⟩
     by_cases hi:i=lo + x
     ·by_cases hj:j=lo + x
      ·rw [hi,hj]; exact C.refl _
      ·rw [hi]
       exact C.trans _ _ _ (he (lo + x - 1) j (by lia) (by lia) (by lia) (by lia)) hr
     ·by_cases hj:j=lo + x
      ·rw [hj]
       exact C.trans _ _ _ hr2 (he i (lo + x - 1) (by lia) (by lia) (by lia) (by lia))
      ·exact he i j (by lia) (by lia) (by lia) (by lia)
  ·rintro c st' ⟨b,q,rfl,rfl,hb,hd,hq,he⟩
   rw [show max (m + 1) n=n by lia] at *
   exact ⟨n,b,q,rfl,rfl,h1,Γi _,hb,hd,hq,he⟩
  ·intro i j h1 h2 h3 h4
   have:i=j:=by lia
   subst this; exact C.refl _
  rintro c st' ⟨x,b,q,rfl,rfl,hx1,hxn,hb,hd,hq,he⟩
  have hsz:=hb.size
  have hs2:lo + x≤b.size:=by lia
  dsimp only
  by_cases h0:q > 0
  rw [if_pos h0]
  refine wpS_bind (turned ?_)
  have hb2:=hb.trans ((a2j (i:=lo + x - (q + 1)) hs2).wide (show lo≤lo + x - (q + 1) by lia) (show lo + x≤lo + n by lia))
  have hd2:=a5a C hs2 hd he (show lo≤lo + x - (q + 1) by lia)
  clear hb hd he hsz hs2
  generalize mirror b (lo + x - (q + 1)) (lo + x) ((lo + x - (lo + x - (q + 1))) / 2)=b2 at hb2 hd2 ⊢
  rotate_left
  rw [if_neg h0]
  have hb2:=hb
  have hd2:=hd
  clear hb hd he hsz hs2
  generalize b=b2 at hb2 hd2 ⊢
  all_goals
   have hsz:=hb2.size
   have hs2:lo + x≤b2.size:=by lia
   refine wpS_bind (turned ?_)
   have hb3:=hb2.trans ((a2j (i:=lo) hs2).wide (Γi lo) (show lo + x≤lo + n by lia))
   have hs3:=b4a hs2 hd2
   generalize mirror b2 lo (lo + x) ((lo + x - lo) / 2)=b3 at hb3 hs3 ⊢
   have hok:=ho.perm hb3.1
   have hsz3:=hb3.size
   refine wpS_bind (wpS_mono (wpS_forRange (I:=fun x c st'=>st'=stA kd b3 p g∧c=(none,x)∧Srt lt b3 lo (lo + x))
    (Q:=fun c st'=>∃ m,st'=stA kd b3 p g∧c=(none,m)∧1≤m∧m≤n∧Srt lt b3 lo (lo + m)) ?_ ?_ ⟨rfl,rfl,hs3⟩) ?_)
   ·rintro y c st' hy hyn ⟨rfl,rfl,hs⟩
    dsimp only
    refine wpS_bind (ask C hok (by lia) (by lia) ?_)
    rcases Bool.eq_false_or_eq_true (lt (gA b3 (lo + y)) (gA b3 (lo + y - 1))) with e | e
    ·rw [e]; exact wpS_pure ⟨y,rfl,rfl,by lia,by lia,hs⟩
    ·rw [e]; exact wpS_pure ⟨rfl,rfl,b2h C hs (by lia) e⟩
   ·rintro c st' ⟨rfl,rfl,hs⟩
    rw [show max x n=n by lia] at hs ⊢
    exact ⟨n,rfl,rfl,h1,Γi _,hs⟩
   ·rintro c st' ⟨y,rfl,rfl,hy1,hyn,hs⟩
    exact wpS_pure (h y b3 hy1 hyn hb3 hs)
end
section
variable {prog:Program} {w:World} {A:Around} {E:Value→Shared→Prop} {s:Shared} {kd:SortKind} {Ok:Keyed→Prop} {lt:Keyed→Keyed→Bool}
theorem a5v {a:Array Keyed} {i d:Nat} (hi:i < a.size) (hd:d≤i) (k:Nat):gA (bubble a i d) k=if k=i - d then gA a i else if i - d < k∧k≤i then gA a (k - 1) else gA a k:=by
 have e:=getElem?_bubble hi d hd k
 split
 ·rename_i h; rw [if_pos h] at e; exact a2n e
 ·rename_i h
  rw [if_neg h] at e
  split
  ·rename_i h2; rw [if_pos h2] at e; exact a2n e
  ·rename_i h2; rw [if_neg h2] at e; exact a2n e
theorem d0o (C:Cmp prog w A E s kd Ok lt) {a:Array Keyed} {p:Array (Nat×Nat×Nat)} {g lo n ok:Nat} {Q:Bool→SortSt→Prop} (ho:AllOk Ok a) (h1:1≤ok) (hk:ok≤n) (hn:lo + n≤a.size) (hs:Srt lt a lo (lo + ok))
  (h:∀ b,Out a b lo (lo + n)→Srt lt b lo (lo + n)→Q true (stA kd b p g)):wpS (model prog w) A E s (binarySort' lo n ok) Q (stA kd a p g):=by
 rw [binarySort'_eq]
 refine wpS_bind (wpS_mono (wpS_forRange (I:=fun k c st'=>∃ b,st'=stA kd b p g∧c=(none,())∧Out a b lo (lo + n)∧Srt lt b lo (lo + k))
  (Q:=fun c st'=>∃ b,st'=stA kd b p g∧c=(none,())∧Out a b lo (lo + n)∧Srt lt b lo (lo + n)) ?_ ?_ ⟨a,rfl,rfl,Out.refl _ _ _,by rw [show max ok 1=ok by lia]; exact hs⟩) ?_)
 ·rintro k c st' hk1 hkn ⟨b,rfl,rfl,hb,hs⟩
  have hsz:=hb.size
  have hok:=ho.perm hb.1
  dsimp only
  refine wpS_bind (wpS_mono (wpS_forRange (I:=fun j c st'=>∃ l r,st'=stA kd b p g∧c=(none,l,r)∧l≤r∧r≤k∧r - l≤k - j∧(∀ i,i < l→lt (gA b (lo + k)) (gA b (lo + i))=false)∧∀ i,r≤i→i < k→lt (gA b (lo + i)) (gA b (lo + k))=false)
   (Q:=fun c st'=>∃ l r,st'=stA kd b p g∧c=(none,l,r)∧l≤k∧(∀ i,i < l→lt (gA b (lo + k)) (gA b (lo + i))=false)∧∀ i,l≤i→i < k→lt (gA b (lo + i)) (gA b (lo + k))=false) ?_ ?_ ⟨0,k,rfl,rfl,by lia,by lia,by lia,fun i hi=>by lia,fun i h1 h2=>by lia⟩) ?_)
  ·rintro j c st' - hj ⟨l,r,rfl,rfl,hlr,hrk,hm,g1,g2⟩
   dsimp only
   by_cases hge:l ≥ r
   ·rw [if_pos hge]
    exact wpS_pure ⟨l,r,rfl,rfl,by lia,g1,fun i h1 h2=>g2 i (by lia) h2⟩
   ·rw [if_neg hge]
    refine wpS_bind (ask C hok (by lia) (by lia) ?_)
    rcases Bool.eq_false_or_eq_true (lt (gA b (lo + k)) (gA b (lo + (l + r) / 2))) with e | e
    ·rw [e]
     have e':=C.asym _ _ e
     refine wpS_pure ⟨l,(l + r) / 2,rfl,rfl,by lia,by lia,by lia,g1,fun i h1 h2=>?_⟩
     exact C.trans _ _ _ e' (hs _ _ (by lia) (by lia) (by lia))
    ·rw [e]
     refine wpS_pure ⟨(l + r) / 2 + 1,r,rfl,rfl,by lia,by lia,by lia,fun i hi=>?_,g2⟩
     exact C.trans _ _ _ (hs (lo + i) (lo + (l + r) / 2) (by lia) (by lia) (by lia)) e
  ·rintro c st' ⟨l,r,rfl,rfl,hlr,hrk,hm,g1,g2⟩
   rw [show max 0 k=k by lia] at hm
   exact ⟨l,r,rfl,rfl,by lia,g1,fun i h1 h2=>g2 i (by lia) h2⟩
  ·rintro c st' ⟨l,r,rfl,rfl,hlk,g1,g2⟩
   dsimp only
   refine wpS_bind (d6c (wpS_pure ?_))
   have hi:lo + k < b.size:=by lia
   have hd:lo + k - (lo + l)≤lo + k:=by lia
   refine ⟨_,rfl,rfl,hb.trans ⟨bubble_perm _ _ _,fun x hx=>?_⟩,fun i j h1 h2 h3=>?_⟩
   ·rw [a5v hi hd,if_neg (by lia),if_neg (by lia)]
   ·rw [a5v hi hd,a5v hi hd]
    have el:lo + k - (lo + k - (lo + l))=lo + l:=by lia
    rw [el]
    by_cases j1:j=lo + l
    ·rw [if_pos j1]
     by_cases i1:i=lo + l
     ·rw [if_pos i1]; exact C.refl _
     ·rw [if_neg i1,if_neg (by lia)]
      have:=g1 (i - lo) (by lia)
      rwa [show lo + (i - lo)=i by lia] at this
    ·rw [if_neg j1]
     by_cases i1:i=lo + l
     ·rw [if_pos i1,if_pos (by lia)]
      have:=g2 (j - 1 - lo) (by lia) (by lia)
      rwa [show lo + (j - 1 - lo)=j - 1 by lia] at this
     ·rw [if_neg i1]
      by_cases j2:lo + l < j∧j≤lo + k
      ·rw [if_pos j2]
       by_cases i2:lo + l < i∧i≤lo + k
       ·rw [if_pos i2]; exact hs _ _ (by lia) (by lia) (by lia)
       ·rw [if_neg i2]; exact hs _ _ (by lia) (by lia) (by lia)
      ·rw [if_neg j2,if_neg (by lia)]
       exact hs _ _ (by lia) (by lia) (by lia)
 ·rintro c st' ⟨b,rfl,rfl,hb,hs⟩
  rw [show max (max ok 1) n=n by lia] at hs
  exact ⟨b,rfl,rfl,hb,hs⟩
 ·rintro c st' ⟨b,rfl,rfl,hb,hs⟩
  exact wpS_pure (h b hb hs)
end
noncomputable def gal:Bool→Keyed→Array Keyed→Nat→Nat→Nat→StateT SortSt Sem (Option Nat):=sortPriv% PySem.Builtin.gallop
theorem d0t (f:Bool) (k:Keyed) (r:Array Keyed) (b n h:Nat):gal f k r b n h=(do
 let yon (i:Nat):StateT SortSt Sem (Option Bool):=do
  let x ← elem' r (b + i); if f then lt' x k else return (← lt' k x).map (!·)
 let mut z:=0; let mut o:=1; let mut u:=0; let mut v:=0
 let some c ← yon h | return none
 if c then
  let m:=n - h
  for _ in [0:n] do
   if o ≥ m then break
   let some t ← yon (h + o) | return none
   if !t then break
   z:=o; o:=2 * o + 1
  u:=h + z + 1; v:=h + min o m
 else
  let m:=h + 1
  for _ in [0:n] do
   if o ≥ m then break
   let some t ← yon (h - o) | return none
   if t then break
   z:=o; o:=2 * o + 1
  u:=h + 1 - min o m; v:=h - z
 for _ in [0:n] do
  if u ≥ v then break
  let m:=u + (v - u) / 2
  let some t ← yon m | return none
  if t then u:=m + 1 else v:=m
 return some v):=rfl
section
variable {prog:Program} {w:World} {A:Around} {E:Value→Shared→Prop} {s:Shared} {kd:SortKind} {Ok:Keyed→Prop} {lt:Keyed→Keyed→Bool}
noncomputable def a2k (lt:Keyed→Keyed→Bool) (f:Bool) (k:Keyed) (r:Array Keyed) (b i:Nat):Bool:=if f=true then lt (gA r (b + i)) k else !lt k (gA r (b + i))
theorem a7d (C:Cmp prog w A E s kd Ok lt) {f:Bool} {k:Keyed} {r:Array Keyed} {b n h:Nat} {st:SortSt} {Q:Option Nat→SortSt→Prop} (hst:kindOf st=kd) (ho:AllOk Ok r) (hk:Ok k) (hn:b + n≤r.size) (hh:h < n)
  (hm:∀ i j,i≤j→j < n→a2k lt f k r b j=true→a2k lt f k r b i=true)
  (q:∀ t,t≤n→(∀ i,i < t→a2k lt f k r b i=true)→(∀ i,t≤i→i < n→a2k lt f k r b i=false)→Q (some t) st):wpS (model prog w) A E s (gal f k r b n h) Q st:=by
 have yon:∀ i,i < n→∀ {Q:Option Bool→SortSt→Prop},Q (some (a2k lt f k r b i)) st→wpS (model prog w) A E s (do let x ← elem' r (b + i); if f=true then lt' x k else do let y ← lt' k x; pure (y.map (!·))) Q st:=by
  intro i hi Q q
  rw [elem'_eq,a2z (show b + i < r.size by lia)]
  refine wpS_bind (wpS_pure ?_)
  have hx:=ho.at (show b + i < r.size by lia)
  unfold a2k at q
  cases f with
  | true=>simp only [if_true] at q ⊢; exact C.run _ _ hx hk _ _ hst q
  | false =>
   simp only [Γp,if_false] at q ⊢
   exact wpS_bind (C.run _ _ hk hx _ _ hst (wpS_pure q))
 rw [d0t]
 dsimp only
 refine wpS_bind (yon h hh ?_)
 have low:∀ i j,i≤j→j < n→a2k lt f k r b i=false→a2k lt f k r b j=false:=fun i j h1 h2 h3=>by
  cases e:a2k lt f k r b j with
  | false=>rfl
  | true=>rw [hm i j h1 h2 e] at h3; cases h3
 rcases Bool.eq_false_or_eq_true (a2k lt f k r b h) with c | c
 rw [c]
 simp only [if_true]
 refine wpS_bind (wpS_mono (wpS_forRange (I:=fun j c st'=>∃ z o,st'=st∧c=(none,z,o)∧z < o∧j + 1≤o∧h + z < n∧a2k lt f k r b (h + z)=true)
  (Q:=fun c st'=>∃ z o,st'=st∧c=(none,z,o)∧z < o∧h + z < n∧a2k lt f k r b (h + z)=true∧(n - h≤o ∨ a2k lt f k r b (h + o)=false)) ?_ ?_ ⟨0,1,rfl,rfl,by lia,by lia,by lia,c⟩) ?_)
 ·rintro j c st' - hj ⟨z,o,rfl,rfl,h1,h2,h3,h4⟩
  dsimp only
  by_cases hge:o ≥ n - h
  ·rw [if_pos hge]
   exact wpS_pure ⟨z,o,rfl,rfl,h1,h3,h4,.inl hge⟩
  ·rw [if_neg hge]
   refine wpS_bind (yon (h + o) (by lia) ?_)
   rcases Bool.eq_false_or_eq_true (a2k lt f k r b (h + o)) with e | e
   ·rw [e]
    exact wpS_pure ⟨o,2 * o + 1,rfl,rfl,by lia,by lia,by lia,e⟩
   ·rw [e]
    exact wpS_pure ⟨z,o,rfl,rfl,h1,h3,h4,.inr e⟩
 ·rintro c st' ⟨z,o,rfl,rfl,h1,h2,h3,h4⟩
  exact ⟨z,o,rfl,rfl,h1,h3,h4,.inl (by lia)⟩
 rintro c' st' ⟨z,o,hse,rfl,h1,h3,h4,h5⟩
 rw [hse]
 clear hse
 dsimp only
 obtain ⟨u,hu⟩:∃ u,u=h + z + 1:=⟨_,rfl⟩
 obtain ⟨v,hv⟩:∃ v,v=h + min o (n - h):=⟨_,rfl⟩
 have huv:u≤v:=by lia
 have hvn:v≤n:=by lia
 have hlo:∀ i,i < u→a2k lt f k r b i=true:=fun i hi=>hm i (h + z) (by lia) h3 h4
 have hhi:∀ i,v≤i→i < n→a2k lt f k r b i=false:=fun i h6 h7=>by
  rcases h5 with h5 | h5
  ·lia
  ·exact low (h + o) i (by lia) h7 h5
 rw [← hu,← hv]
 clear hu hv h1 h3 h4 h5 c
 rotate_left
 rw [c]
 simp only [Γp,if_false]
 refine wpS_bind (wpS_mono (wpS_forRange (I:=fun j c st'=>∃ z o,st'=st∧c=(none,z,o)∧z < o∧j + 1≤o∧z≤h∧a2k lt f k r b (h - z)=false)
  (Q:=fun c st'=>∃ z o,st'=st∧c=(none,z,o)∧z < o∧z≤h∧a2k lt f k r b (h - z)=false∧(h + 1≤o ∨ o≤h∧a2k lt f k r b (h - o)=true)) ?_ ?_ ⟨0,1,rfl,rfl,by lia,by lia,by lia,c⟩) ?_)
 ·rintro j c st' - hj ⟨z,o,rfl,rfl,h1,h2,h3,h4⟩
  dsimp only
  by_cases hge:o ≥ h + 1
  ·rw [if_pos hge]
   exact wpS_pure ⟨z,o,rfl,rfl,h1,h3,h4,.inl hge⟩
  ·rw [if_neg hge]
   refine wpS_bind (yon (h - o) (by lia) ?_)
   rcases Bool.eq_false_or_eq_true (a2k lt f k r b (h - o)) with e | e
   ·rw [e]
    exact wpS_pure ⟨z,o,rfl,rfl,h1,h3,h4,.inr ⟨by lia,e⟩⟩
   ·rw [e]
    exact wpS_pure ⟨o,2 * o + 1,rfl,rfl,by lia,by lia,by lia,e⟩
 ·rintro c st' ⟨z,o,rfl,rfl,h1,h2,h3,h4⟩
  exact ⟨z,o,rfl,rfl,h1,h3,h4,.inl (by lia)⟩
 rintro c' st' ⟨z,o,hse,rfl,h1,h3,h4,h5⟩
 rw [hse]
 clear hse
 dsimp only
 obtain ⟨u,hu⟩:∃ u,u=h + 1 - min o (h + 1):=⟨_,rfl⟩
 obtain ⟨v,hv⟩:∃ v,v=h - z:=⟨_,rfl⟩
 have huv:u≤v:=by lia
 have hvn:v≤n:=by lia
 have hlo:∀ i,i < u→a2k lt f k r b i=true:=fun i hi=>by
  rcases h5 with h5 | h5
  ·lia
  ·exact hm i (h - o) (by lia) (by lia) h5.2
 have hhi:∀ i,v≤i→i < n→a2k lt f k r b i=false:=fun i h6 h7=>low (h - z) i (by lia) h7 h4
 rw [← hu,← hv]
 clear hu hv h1 h3 h4 h5 c
 all_goals
  refine wpS_bind (wpS_mono (wpS_forRange (I:=fun j c st'=>∃ u v,st'=st∧c=(none,u,v)∧u≤v∧v≤n∧v - u≤n - j∧(∀ i,i < u→a2k lt f k r b i=true)∧∀ i,v≤i→i < n→a2k lt f k r b i=false)
   (Q:=fun c st'=>∃ v,st'=st∧c=(none,v,v)∧v≤n∧(∀ i,i < v→a2k lt f k r b i=true)∧∀ i,v≤i→i < n→a2k lt f k r b i=false) ?_ ?_ ⟨u,v,rfl,rfl,huv,hvn,by lia,hlo,hhi⟩) ?_)
  ·rintro j c st' - hj ⟨u,v,rfl,rfl,huv,hvn,hme,hlo,hhi⟩
   dsimp only
   by_cases hge:u ≥ v
   ·rw [if_pos hge]
    have:u=v:=by lia
    subst this
    exact wpS_pure ⟨u,rfl,rfl,hvn,hlo,hhi⟩
   ·rw [if_neg hge]
    refine wpS_bind (yon (u + (v - u) / 2) (by lia) ?_)
    rcases Bool.eq_false_or_eq_true (a2k lt f k r b (u + (v - u) / 2)) with e | e
    ·rw [e]
     exact wpS_pure ⟨_,v,rfl,rfl,by lia,hvn,by lia,fun i hi=>hm i _ (by lia) (by lia) e,hhi⟩
    ·rw [e]
     exact wpS_pure ⟨u,_,rfl,rfl,by lia,by lia,by lia,hlo,fun i h1 h2=>low _ i h1 h2 e⟩
  ·rintro c st' ⟨u,v,rfl,rfl,huv,hvn,hme,hlo,hhi⟩
   have:u=v:=by lia
   subst this
   exact ⟨u,rfl,rfl,hvn,hlo,hhi⟩
  ·rintro c st' ⟨v,rfl,rfl,hvn,hlo,hhi⟩
   exact wpS_pure (q v hvn hlo hhi)
end
abbrev Asc {α:Type} (lt:α→α→Bool) (l:List α):Prop:=l.Pairwise fun x y=>lt y x=false
structure MI {α:Type} (lt:α→α→Bool) (X Y O:List α) (i j:Nat):Prop where
 perm:O.Perm (X.take i++Y.take j)
 srt:Asc lt O
 bef:∀ x∈O,∀ y∈X.drop i++Y.drop j,lt y x=false
section
variable {α:Type} {lt:α→α→Bool} {X Y O:List α} {i j k:Nat}
noncomputable def Hid (p:Prop):Prop:=p
theorem c7i {T g:Prop} (rest:Hid T→g) (pf:T):g:=rest pf
theorem MI.swap (h:MI lt X Y O i j):MI lt Y X O j i:=⟨h.perm.trans List.perm_append_comm,h.srt,fun x hx y hy=>h.bef x hx y (by simpa [or_comm] using hy)⟩
theorem MI.more (h:MI lt X Y O i j) (hX:Asc lt X) (hc:∀ x∈(X.drop i).take k,∀ y∈Y.drop j,lt y x=false):MI lt X Y (O++(X.drop i).take k) (i + k) j:=by
 have hsub:X.drop i=(X.drop i).take k++X.drop (i + k):=by rw [← List.drop_drop,List.take_append_drop]
 have hXd:Asc lt (X.drop i):=hX.sublist (List.drop_sublist _ _)
 rw [hsub] at hXd
 obtain ⟨s1,s2,s3⟩:=List.pairwise_append.mp hXd
 refine ⟨?_,?_,fun x hx y hy=>?_⟩
 ·rw [List.take_add,List.append_assoc]
  refine (h.perm.append_right _).trans ?_
  rw [List.append_assoc]
  exact List.Perm.append_left _ List.perm_append_comm
 ·refine List.pairwise_append.mpr ⟨h.srt,s1,fun x hx y hy=>h.bef x hx y (List.mem_append_left _ (List.mem_of_mem_take hy))⟩
 ·rcases List.mem_append.mp hx with hx | hx
  ·refine h.bef x hx y ?_
   rcases List.mem_append.mp hy with hy | hy
   ·rw [hsub]; exact List.mem_append_left _ (List.mem_append_right _ hy)
   ·exact List.mem_append_right _ hy
  ·rcases List.mem_append.mp hy with hy | hy
   ·exact s3 x hx y hy
   ·exact hc x hx y hy
theorem a7p (h:i < X.length):(X.drop i).take 1=[X[i]]:=by rw [List.drop_eq_getElem_cons h,List.take_succ_cons,List.take_zero]
noncomputable def Mrg (lt:α→α→Bool) (X Y R:List α):Prop:=R.Perm (X++Y)∧Asc lt R
theorem MI.fin (h:MI lt X Y O i j) (hX:Asc lt X) (hY:Asc lt Y) (hc:∀ x∈X.drop i,∀ y∈Y.drop j,lt y x=false):Mrg lt X Y (O++X.drop i++Y.drop j):=by
 refine ⟨?_,?_⟩
 ·have h1:=(h.perm.append_right (X.drop i)).append_right (Y.drop j)
  refine h1.trans ?_
  have:(X.take i++Y.take j++X.drop i++Y.drop j).Perm (X.take i++X.drop i++(Y.take j++Y.drop j)):=by
   rw [List.append_assoc (X.take i),List.append_assoc (X.take i),List.append_assoc (X.take i)]
   refine List.Perm.append_left _ ?_
   rw [← List.append_assoc (X.drop i)]
   exact List.perm_append_comm.append_right _
  rwa [List.take_append_drop,List.take_append_drop] at this
 ·refine List.pairwise_append.mpr ⟨List.pairwise_append.mpr ⟨h.srt,hX.sublist (List.drop_sublist _ _),fun x hx y hy=>h.bef x hx y (List.mem_append_left _ hy)⟩,hY.sublist (List.drop_sublist _ _),fun x hx y hy=>?_⟩
  rcases List.mem_append.mp hx with hx | hx
  ·exact h.bef x hx y (List.mem_append_right _ hy)
  ·exact hc x hx y hy
theorem Mrg.swap {R:List α} (h:Mrg lt X Y R):Mrg lt Y X R:=⟨h.1.trans List.perm_append_comm,h.2⟩
theorem a2m {x:α} (h:x∈X.drop i):∃ k,∃ hk:k < X.length,i≤k∧X[k]=x:=by
 obtain ⟨m,hm,e⟩:=List.mem_iff_getElem.mp h
 rw [List.getElem_drop] at e
 exact ⟨i + m,by simp at hm; lia,by lia,e⟩
theorem a3f {x:α} (h:x∈(X.drop i).take k):∃ m,∃ hm:m < X.length,i≤m∧m < i + k∧X[m]=x:=by
 obtain ⟨m,hm,e⟩:=List.mem_iff_getElem.mp h
 rw [List.getElem_take,List.getElem_drop] at e
 simp at hm
 exact ⟨i + m,by lia,by lia,by lia,e⟩
end
theorem a0i {a:Array Keyed} {i:Nat} (h:i < a.toList.length):gA a i=a.toList[i]:=by
 have:=a2z (a:=a) (i:=i) (by simpa using h)
 rw [← Array.getElem?_toList,List.getElem?_eq_getElem h] at this
 exact (Option.some.inj this).symm
section
variable {lt:Keyed→Keyed→Bool} {x y o:Array Keyed} {i j k:Nat}
abbrev MA (lt:Keyed→Keyed→Bool) (x y o:Array Keyed) (i j:Nat):Prop:=MI lt x.toList y.toList o.toList i j
theorem a1r (x:Array Keyed) (i j:Nat):(x.extract i j).toList=(x.toList.drop i).take (j - i):=by
 rw [Array.toList_extract,List.extract_eq_take_drop]
theorem b3k (x:Array Keyed) (i:Nat):(x.extract i x.size).toList=x.toList.drop i:=by
 rw [a1r,List.take_of_length_le (by simp)]
theorem MA.moreX (h:MA lt x y o i j) (hX:Asc lt x.toList) (hc:∀ m m',i≤m→m < i + k→m < x.size→j≤m'→m' < y.size→lt (gA y m') (gA x m)=false):MA lt x y (o++x.extract i (i + k)) (i + k) j:=by
 have:=MI.more (k:=k) h hX fun u hu v hv=>by
  obtain ⟨m,hm,m1,m2,rfl⟩:=a3f hu
  obtain ⟨m',hm',n1,rfl⟩:=a2m hv
  rw [← a0i hm,← a0i hm']
  exact hc m m' m1 m2 (by simpa using hm) n1 (by simpa using hm')
 unfold MA
 rw [Array.toList_append,a1r,show i + k - i=k by lia]
 exact this
theorem MA.swap (h:MA lt x y o i j):MA lt y x o j i:=MI.swap h
theorem MA.pushX (h:MA lt x y o i j) (hX:Asc lt x.toList) (hi:i < x.size) (hc:∀ m',j≤m'→m' < y.size→lt (gA y m') (gA x i)=false):MA lt x y (o.push (gA x i)) (i + 1) j:=by
 have hl:i < x.toList.length:=by simpa using hi
 have:=MI.more (k:=1) h hX fun u hu v hv=>by
  rw [a7p hl] at hu
  rw [List.mem_singleton] at hu
  subst hu
  obtain ⟨m',hm',n1,rfl⟩:=a2m hv
  rw [← a0i hl,← a0i hm']
  exact hc m' n1 (by simpa using hm')
 unfold MA
 rw [Array.toList_push,a0i hl,← a7p hl]
 exact this
theorem MA.pushY (h:MA lt x y o i j) (hY:Asc lt y.toList) (hj:j < y.size) (hc:∀ m',i≤m'→m' < x.size→lt (gA x m') (gA y j)=false):MA lt x y (o.push (gA y j)) i (j + 1):=(h.swap.pushX hY hj hc).swap
theorem MA.moreY (h:MA lt x y o i j) (hY:Asc lt y.toList) (hc:∀ m m',j≤m→m < j + k→m < y.size→i≤m'→m' < x.size→lt (gA x m') (gA y m)=false):MA lt x y (o++y.extract j (j + k)) i (j + k):=(h.swap.moreX hY hc).swap
theorem MA.fin (h:MA lt x y o i j) (hX:Asc lt x.toList) (hY:Asc lt y.toList) (hc:∀ m m',i≤m→m < x.size→j≤m'→m' < y.size→lt (gA y m') (gA x m)=false):Mrg lt x.toList y.toList (o++x.extract i x.size++y.extract j y.size).toList:=by
 rw [Array.toList_append,Array.toList_append,b3k,b3k]
 refine MI.fin h hX hY fun u hu v hv=>?_
 obtain ⟨m,hm,m1,rfl⟩:=a2m hu
 obtain ⟨m',hm',n1,rfl⟩:=a2m hv
 rw [← a0i hm,← a0i hm']
 exact hc m m' m1 (by simpa using hm) n1 (by simpa using hm')
theorem MA.fin2 (h:MA lt x y o i j) (hX:Asc lt x.toList) (hY:Asc lt y.toList) (hc:∀ m m',i≤m→m < x.size→j≤m'→m' < y.size→lt (gA x m) (gA y m')=false):Mrg lt x.toList y.toList (o++y.extract j y.size++x.extract i x.size).toList:=(h.swap.fin hY hX fun m m' h1 h2 h3 h4=>hc m' m h3 h4 h1 h2).swap
theorem b3s (hX:Asc lt x.toList) (hr:∀ u,lt u u=false) (hij:i≤j) (hj:j < x.size):lt (gA x j) (gA x i)=false:=by
 by_cases e:i=j
 ·subst e; exact hr _
 ·have hl:j < x.toList.length:=by simpa using hj
  rw [a0i hl,a0i (show i < x.toList.length by lia)]
  exact List.pairwise_iff_getElem.mp hX i j (by lia) hl (by lia)
end
noncomputable def mLo:Array Keyed→Array Keyed→StateT SortSt Sem (Array Keyed):=sortPriv% PySem.Builtin.mergeLo
noncomputable def c8a:Nat→StateT SortSt Sem Unit:=sortPriv% PySem.Builtin.setMinGallop
theorem a4x (n:Nat):c8a n=modify fun s=>SortSt.mk' (kindOf s) (arrOf s) (pendingOf s) n (failedOf s):=rfl
theorem d0a (x y:Array Keyed):mLo x y=(do
 rule "list.sort.merge-lo"
 let N:=x.size + y.size
 let fin (o:Array Keyed) (i j:Nat):=o++x.extract i x.size++y.extract j y.size
 let lst (o:Array Keyed) (i j:Nat):=o++y.extract j y.size++x.extract i x.size
 let mut o:Array Keyed:=#[← elem' y 0]
 let mut i:=0; let mut j:=1
 if j == y.size then return fin o i j
 if i + 1 == x.size then return lst o i j
 let mut G:=gallopOf (← get)
 for _ in [0:N] do
  let mut c:=0; let mut d:=0
  for _ in [0:N] do
   let some t ← lt' (← elem' y j) (← elem' x i) | return fin o i j
   if t then
    o:=o.push (← elem' y j); j:=j + 1; d:=d + 1; c:=0
    if j == y.size then return fin o i j
    if d ≥ G then break
   else
    o:=o.push (← elem' x i); i:=i + 1; c:=c + 1; d:=0
    if i + 1 == x.size then return lst o i j
    if c ≥ G then break
  rule "list.sort.gallop"
  G:=G + 1
  for _ in [0:N] do
   if G > 1 then G:=G - 1
   c8a G
   let some k ← gal false (← elem' y j) x i (x.size - i) 0 | return fin o i j
   c:=k
   if k > 0 then
    o:=o++x.extract i (i + k); i:=i + k
    if i + 1 == x.size then return lst o i j
    if i == x.size then return fin o i j
   o:=o.push (← elem' y j); j:=j + 1
   if j == y.size then return fin o i j
   let some k ← gal true (← elem' x i) y j (y.size - j) 0 | return fin o i j
   d:=k
   if k > 0 then
    o:=o++y.extract j (j + k); j:=j + k
    if j == y.size then return fin o i j
   o:=o.push (← elem' x i); i:=i + 1
   if i + 1 == x.size then return lst o i j
   if c < 7 && d < 7 then break
  G:=G + 1
  c8a G
 unsupported "internal:list.sort.merge-bound"):=rfl
section
variable {prog:Program} {w:World} {A:Around} {E:Value→Shared→Prop} {s:Shared} {kd:SortKind} {Ok:Keyed→Prop} {lt:Keyed→Keyed→Bool}
theorem c9z (C:Cmp prog w A E s kd Ok lt) {a x y:Array Keyed} {p:Array (Nat×Nat×Nat)} {g:Nat} {Q:Array Keyed→SortSt→Prop} (hx:AllOk Ok x) (hy:AllOk Ok y) (nx:1≤x.size) (ny:1≤y.size) (sx:Asc lt x.toList) (sy:Asc lt y.toList)
  (hf:lt (gA x 0) (gA y 0)=false) (hl:∀ j,j < y.size→lt (gA x (x.size - 1)) (gA y j)=false)
  (q:∀ r g',Mrg lt x.toList y.toList r.toList→Q r (stA kd a p g')):wpS (model prog w) A E s (mLo x y) Q (stA kd a p g):=by
 rw [d0a]
 refine wpS_bind (wpS_lift (wpAny_rule ⟨rfl,?_⟩))
 dsimp only
 rw [elem'_eq,a2z (show 0 < y.size by lia)]
 refine wpS_bind (wpS_pure ?_)
 have ax:∀ {i j},i≤j→j < x.size→lt (gA x j) (gA x i)=false:=fun h1 h2=>b3s sx C.refl h1 h2
 have ay:∀ {i j},i≤j→j < y.size→lt (gA y j) (gA y i)=false:=fun h1 h2=>b3s sy C.refl h1 h2
 have M0:MA lt x y #[gA y 0] 0 1:=by
  have:MA lt x y #[] 0 0:=⟨by simp,by simp,by simp⟩
  exact this.pushY sy (by lia) fun m' _ h2=>C.trans _ _ _ hf (ax (Nat.zero_le _) h2)
 have finJ:∀ {o i j},MA lt x y o i j→j=y.size→Mrg lt x.toList y.toList (o++x.extract i x.size++y.extract j y.size).toList:=fun h e=>h.fin sx sy fun m m' _ _ h3 h4=>by lia
 have finI:∀ {o i j},MA lt x y o i j→i=x.size→Mrg lt x.toList y.toList (o++x.extract i x.size++y.extract j y.size).toList:=fun h e=>h.fin sx sy fun m m' h1 h2 _ _=>by lia
 have lstI:∀ {o i j},MA lt x y o i j→i + 1=x.size→Mrg lt x.toList y.toList (o++y.extract j y.size++x.extract i x.size).toList:=fun h e=>h.fin2 sx sy fun m m' h1 h2 h3 h4=>by
  have:m=x.size - 1:=by lia
  rw [this]; exact hl m' h4
 by_cases hj1:1=y.size
 ·rw [if_pos (by simpa using hj1)]
  exact wpS_pure (q _ g (finJ M0 hj1))
 rw [if_neg (by simpa using hj1)]
 by_cases hi1:0 + 1=x.size
 ·rw [if_pos (by simpa using hi1)]
  exact wpS_pure (q _ g (lstI M0 hi1))
 rw [if_neg (by simpa using hi1)]
 refine wpS_bind (wpS_get ?_)
 let Go:=fun (o:Array Keyed) (i j T:Nat)=>MA lt x y o i j∧i + 1 < x.size∧j < y.size∧T≤i + j
 refine wpS_bind (wpS_mono (wpS_forRange (I:=fun n c st'=>∃ g',st'=stA kd a p g'∧c.1=none∧Go c.2.1 c.2.2.1 c.2.2.2.1 n)
  (Q:=fun c st'=>∃ g' r,st'=stA kd a p g'∧c.1=some r∧Mrg lt x.toList y.toList r.toList) ?_ ?_ ⟨g,rfl,rfl,M0,by first | lia | (dsimp only; lia),by first | lia | (dsimp only; lia),by first | lia | (dsimp only; lia)⟩) ?_)
 ·rintro n c st' - hn ⟨g1,rfl,hc,hgo⟩
  obtain ⟨r,o,i,j,G⟩:=c
  dsimp only at hc hgo ⊢
  subst hc
  refine wpS_bind (wpS_mono (wpS_forRange (I:=fun n' c st'=>∃ g',st'=stA kd a p g'∧c.1=none∧Go c.2.1 c.2.2.1 c.2.2.2.1 (n + n'))
   (Q:=fun c st'=>∃ g',st'=stA kd a p g'∧((∃ r,c.1=some r∧Mrg lt x.toList y.toList r.toList) ∨ c.1=none∧Go c.2.1 c.2.2.1 c.2.2.2.1 (n + 1))) ?_ ?_ ⟨g1,rfl,rfl,hgo⟩) ?_)
  ·rintro n' c st' - hn' ⟨g2,rfl,hc,hgo⟩
   obtain ⟨r,o,i,j,cc,dd⟩:=c
   dsimp only at hc hgo ⊢
   subst hc
   obtain ⟨hM,hi,hj,hT⟩:=hgo
   rw [elem'_eq,a2z hj,elem'_eq,a2z (show i < x.size by first | lia | (dsimp only; lia))]
   refine wpS_bind (wpS_pure (wpS_bind (wpS_pure (wpS_bind (C.run _ _ (hy.at hj) (hx.at (by first | lia | (dsimp only; lia))) _ _ rfl ?_)))))
   rcases Bool.eq_false_or_eq_true (lt (gA y j) (gA x i)) with e | e
   ·rw [e]
    have e':=C.asym _ _ e
    simp only [if_true]
    refine wpS_bind (wpS_pure ?_)
    have hM2:=hM.pushY sy hj fun m' h1 h2=>C.trans _ _ _ e' (ax h1 h2)
    by_cases hb:j + 1=y.size
    ·rw [if_pos (by simpa using hb)]
     exact wpS_pure ⟨g2,rfl,.inl ⟨_,rfl,finJ hM2 hb⟩⟩
    ·rw [if_neg (by simpa using hb)]
     split
     ·exact wpS_pure ⟨g2,rfl,.inr ⟨rfl,hM2,hi,by first | lia | (dsimp only; lia),by first | lia | (dsimp only; lia)⟩⟩
     ·exact wpS_pure ⟨g2,rfl,rfl,hM2,hi,by first | lia | (dsimp only; lia),by first | lia | (dsimp only; lia)⟩
   ·rw [e]
    simp only [Γp,if_false]
    refine wpS_bind (wpS_pure ?_)
    have hM2:=hM.pushX sx (by first | lia | (dsimp only; lia)) fun m' h1 h2=>C.trans _ _ _ e (ay h1 h2)
    by_cases hb:i + 1 + 1=x.size
    ·rw [if_pos (by simpa using hb)]
     exact wpS_pure ⟨g2,rfl,.inl ⟨_,rfl,lstI hM2 hb⟩⟩
    ·rw [if_neg (by simpa using hb)]
     split
     ·exact wpS_pure ⟨g2,rfl,.inr ⟨rfl,hM2,by first | lia | (dsimp only; lia),hj,by first | lia | (dsimp only; lia)⟩⟩
     ·exact wpS_pure ⟨g2,rfl,rfl,hM2,by first | lia | (dsimp only; lia),hj,by first | lia | (dsimp only; lia)⟩
  ·rintro c st' ⟨g2,rfl,hc,hM,hi,hj,hT⟩
   exfalso; lia
  ·rintro c st' ⟨g2,rfl,hc⟩
   obtain ⟨r,o,i,j,cc,dd⟩:=c
   dsimp only at hc ⊢
   rcases hc with ⟨r',rfl,hr⟩ | ⟨rfl,hgo⟩
   ·exact wpS_pure ⟨g2,r',rfl,rfl,hr⟩
   dsimp only
   refine wpS_bind (wpS_lift (wpAny_rule ⟨rfl,?_⟩))
   refine wpS_bind (wpS_mono (wpS_forRange (I:=fun n' c st'=>∃ g',st'=stA kd a p g'∧c.1=none∧Go c.2.1 c.2.2.1 c.2.2.2.1 (n + 1 + n'))
    (Q:=fun c st'=>∃ g',st'=stA kd a p g'∧((∃ r,c.1=some r∧Mrg lt x.toList y.toList r.toList) ∨ c.1=none∧Go c.2.1 c.2.2.1 c.2.2.2.1 (n + 1))) ?_ ?_ ⟨g2,rfl,rfl,hgo⟩) ?_)
   ·rintro n' c st' - hn' ⟨g3,rfl,hc,hgo⟩
    obtain ⟨r,o,i,j,G,cc,dd⟩:=c
    dsimp only at hc hgo ⊢
    subst hc
    obtain ⟨hM,hi,hj,hT⟩:=hgo
    apply c7i
    ·intro key
     by_cases hG:G > 1
     ·rw [if_pos hG,a4x]
      refine wpS_bind (wpS_modify ?_)
      generalize G - 1=G1
      revert G1
      exact key
     ·rw [if_neg hG,a4x]
      refine wpS_bind (wpS_modify ?_)
      exact key G
    ·intro G
     rw [elem'_eq,a2z hj]
     refine wpS_bind (wpS_pure ?_)
     refine wpS_bind (a7d C (kd:=kd) rfl hx (hy.at hj) (by lia) (by lia) ?_ ?_)
     ·intro u v huv hv h
      simp only [a2k,Γp,if_false,Bool.not_eq_true'] at h ⊢
      exact C.trans _ _ _ (ax (by lia) (by lia)) h
     intro k hk kl kr
     simp only [a2k,Γp,if_false,Bool.not_eq_true',Bool.not_eq_false'] at kl kr
     dsimp only
     apply c7i
     ·intro cont
      have key:∀ m,i + k≤m→m < x.size→lt (gA x m) (gA y j)=false:=fun m h1 h2=>by
       have:=kr (m - i) (by lia) (by lia)
       rw [show i + (m - i)=m by lia] at this
       exact C.asym _ _ this
      have hM1:MA lt x y (o++x.extract i (i + k)) (i + k) j:=hM.moreX sx fun m m' h1 h2 h3 h4 h5=>by
       have:=kl (m - i) (by lia)
       rw [show i + (m - i)=m by lia] at this
       exact C.trans _ _ _ this (ay h4 h5)
      by_cases hk0:k > 0
      rw [if_pos hk0]
      by_cases hb1:i + k + 1=x.size
      rw [if_pos (by simpa using hb1)]
      exact wpS_pure ⟨_,rfl,.inl ⟨_,rfl,lstI hM1 hb1⟩⟩
      rw [if_neg (by simpa using hb1)]
      by_cases hb2:i + k=x.size
      rw [if_pos (by simpa using hb2)]
      exact wpS_pure ⟨_,rfl,.inl ⟨_,rfl,finI hM1 hb2⟩⟩
      rw [if_neg (by simpa using hb2)]
      have hi2:i + k + 1 < x.size:=by lia
      have hT2:n + 1 + n'≤i + k + j:=by lia
      generalize i + k=i1 at hM1 key hi2 hT2 ⊢
      generalize o++x.extract i i1=o1 at hM1 ⊢
      revert hM1 key hi2 hT2
      revert o1 i1
      exact cont
      rw [if_neg hk0]
      have hk0:k=0:=by lia
      rw [hk0] at key hM1
      rw [show o++x.extract i (i + 0)=o by simp; lia] at hM1
      have hi2:i + 0 + 1 < x.size:=by lia
      have hT2:n + 1 + n'≤i + 0 + j:=by lia
      rw [Nat.add_zero] at key hM1 hi2 hT2
      generalize i=i1 at hM1 key hi2 hT2 ⊢
      generalize o=o1 at hM1 ⊢
      exact cont _ _ key hi2 hT2 hM1
     intro i1 o1 key hi2 hT2 hM1
     refine wpS_bind (wpS_pure ?_)
     have hM2:=hM1.pushY sy hj key
     by_cases hb3:j + 1=y.size
     ·rw [if_pos (by simpa using hb3)]
      exact wpS_pure ⟨_,rfl,.inl ⟨_,rfl,finJ hM2 hb3⟩⟩
     rw [if_neg (by simpa using hb3),elem'_eq,a2z (show i1 < x.size by lia)]
     refine wpS_bind (wpS_pure ?_)
     refine wpS_bind (a7d C (kd:=kd) rfl hy (hx.at (show i1 < x.size by lia)) (by lia) (by lia) ?_ ?_)
     ·intro u v huv hv h
      simp only [a2k,if_true] at h ⊢
      cases e:lt (gA y (j + 1 + u)) (gA x i1) with
      | true=>rfl
      | false =>
       have:=C.trans _ _ _ e (ay (show j + 1 + u≤j + 1 + v by lia) (by lia))
       rw [h] at this; cases this
     intro k hk kl kr
     simp only [a2k,if_true] at kl kr
     dsimp only
     apply c7i
     ·intro cont
      have key2:∀ m,j + 1 + k≤m→m < y.size→lt (gA y m) (gA x i1)=false:=fun m h1 h2=>by
       have:=kr (m - (j + 1)) (by lia) (by lia)
       rwa [show j + 1 + (m - (j + 1))=m by lia] at this
      have hM3:=hM2.moreY (k:=k) sy fun m m' h1 h2 h3 h4 h5=>by
       have:=C.asym _ _ (kl (m - (j + 1)) (by lia))
       rw [show j + 1 + (m - (j + 1))=m by lia] at this
       exact C.trans _ _ _ this (ax h4 h5)
      by_cases hk0:k > 0
      rw [if_pos hk0]
      by_cases hb4:j + 1 + k=y.size
      rw [if_pos (by simpa using hb4)]
      exact wpS_pure ⟨_,rfl,.inl ⟨_,rfl,finJ hM3 hb4⟩⟩
      rw [if_neg (by simpa using hb4)]
      have hj2:j + 1 + k < y.size:=by lia
      have hT3:n + 1 + n' + 1≤i1 + (j + 1 + k):=by lia
      generalize (o1.push (gA y j))++y.extract (j + 1) (j + 1 + k)=o2 at hM3 ⊢
      generalize j + 1 + k=j1 at hM3 key2 hj2 hT3 ⊢
      revert hM3 key2 hj2 hT3
      revert o2 j1
      exact cont
      rw [if_neg hk0]
      have hk0:k=0:=by lia
      rw [hk0] at key2 hM3
      rw [show o1.push (gA y j)++y.extract (j + 1) (j + 1 + 0)=o1.push (gA y j) by simp; lia] at hM3
      have hj2:j + 1 + 0 < y.size:=by lia
      have hT3:n + 1 + n' + 1≤i1 + (j + 1 + 0):=by lia
      rw [Nat.add_zero] at key2 hM3 hj2 hT3
      generalize (o1.push (gA y j))=o2 at hM3 ⊢
      generalize j + 1=j1 at hM3 key2 hj2 hT3 ⊢
      exact cont _ _ hM3 key2 hj2 hT3
     intro j1 o2 hM3 key2 hj2 hT3
     refine wpS_bind (wpS_pure ?_)
     have hM4:=hM3.pushX sx (show i1 < x.size by lia) key2
     by_cases hb5:i1 + 1 + 1=x.size
     ·rw [if_pos (by simpa using hb5)]
      exact wpS_pure ⟨_,rfl,.inl ⟨_,rfl,lstI hM4 hb5⟩⟩
     rw [if_neg (by simpa using hb5)]
     split
     ·exact wpS_pure ⟨_,rfl,.inr ⟨rfl,hM4,by first | lia | (dsimp only; lia),hj2,by first | lia | (dsimp only; lia)⟩⟩
     ·exact wpS_pure ⟨_,rfl,rfl,hM4,by first | lia | (dsimp only; lia),hj2,by first | lia | (dsimp only; lia)⟩
   ·rintro c st' ⟨g3,rfl,hc,hM,hi,hj,hT⟩
    exfalso; lia
   ·rintro c st' ⟨g3,rfl,hc⟩
    obtain ⟨r,o,i,j,G,cc,dd⟩:=c
    dsimp only at hc ⊢
    rcases hc with ⟨r',rfl,hr⟩ | ⟨rfl,hgo⟩
    ·exact wpS_pure ⟨g3,r',rfl,rfl,hr⟩
    ·dsimp only
     rw [a4x]
     exact wpS_bind (wpS_modify (wpS_pure ⟨_,rfl,rfl,hgo⟩))
 ·rintro c st' ⟨g2,rfl,hc,hM,hi,hj,hT⟩
  exfalso; lia
 ·rintro c st' ⟨g2,r,rfl,hc,hr⟩
  obtain ⟨r',o,i,j,cc⟩:=c
  dsimp only at hc ⊢
  subst hc
  exact wpS_pure (q _ _ hr)
end
abbrev rv (lt:Keyed→Keyed→Bool):Keyed→Keyed→Bool:=fun u v=>lt v u
noncomputable def MH (lt:Keyed→Keyed→Bool) (x y o:Array Keyed) (i j:Nat):Prop:=MI (rv lt) x.toList.reverse y.toList.reverse o.toList (x.size - i) (y.size - j)
section
variable {lt:Keyed→Keyed→Bool} {x y o:Array Keyed} {i j t:Nat}
theorem b1y {l:List Keyed} (h:Asc lt l):Asc (rv lt) l.reverse:=List.pairwise_reverse.mpr h
theorem a3j (hi:i≤x.size):x.toList.reverse.drop (x.size - i)=(x.toList.take i).reverse:=by
 rw [List.drop_reverse]; congr 2; simp; lia
theorem b9c (hi:i≤x.size) (ht:t≤i):(x.toList.reverse.drop (x.size - i)).take (i - t)=(x.extract t i).toList.reverse:=by
 rw [a3j hi,List.take_reverse,a1r,List.drop_take]
 congr 2
 ·simp; lia
 ·congr 1; simp; lia
theorem a3r {α:Type} {X:List α} {u:α} {i:Nat} (h:u∈X.take i):∃ k,∃ hk:k < X.length,k < i∧X[k]=u:=by
 obtain ⟨m,hm,e⟩:=List.mem_iff_getElem.mp h
 rw [List.getElem_take] at e
 simp at hm
 exact ⟨m,by lia,by lia,e⟩
theorem MH.swap (h:MH lt x y o i j):MH lt y x o j i:=MI.swap h
theorem MH.moreX (h:MH lt x y o i j) (hX:Asc lt x.toList) (hi:i≤x.size) (hj:j≤y.size) (ht:t≤i) (hc:∀ m m',t≤m→m < i→m' < j→lt (gA x m) (gA y m')=false):MH lt x y (o++(x.extract t i).reverse) t j:=by
 have:=MI.more (k:=i - t) h (b1y hX) fun u hu v hv=>by
  rw [b9c hi ht,List.mem_reverse,a1r] at hu
  rw [a3j hj,List.mem_reverse] at hv
  obtain ⟨m,hm,m1,m2,rfl⟩:=a3f hu
  obtain ⟨m',hm',n1,rfl⟩:=a3r hv
  rw [← a0i hm,← a0i hm']
  exact hc m m' m1 (by lia) n1
 unfold MH
 rw [Array.toList_append,Array.toList_reverse,← b9c hi ht]
 rwa [show x.size - i + (i - t)=x.size - t by lia] at this
theorem c6s (hi:i < x.size):(x.extract i (i + 1)).toList=[gA x i]:=by
 have hl:i < x.toList.length:=by simpa using hi
 rw [a1r,show i + 1 - i=1 by lia,a7p hl,a0i hl]
theorem MH.pushX (h:MH lt x y o (i + 1) j) (hX:Asc lt x.toList) (hi:i < x.size) (hj:j≤y.size) (hc:∀ m',m' < j→lt (gA x i) (gA y m')=false):MH lt x y (o.push (gA x i)) i j:=by
 have:=h.moreX hX (show i + 1≤x.size by lia) hj (Nat.le_succ i) fun m m' h1 h2 h3=>by
  have:m=i:=by lia
  subst this; exact hc m' h3
 unfold MH at this ⊢
 rw [Array.toList_append,Array.toList_reverse,c6s hi] at this
 rw [Array.toList_push]
 simpa using this
theorem MH.pushY (h:MH lt x y o i (j + 1)) (hY:Asc lt y.toList) (hj:j < y.size) (hi:i≤x.size) (hc:∀ m',m' < i→lt (gA y j) (gA x m')=false):MH lt x y (o.push (gA y j)) i j:=(h.swap.pushX hY hj hi hc).swap
theorem MH.moreY (h:MH lt x y o i j) (hY:Asc lt y.toList) (hi:i≤x.size) (hj:j≤y.size) (ht:t≤j) (hc:∀ m m',t≤m→m < j→m' < i→lt (gA y m) (gA x m')=false):MH lt x y (o++(y.extract t j).reverse) i t:=(h.swap.moreX hY hj hi ht hc).swap
theorem Mrg.rev {X Y R:List Keyed} (h:Mrg (rv lt) X.reverse Y.reverse R):Mrg lt X Y R.reverse:=by
 refine ⟨?_,?_⟩
 ·refine R.reverse_perm.trans (h.1.trans ?_)
  exact (X.reverse_perm.append_right _).trans (Y.reverse_perm.append_left _)
 ·exact List.pairwise_reverse.mpr h.2
theorem MH.fin2 (h:MH lt x y o i j) (hX:Asc lt x.toList) (hY:Asc lt y.toList) (hi:i≤x.size) (hj:j≤y.size) (hc:∀ m m',m < i→m' < j→lt (gA x m) (gA y m')=false):Mrg lt x.toList y.toList (y.extract 0 j++x.extract 0 i++o.reverse).toList:=by
 have:=MI.fin h (b1y hX) (b1y hY) fun u hu v hv=>by
  rw [a3j hi,List.mem_reverse] at hu
  rw [a3j hj,List.mem_reverse] at hv
  obtain ⟨m,hm,m1,rfl⟩:=a3r hu
  obtain ⟨m',hm',n1,rfl⟩:=a3r hv
  rw [← a0i hm,← a0i hm']
  exact hc m m' m1 n1
 have:=this.rev
 rw [a3j hi,a3j hj] at this
 rw [Array.toList_append,Array.toList_append,Array.toList_reverse,a1r,a1r]
 simpa using this
theorem MH.fin (h:MH lt x y o i j) (hX:Asc lt x.toList) (hY:Asc lt y.toList) (hi:i≤x.size) (hj:j≤y.size) (hc:∀ m m',m < i→m' < j→lt (gA y m') (gA x m)=false):Mrg lt x.toList y.toList (x.extract 0 i++y.extract 0 j++o.reverse).toList:=(h.swap.fin2 hY hX hj hi fun m m' h1 h2=>hc m' m h2 h1).swap
end
noncomputable def mHi:Array Keyed→Array Keyed→StateT SortSt Sem (Array Keyed):=sortPriv% PySem.Builtin.mergeHi
theorem d0c (x y:Array Keyed):mHi x y=(do
 rule "list.sort.merge-hi"
 let N:=x.size + y.size
 let fin (o:Array Keyed) (i j:Nat):=x.extract 0 i++y.extract 0 j++o.reverse
 let fst (o:Array Keyed) (i j:Nat):=y.extract 0 j++x.extract 0 i++o.reverse
 let mut i:=x.size - 1; let mut j:=y.size
 let mut o:Array Keyed:=#[← elem' x i]
 if i == 0 then return fin o i j
 if j == 1 then return fst o i j
 let mut G:=gallopOf (← get)
 for _ in [0:N] do
  let mut c:=0; let mut d:=0
  for _ in [0:N] do
   let some t ← lt' (← elem' y (j - 1)) (← elem' x (i - 1)) | return fin o i j
   if t then
    i:=i - 1; o:=o.push (← elem' x i); c:=c + 1; d:=0
    if i == 0 then return fin o i j
    if c ≥ G then break
   else
    j:=j - 1; o:=o.push (← elem' y j); d:=d + 1; c:=0
    if j == 1 then return fst o i j
    if d ≥ G then break
  rule "list.sort.gallop"
  G:=G + 1
  for _ in [0:N] do
   if G > 1 then G:=G - 1
   c8a G
   let some t ← gal false (← elem' y (j - 1)) x 0 i (i - 1) | return fin o i j
   let k:=i - t; c:=k
   if k > 0 then
    o:=o++(x.extract t i).reverse; i:=t
    if i == 0 then return fin o i j
   j:=j - 1; o:=o.push (← elem' y j)
   if j == 1 then return fst o i j
   let some t ← gal true (← elem' x (i - 1)) y 0 j (j - 1) | return fin o i j
   let k:=j - t; d:=k
   if k > 0 then
    o:=o++(y.extract t j).reverse; j:=t
    if j == 1 then return fst o i j
    if j == 0 then return fin o i j
   i:=i - 1; o:=o.push (← elem' x i)
   if i == 0 then return fin o i j
   if c < 7 && d < 7 then break
  G:=G + 1
  c8a G
 unsupported "internal:list.sort.merge-bound"):=rfl
section
variable {prog:Program} {w:World} {A:Around} {E:Value→Shared→Prop} {s:Shared} {kd:SortKind} {Ok:Keyed→Prop} {lt:Keyed→Keyed→Bool}
theorem d0b (C:Cmp prog w A E s kd Ok lt) {a x y:Array Keyed} {p:Array (Nat×Nat×Nat)} {g:Nat} {Q:Array Keyed→SortSt→Prop} (hx:AllOk Ok x) (hy:AllOk Ok y) (nx:1≤x.size) (ny:1≤y.size) (sx:Asc lt x.toList) (sy:Asc lt y.toList)
  (hf:lt (gA x 0) (gA y 0)=false) (hl:∀ j,j < y.size→lt (gA x (x.size - 1)) (gA y j)=false)
  (q:∀ r g',Mrg lt x.toList y.toList r.toList→Q r (stA kd a p g')):wpS (model prog w) A E s (mHi x y) Q (stA kd a p g):=by
 rw [d0c]
 refine wpS_bind (wpS_lift (wpAny_rule ⟨rfl,?_⟩))
 dsimp only
 rw [elem'_eq,a2z (show x.size - 1 < x.size by lia)]
 refine wpS_bind (wpS_pure ?_)
 have ax:∀ {i j},i≤j→j < x.size→lt (gA x j) (gA x i)=false:=fun h1 h2=>b3s sx C.refl h1 h2
 have ay:∀ {i j},i≤j→j < y.size→lt (gA y j) (gA y i)=false:=fun h1 h2=>b3s sy C.refl h1 h2
 have M0:MH lt x y #[gA x (x.size - 1)] (x.size - 1) y.size:=by
  have h0:MH lt x y #[] (x.size - 1 + 1) y.size:=by
   refine ⟨?_,by simp,by simp⟩
   rw [show x.size - (x.size - 1 + 1)=0 by lia]; simp
  exact h0.pushX sx (by lia) (Γi _) fun m' h2=>hl m' h2
 have finI:∀ {o i j},MH lt x y o i j→i=0→j≤y.size→Mrg lt x.toList y.toList (x.extract 0 i++y.extract 0 j++o.reverse).toList:=fun h e hj=>h.fin sx sy (by lia) hj fun m m' h1 _=>by lia
 have finJ:∀ {o i j},MH lt x y o i j→j=0→i≤x.size→Mrg lt x.toList y.toList (x.extract 0 i++y.extract 0 j++o.reverse).toList:=fun h e hi=>h.fin sx sy hi (by lia) fun m m' _ h2=>by lia
 have fstJ:∀ {o i j},MH lt x y o i j→j=1→i≤x.size→Mrg lt x.toList y.toList (y.extract 0 j++x.extract 0 i++o.reverse).toList:=fun h e hi=>h.fin2 sx sy hi (by lia) fun m m' h1 h2=>by
  have:m'=0:=by lia
  subst this
  exact C.trans _ _ _ hf (ax (Nat.zero_le _) (by lia))
 by_cases hi1:x.size - 1=0
 ·rw [if_pos (by simpa using hi1)]
  exact wpS_pure (q _ g (finI M0 hi1 (Γi _)))
 rw [if_neg (by simpa using hi1)]
 by_cases hj1:y.size=1
 ·rw [if_pos (by simpa using hj1)]
  exact wpS_pure (q _ g (fstJ M0 hj1 (by lia)))
 rw [if_neg (by simpa using hj1)]
 refine wpS_bind (wpS_get ?_)
 let Go:=fun (o:Array Keyed) (i j T:Nat)=>MH lt x y o i j∧1≤i∧i < x.size∧2≤j∧j≤y.size∧T + i + j≤x.size + y.size
 refine wpS_bind (wpS_mono (wpS_forRange (I:=fun n c st'=>∃ g',st'=stA kd a p g'∧c.1=none∧Go c.2.2.2.1 c.2.1 c.2.2.1 n)
  (Q:=fun c st'=>∃ g' r,st'=stA kd a p g'∧c.1=some r∧Mrg lt x.toList y.toList r.toList) ?_ ?_ ⟨g,rfl,rfl,M0,by first | lia | (dsimp only; lia),by first | lia | (dsimp only; lia),by first | lia | (dsimp only; lia),by first | lia | (dsimp only; lia),by first | lia | (dsimp only; lia)⟩) ?_)
 ·rintro n c st' - hn ⟨g1,rfl,hc,hgo⟩
  obtain ⟨r,i,j,o,G⟩:=c
  dsimp only at hc hgo ⊢
  subst hc
  refine wpS_bind (wpS_mono (wpS_forRange (I:=fun n' c st'=>∃ g',st'=stA kd a p g'∧c.1=none∧Go c.2.2.2.1 c.2.1 c.2.2.1 (n + n'))
   (Q:=fun c st'=>∃ g',st'=stA kd a p g'∧((∃ r,c.1=some r∧Mrg lt x.toList y.toList r.toList) ∨ c.1=none∧Go c.2.2.2.1 c.2.1 c.2.2.1 (n + 1))) ?_ ?_ ⟨g1,rfl,rfl,hgo⟩) ?_)
  ·rintro n' c st' - hn' ⟨g2,rfl,hc,hgo⟩
   obtain ⟨r,i,j,o,cc,dd⟩:=c
   dsimp only at hc hgo ⊢
   subst hc
   obtain ⟨hM,h1,h2,h3,h4,hT⟩:=hgo
   obtain ⟨i,rfl⟩:∃ m,i=m + 1:=⟨i - 1,by lia⟩
   obtain ⟨j,rfl⟩:∃ m,j=m + 1:=⟨j - 1,by lia⟩
   simp only [Nat.add_sub_cancel]
   rw [elem'_eq,a2z (show j < y.size by lia),elem'_eq,a2z (show i < x.size by lia)]
   refine wpS_bind (wpS_pure (wpS_bind (wpS_pure (wpS_bind (C.run _ _ (hy.at (by lia)) (hx.at (by lia)) _ _ rfl ?_)))))
   rcases Bool.eq_false_or_eq_true (lt (gA y j) (gA x i)) with e | e
   ·rw [e]
    have e':=C.asym _ _ e
    simp only [if_true]
    refine wpS_bind (wpS_pure ?_)
    have hM2:=hM.pushX sx (by lia) h4 fun m' hm'=>C.trans _ _ _ (ay (show m'≤j by lia) (by lia)) e'
    by_cases hb:i=0
    ·rw [if_pos (by simpa using hb)]
     exact wpS_pure ⟨g2,rfl,.inl ⟨_,rfl,finI hM2 hb h4⟩⟩
    ·rw [if_neg (by simpa using hb)]
     split
     ·exact wpS_pure ⟨g2,rfl,.inr ⟨rfl,hM2,by first | lia | (dsimp only; lia),by first | lia | (dsimp only; lia),h3,h4,by first | lia | (dsimp only; lia)⟩⟩
     ·exact wpS_pure ⟨g2,rfl,rfl,hM2,by first | lia | (dsimp only; lia),by first | lia | (dsimp only; lia),h3,h4,by first | lia | (dsimp only; lia)⟩
   ·rw [e]
    simp only [Γp,if_false]
    refine wpS_bind (wpS_pure ?_)
    have hM2:=hM.pushY sy (by lia) (by lia) fun m' hm'=>C.trans _ _ _ (ax (show m'≤i by lia) (by lia)) e
    by_cases hb:j=1
    ·rw [if_pos (by simpa using hb)]
     exact wpS_pure ⟨g2,rfl,.inl ⟨_,rfl,fstJ hM2 hb (by lia)⟩⟩
    ·rw [if_neg (by simpa using hb)]
     split
     ·exact wpS_pure ⟨g2,rfl,.inr ⟨rfl,hM2,h1,h2,by first | lia | (dsimp only; lia),by first | lia | (dsimp only; lia),by first | lia | (dsimp only; lia)⟩⟩
     ·exact wpS_pure ⟨g2,rfl,rfl,hM2,h1,h2,by first | lia | (dsimp only; lia),by first | lia | (dsimp only; lia),by first | lia | (dsimp only; lia)⟩
  ·rintro c st' ⟨g2,rfl,hc,hM,h1,h2,h3,h4,hT⟩
   exfalso; lia
  ·rintro c st' ⟨g2,rfl,hc⟩
   obtain ⟨r,i,j,o,cc,dd⟩:=c
   dsimp only at hc ⊢
   rcases hc with ⟨r',rfl,hr⟩ | ⟨rfl,hgo⟩
   ·exact wpS_pure ⟨g2,r',rfl,rfl,hr⟩
   dsimp only
   refine wpS_bind (wpS_lift (wpAny_rule ⟨rfl,?_⟩))
   refine wpS_bind (wpS_mono (wpS_forRange (I:=fun n' c st'=>∃ g',st'=stA kd a p g'∧c.1=none∧Go c.2.2.2.1 c.2.1 c.2.2.1 (n + 1 + n'))
    (Q:=fun c st'=>∃ g',st'=stA kd a p g'∧((∃ r,c.1=some r∧Mrg lt x.toList y.toList r.toList) ∨ c.1=none∧Go c.2.2.2.1 c.2.1 c.2.2.1 (n + 1))) ?_ ?_ ⟨g2,rfl,rfl,hgo⟩) ?_)
   ·rintro n' c st' - hn' ⟨g3,rfl,hc,hgo⟩
    obtain ⟨r,i,j,o,G,cc,dd⟩:=c
    dsimp only at hc hgo ⊢
    subst hc
    obtain ⟨hM,h1,h2,h3,h4,hT⟩:=hgo
    obtain ⟨j,rfl⟩:∃ m,j=m + 1:=⟨j - 1,by lia⟩
    simp only [Nat.add_sub_cancel]
    have hj:j < y.size:=by lia
    apply c7i
    ·intro key
     by_cases hG:G > 1
     ·rw [if_pos hG,a4x]
      refine wpS_bind (wpS_modify ?_)
      generalize G - 1=G1
      revert G1
      exact key
     ·rw [if_neg hG,a4x]
      refine wpS_bind (wpS_modify ?_)
      exact key G
    ·intro G
     rw [elem'_eq,a2z hj]
     refine wpS_bind (wpS_pure ?_)
     refine wpS_bind (a7d C (kd:=kd) rfl hx (hy.at hj) (by lia) (by lia) ?_ ?_)
     ·intro u v huv hv h
      simp only [a2k,Γp,if_false,Bool.not_eq_true',Nat.zero_add] at h ⊢
      exact C.trans _ _ _ (ax (by lia) (by lia)) h
     intro t ht kl kr
     simp only [a2k,Γp,if_false,Bool.not_eq_true',Bool.not_eq_false',Nat.zero_add] at kl kr
     dsimp only
     apply c7i
     ·intro cont
      have hM1:=hM.moreX (t:=t) sx (by lia) h4 ht fun m m' g1 g2 g3=>C.trans _ _ _ (ay (show m'≤j by lia) hj) (C.asym _ _ (kr m g1 g2))
      by_cases hk0:i - t > 0
      rw [if_pos hk0]
      by_cases hb1:t=0
      rw [if_pos (by simpa using hb1)]
      exact wpS_pure ⟨_,rfl,.inl ⟨_,rfl,finI hM1 hb1 h4⟩⟩
      rw [if_neg (by simpa using hb1)]
      have hT2:n + 1 + n' + t + (j + 1)≤x.size + y.size:=by lia
      have h5:1≤t:=by lia
      have h6:t < x.size:=by lia
      generalize o++(x.extract t i).reverse=o1 at hM1 ⊢
      generalize i - t=ck
      have kl2:=kl
      revert hM1 hT2 h5 h6 kl2
      generalize t=t1
      revert o1 ck t1
      exact cont
      rw [if_neg hk0]
      have hk0:t=i:=by lia
      subst hk0
      rw [show o++(x.extract t t).reverse=o by simp; lia] at hM1
      have hT2:n + 1 + n' + t + (j + 1)≤x.size + y.size:=by lia
      have h5:1≤t:=by lia
      have h6:t < x.size:=by lia
      generalize o=o1 at hM1 ⊢
      generalize t - t=ck
      exact cont _ _ _ hT2 h5 h6 hM1 kl
     intro o1 ck t hT2 h5 h6 hM1 kl
     obtain ⟨t,rfl⟩:∃ m,t=m + 1:=⟨t - 1,by lia⟩
     simp only [Nat.add_sub_cancel]
     refine wpS_bind (wpS_pure ?_)
     have hM2:=hM1.pushY sy hj (by lia) fun m' hm'=>kl m' hm'
     by_cases hb3:j=1
     ·rw [if_pos (by simpa using hb3)]
      exact wpS_pure ⟨_,rfl,.inl ⟨_,rfl,fstJ hM2 hb3 (by lia)⟩⟩
     rw [if_neg (by simpa using hb3),elem'_eq,a2z (show t < x.size by lia)]
     refine wpS_bind (wpS_pure ?_)
     refine wpS_bind (a7d C (kd:=kd) rfl hy (hx.at (show t < x.size by lia)) (by lia) (by lia) ?_ ?_)
     ·intro u v huv hv h
      simp only [a2k,if_true,Nat.zero_add] at h ⊢
      cases e:lt (gA y u) (gA x t) with
      | true=>rfl
      | false =>
       have:=C.trans _ _ _ e (ay huv (by lia))
       rw [h] at this; cases this
     intro b hb kl2 kr2
     simp only [a2k,if_true,Nat.zero_add] at kl2 kr2
     dsimp only
     apply c7i
     ·intro cont
      have hM3:=hM2.moreY (t:=b) sy (by lia) (by lia) hb fun m m' g1 g2 g3=>C.trans _ _ _ (ax (show m'≤t by lia) (by lia)) (kr2 m g1 g2)
      by_cases hk1:j - b > 0
      rw [if_pos hk1]
      by_cases hb4:b=1
      rw [if_pos (by simpa using hb4)]
      exact wpS_pure ⟨_,rfl,.inl ⟨_,rfl,fstJ hM3 hb4 (by lia)⟩⟩
      rw [if_neg (by simpa using hb4)]
      by_cases hb5:b=0
      rw [if_pos (by simpa using hb5)]
      exact wpS_pure ⟨_,rfl,.inl ⟨_,rfl,finJ hM3 hb5 (by lia)⟩⟩
      rw [if_neg (by simpa using hb5)]
      have h7:2≤b:=by lia
      have h8:b≤y.size:=by lia
      have hT3:n + 1 + n' + 1 + t + b≤x.size + y.size:=by lia
      generalize (o1.push (gA y j))++(y.extract b j).reverse=o2 at hM3 ⊢
      generalize j - b=dk
      have kl3:=kl2
      revert hM3 h7 h8 hT3 kl3
      generalize b=b1
      revert o2 dk b1
      exact cont
      rw [if_neg hk1]
      have hk1:b=j:=by lia
      subst hk1
      rw [show o1.push (gA y b)++(y.extract b b).reverse=o1.push (gA y b) by simp; lia] at hM3
      have h7:2≤b:=by lia
      have h8:b≤y.size:=by lia
      have hT3:n + 1 + n' + 1 + t + b≤x.size + y.size:=by lia
      generalize (o1.push (gA y b))=o2 at hM3 ⊢
      generalize b - b=dk
      exact cont _ _ _ h7 h8 hT3 hM3 kl2
     intro o2 dk b h7 h8 hT3 hM3 kl2
     refine wpS_bind (wpS_pure ?_)
     have hM4:=hM3.pushX sx (show t < x.size by lia) h8 fun m' hm'=>C.asym _ _ (kl2 m' hm')
     by_cases hb6:t=0
     ·rw [if_pos (by simpa using hb6)]
      exact wpS_pure ⟨_,rfl,.inl ⟨_,rfl,finI hM4 hb6 h8⟩⟩
     rw [if_neg (by simpa using hb6)]
     split
     ·exact wpS_pure ⟨_,rfl,.inr ⟨rfl,hM4,by first | lia | (dsimp only; lia),by first | lia | (dsimp only; lia),h7,h8,by first | lia | (dsimp only; lia)⟩⟩
     ·exact wpS_pure ⟨_,rfl,rfl,hM4,by first | lia | (dsimp only; lia),by first | lia | (dsimp only; lia),h7,h8,by first | lia | (dsimp only; lia)⟩
   ·rintro c st' ⟨g3,rfl,hc,hM,h1,h2,h3,h4,hT⟩
    exfalso; lia
   ·rintro c st' ⟨g3,rfl,hc⟩
    obtain ⟨r,i,j,o,G,cc,dd⟩:=c
    dsimp only at hc ⊢
    rcases hc with ⟨r',rfl,hr⟩ | ⟨rfl,hgo⟩
    ·exact wpS_pure ⟨g3,r',rfl,rfl,hr⟩
    ·dsimp only
     rw [a4x]
     exact wpS_bind (wpS_modify (wpS_pure ⟨_,rfl,rfl,hgo⟩))
 ·rintro c st' ⟨g2,rfl,hc,hM,h1,h2,h3,h4,hT⟩
  exfalso; lia
 ·rintro c st' ⟨g2,r,rfl,hc,hr⟩
  obtain ⟨r',i,j,o,cc⟩:=c
  dsimp only at hc ⊢
  subst hc
  exact wpS_pure (q _ _ hr)
end
theorem b1f {lt:Keyed→Keyed→Bool} (hr:∀ u,lt u u=false) {a:Array Keyed} {lo hi:Nat} (hh:hi≤a.size):Srt lt a lo hi↔Asc lt ((a.toList.drop lo).take (hi - lo)):=by
 rw [Asc,List.pairwise_iff_getElem]
 constructor
 ·intro h i j hi' hj hij
  simp at hi' hj
  simp only [List.getElem_take,List.getElem_drop]
  have:=h (lo + i) (lo + j) (by lia) (by lia) (by lia)
  rwa [a0i (show lo + i < a.toList.length by simp; lia),a0i (show lo + j < a.toList.length by simp; lia)] at this
 ·intro h i j h1 h2 h3
  by_cases e:i=j
  ·subst e; exact hr _
  ·have:=h (i - lo) (j - lo) (by simp; lia) (by simp; lia) (by lia)
   simp only [List.getElem_take,List.getElem_drop,show lo + (i - lo)=i by lia,show lo + (j - lo)=j by lia] at this
   rw [a0i (show i < a.toList.length by simp; lia),a0i (show j < a.toList.length by simp; lia)]
   exact this
noncomputable def back (r:Array Keyed) (s:Nat) (a:Array Keyed):Array Keyed:=r.toList.zipIdx.foldl (fun a q=>a.setIfInBounds (s + q.2) q.1) a
theorem b0f (s:Nat):∀ (l:List Keyed) (k:Nat) (a:Array Keyed),s + k + l.length≤a.size→((l.zipIdx k).foldl (fun a q=>a.setIfInBounds (s + q.2) q.1) a).toList=a.toList.take (s + k)++l++a.toList.drop (s + k + l.length)
 | [],k,a,_=>by simp
 | x :: l,k,a,h=>by
  rw [List.zipIdx_cons,List.foldl_cons,b0f s l (k + 1) _ (by simp at h ⊢; lia)]
  have hk:s + k < a.toList.length:=by simp at h ⊢; lia
  have e:(a.setIfInBounds (s + k) x).toList=a.toList.take (s + k)++x :: a.toList.drop (s + k + 1):=by
   rw [Array.toList_setIfInBounds,List.set_eq_take_append_cons_drop,if_pos hk]
  show (a.setIfInBounds (s + k) x).toList.take (s + (k + 1))++l++(a.setIfInBounds (s + k) x).toList.drop (s + (k + 1) + l.length)=_
  have hl:(a.toList.take (s + k)).length=s + k:=by rw [List.length_take]; lia
  have e1:(a.setIfInBounds (s + k) x).toList.take (s + (k + 1))=a.toList.take (s + k)++[x]:=by
   rw [e,List.take_append,List.take_of_length_le (by rw [hl]; lia),hl,show s + (k + 1) - (s + k)=1 by lia]; rfl
  have e2:(a.setIfInBounds (s + k) x).toList.drop (s + (k + 1) + l.length)=a.toList.drop (s + k + (x :: l).length):=by
   rw [e,List.drop_append,List.drop_of_length_le (by rw [hl]; lia),hl,show s + (k + 1) + l.length - (s + k)=l.length + 1 by lia,List.nil_append,List.drop_succ_cons,List.drop_drop,List.length_cons]
   congr 1; lia
  rw [e1,e2]; simp
theorem b9n {r a:Array Keyed} {s:Nat} (h:s + r.size≤a.size):(back r s a).toList=a.toList.take s++r.toList++a.toList.drop (s + r.size):=by
 have:=b0f s r.toList 0 a (by simpa using h)
 simpa [back] using this
theorem b4j (i:Nat):mergeAt' i=(do
 let z ← get
 let (some (u,m,e),some (v,n,_)):=((pendingOf z)[i]?,(pendingOf z)[i + 1]?) | unsupported "internal:list.sort.pending"
 set (SortSt.mk' (kindOf z) (arrOf z) (((pendingOf z).setIfInBounds i (u,m + n,e)).eraseIdxIfInBounds (i + 1)) (gallopOf z) (failedOf z))
 let some k ← gal false (← elem' (arrOf z) v) (arrOf z) u m 0 | return false
 let (u,m):=(u + k,m - k)
 if m == 0 then return true
 let some n ← gal true (← elem' (arrOf z) (u + m - 1)) (arrOf z) v n (n - 1) | return false
 if n == 0 then return true
 let x:=(arrOf z).extract u v
 let y:=(arrOf z).extract v (v + n)
 let r ← if m≤n then mLo x y else mHi x y
 modify fun z=>setArr z (r.toList.zipIdx.foldl (fun a (p,j)=>a.setIfInBounds (u + j) p) (arrOf z))
 return (failedOf (← get)).isNone):=rfl
section
variable {prog:Program} {w:World} {A:Around} {E:Value→Shared→Prop} {s:Shared} {kd:SortKind} {Ok:Keyed→Prop} {lt:Keyed→Keyed→Bool}
theorem c3y {Q:PUnit→SortSt→Prop} {st st':SortSt} (h:Q ⟨⟩ st'):wpS (model prog w) A E s (set st':StateT SortSt Sem PUnit) Q st:=by
 unfold wpS; rw [StateT.run_set]; exact Γb ⟨rfl,h⟩
theorem b3g {a:Array Keyed} {i j k:Nat} (hj:j≤a.size) (hk:i + k < j):gA (a.extract i j) k=gA a (i + k):=by
 apply a2n
 rw [Array.getElem?_extract,if_pos (by lia)]
theorem d0d (C:Cmp prog w A E s kd Ok lt) {a:Array Keyed} {p:Array (Nat×Nat×Nat)} {g i u m e n f:Nat} {Q:Bool→SortSt→Prop} (ho:AllOk Ok a) (h1:p[i]?=some (u,m,e)) (h2:p[i + 1]?=some (u + m,n,f)) (hm:1≤m) (hn:1≤n) (hz:u + m + n≤a.size) (s1:Srt lt a u (u + m)) (s2:Srt lt a (u + m) (u + m + n))
  (q:∀ b g',Out a b u (u + m + n)→Srt lt b u (u + m + n)→Q true (stA kd b ((p.setIfInBounds i (u,m + n,e)).eraseIdxIfInBounds (i + 1)) g')):wpS (model prog w) A E s (mergeAt' i) Q (stA kd a p g):=by
 rw [b4j]
 refine wpS_bind (wpS_get ?_)
 show wpS _ _ _ _ (match (p[i]?,p[i + 1]?) with | (some (u,m,e),some (v,n,_))=>_ | _=>_) _ _
 rw [h1,h2]
 refine wpS_bind (c3y ?_)
 generalize ((p.setIfInBounds i (u,m + n,e)).eraseIdxIfInBounds (i + 1))=p' at q ⊢
 rw [show arrOf (stA kd a p g)=a from rfl,show SortSt.mk' (kindOf (stA kd a p g)) a p' (gallopOf (stA kd a p g)) (failedOf (stA kd a p g))=stA kd a p' g from rfl,elem'_eq,a2z (show u + m < a.size by lia)]
 refine wpS_bind (wpS_pure ?_)
 refine wpS_bind (a7d C (kd:=kd) rfl ho (ho.at (by lia)) (by lia) (by lia) ?_ ?_)
 ·intro x y hxy hy h
  simp only [a2k,Γp,if_false,Bool.not_eq_true'] at h ⊢
  exact C.trans _ _ _ (s1 _ _ (by lia) (by lia) (by lia)) h
 intro k hk kl kr
 simp only [a2k,Γp,if_false,Bool.not_eq_true',Bool.not_eq_false'] at kl kr
 dsimp only
 -- where all of the first row is ahead of the second
 have whole:(∀ i j,u≤i→i < u + m→u + m≤j→j < u + m + n→lt (gA a j) (gA a i)=false)→Srt lt a u (u + m + n):=by
  intro h i j h1 h2 h3
  by_cases hj:j < u + m
  ·exact s1 i j h1 h2 hj
  ·by_cases hi:i < u + m
   ·exact h i j h1 hi (by lia) h3
   ·exact s2 i j (by lia) h2 h3
 by_cases hb:m - k=0
 ·rw [if_pos (by simpa using hb)]
  refine wpS_pure (q a g (Out.refl _ _ _) (whole fun i j h1 h2 h3 h4=>?_))
  have:=kl (i - u) (by lia)
  rw [show u + (i - u)=i by lia] at this
  exact C.trans _ _ _ this (s2 _ _ (Γi _) h3 h4)
 rw [if_neg (by simpa using hb),elem'_eq,a2z (show u + k + (m - k) - 1 < a.size by lia)]
 refine wpS_bind (wpS_pure ?_)
 rw [show u + k + (m - k) - 1=u + m - 1 by lia]
 refine wpS_bind (a7d C (kd:=kd) rfl ho (ho.at (by lia)) (by lia) (by lia) ?_ ?_)
 ·intro x y hxy hy h
  simp only [a2k,if_true] at h ⊢
  cases e:lt (gA a (u + m + x)) (gA a (u + m - 1)) with
  | true=>rfl
  | false =>
   have:=C.trans _ _ _ e (s2 (u + m + x) (u + m + y) (by lia) (by lia) (by lia))
   rw [h] at this; cases this
 intro t ht kl2 kr2
 simp only [a2k,if_true] at kl2 kr2
 dsimp only
 by_cases hb2:t=0
 ·rw [if_pos (by simpa using hb2)]
  refine wpS_pure (q a g (Out.refl _ _ _) (whole fun i j h1 h2 h3 h4=>?_))
  have:=kr2 (j - (u + m)) (by lia) (by lia)
  rw [show u + m + (j - (u + m))=j by lia] at this
  exact C.trans _ _ _ (s1 i (u + m - 1) h1 (by lia) (by lia)) this
 rw [if_neg (by simpa using hb2)]
 have xs:(a.extract (u + k) (u + m)).size=m - k:=by rw [Array.size_extract]; lia
 have ys:(a.extract (u + m) (u + m + t)).size=t:=by rw [Array.size_extract]; lia
 have xl:(a.extract (u + k) (u + m)).toList=(a.toList.drop (u + k)).take (m - k):=by rw [a1r]; congr 1; lia
 have yl:(a.extract (u + m) (u + m + t)).toList=(a.toList.drop (u + m)).take t:=by rw [a1r]; congr 1; lia
 have hx:AllOk Ok (a.extract (u + k) (u + m)):=fun z hz=>ho z (by rw [xl] at hz; exact List.mem_of_mem_drop (List.mem_of_mem_take hz))
 have hy:AllOk Ok (a.extract (u + m) (u + m + t)):=fun z hz=>ho z (by rw [yl] at hz; exact List.mem_of_mem_drop (List.mem_of_mem_take hz))
 have sx:Asc lt (a.extract (u + k) (u + m)).toList:=by
  rw [xl]
  have:Srt lt a (u + k) (u + m):=fun i j h1 h2 h3=>s1 i j (by lia) h2 h3
  have:=(b1f C.refl (by lia)).mp this
  rwa [show u + m - (u + k)=m - k by lia] at this
 have sy:Asc lt (a.extract (u + m) (u + m + t)).toList:=by
  rw [yl]
  have:Srt lt a (u + m) (u + m + t):=fun i j h1 h2 h3=>s2 i j h1 h2 (by lia)
  have:=(b1f C.refl (by lia)).mp this
  rwa [show u + m + t - (u + m)=t by lia] at this
 have hf:lt (gA (a.extract (u + k) (u + m)) 0) (gA (a.extract (u + m) (u + m + t)) 0)=false:=by
  rw [b3g (by lia) (by lia),b3g (by lia) (by lia)]
  exact C.asym _ _ (kr k (Γi _) (by lia))
 have hl:∀ j,j < (a.extract (u + m) (u + m + t)).size→lt (gA (a.extract (u + k) (u + m)) ((a.extract (u + k) (u + m)).size - 1)) (gA (a.extract (u + m) (u + m + t)) j)=false:=by
  intro j hj
  rw [ys] at hj
  rw [xs,b3g (by lia) (by lia),b3g (by lia) (by lia),show u + k + (m - k - 1)=u + m - 1 by lia]
  exact C.asym _ _ (kl2 j hj)
 have last:∀ r g',Mrg lt (a.extract (u + k) (u + m)).toList (a.extract (u + m) (u + m + t)).toList r.toList→Q true (stA kd (back r (u + k) a) p' g'):=by
  intro r g' hr
  rw [xl,yl] at hr
  have rs:r.size=m - k + t:=by
   have:=hr.1.length_eq
   simp at this; lia
  have bl:=b9n (r:=r) (a:=a) (s:=u + k) (by lia)
  have pm:(back r (u + k) a).Perm a:=by
   rw [Array.perm_iff_toList_perm,bl,rs]
   have:a.toList=a.toList.take (u + k)++((a.toList.drop (u + k)).take (m - k)++(a.toList.drop (u + m)).take t)++a.toList.drop (u + k + (m - k + t)):=by
    have e1:(a.toList.drop (u + k)).take (m - k)++(a.toList.drop (u + m)).take t=(a.toList.drop (u + k)).take (m - k + t):=by
     rw [List.take_add,List.drop_drop,show u + k + (m - k)=u + m by lia]
    rw [e1,← List.take_add,List.take_append_drop]
   conv=>rhs; rw [this]
   exact (hr.1.append_left _).append_right _
  have bsz:(back r (u + k) a).size=a.size:=pm.size_eq
  have hlen:(a.toList.take (u + k)).length=u + k:=by simp; lia
  -- an item behind,by its place
  have out1:∀ i,i < u + k→gA (back r (u + k) a) i=gA a i:=fun i hi=>by
   rw [a0i (show i < (back r (u + k) a).toList.length by simp; lia),a0i (show i < a.toList.length by simp; lia)]
   simp only [bl]
   rw [List.getElem_append_left (by simp; lia),List.getElem_append_left (by simp; lia),List.getElem_take]
  have out2:∀ i,u + m + t≤i→gA (back r (u + k) a) i=gA a i:=fun i hi=>by
   by_cases hs:i < a.size
   ·rw [a0i (show i < (back r (u + k) a).toList.length by simp; lia),a0i (show i < a.toList.length by simp; lia)]
    simp only [bl]
    rw [List.getElem_append_right (by simp; lia),List.getElem_drop]
    congr 1
    simp
    lia
   ·apply a2n
    rw [Array.getElem?_eq_none (by lia),Array.getElem?_eq_none (by lia)]
  have inr:∀ i,(h1:u + k≤i)→(h2:i < u + m + t)→gA (back r (u + k) a) i=r.toList[i - (u + k)]'(by simp; lia):=fun i h1 h2=>by
   rw [a0i (show i < (back r (u + k) a).toList.length by simp; lia)]
   simp only [bl]
   rw [List.getElem_append_left (by simp; lia),List.getElem_append_right (by simp; lia)]
   congr 1
   simp; lia
  have inn:∀ i,u + k≤i→i < u + m + t→gA (back r (u + k) a) i∈r.toList:=fun i h1 h2=>by
   rw [a0i (show i < (back r (u + k) a).toList.length by simp; lia)]
   simp only [bl]
   rw [List.getElem_append_left (by simp; lia),List.getElem_append_right (by simp; lia)]
   exact List.getElem_mem _
  have mem:∀ z∈r.toList,(∃ i,u + k≤i∧i < u + m∧z=gA a i) ∨ ∃ i,u + m≤i∧i < u + m + t∧z=gA a i:=fun z hz=>by
   rcases List.mem_append.mp (hr.1.mem_iff.mp hz) with hz | hz
   ·obtain ⟨i,hi,i1,i2,e⟩:=a3f hz
    exact .inl ⟨i,i1,by lia,by rw [a0i hi,e]⟩
   ·obtain ⟨i,hi,i1,i2,e⟩:=a3f hz
    exact .inr ⟨i,i1,by lia,by rw [a0i hi,e]⟩
  refine q _ g' ⟨pm,fun i hi=>?_⟩ fun i j h1 h2 h3=>?_
  ·rcases hi with hi | hi
   ·exact out1 i (by lia)
   ·exact out2 i (by lia)
  ·by_cases hi1:i < u + k
   ·rw [out1 i hi1]
    have low:=kl (i - u) (by lia)
    rw [show u + (i - u)=i by lia] at low
    by_cases hj1:j < u + k
    ·rw [out1 j hj1]; exact s1 i j h1 h2 (by lia)
    ·by_cases hj2:j < u + m + t
     ·rcases mem _ (inn j (by lia) hj2) with ⟨j',a1,a2,e⟩ | ⟨j',a1,a2,e⟩
      ·rw [e]; exact s1 i j' h1 (by lia) (by lia)
      ·rw [e]; exact C.trans _ _ _ low (s2 _ _ (Γi _) a1 (by lia))
     ·rw [out2 j (by lia)]
      exact C.trans _ _ _ low (s2 _ _ (Γi _) (by lia) h3)
   ·by_cases hj2:j < u + m + t
    ·by_cases e:i=j
     ·subst e; exact C.refl _
     ·have ha:=List.pairwise_iff_getElem.mp hr.2
      have:=ha (i - (u + k)) (j - (u + k)) (by simp; lia) (by simp; lia) (by lia)
      rw [inr i (by lia) (by lia),inr j (by lia) hj2]
      exact this
    ·rw [out2 j (by lia)]
     by_cases hi2:i < u + m + t
     ·have up:=kr2 (j - (u + m)) (by lia) (by lia)
      rw [show u + m + (j - (u + m))=j by lia] at up
      rcases mem _ (inn i (by lia) hi2) with ⟨i',a1,a2,e⟩ | ⟨i',a1,a2,e⟩
      ·rw [e]; exact C.trans _ _ _ (s1 i' (u + m - 1) (by lia) (by lia) (by lia)) up
      ·rw [e]; exact s2 i' j a1 (by lia) h3
     ·rw [out2 i (by lia)]
      exact s2 i j (by lia) h2 h3
 by_cases hmn:m - k≤t
 ·rw [if_pos hmn]
  refine wpS_bind (c9z C hx hy (by lia) (by lia) sx sy hf hl fun r g' hr=>?_)
  refine wpS_bind (wpS_modify (wpS_bind (wpS_get (wpS_pure ?_))))
  exact last r g' hr
 ·rw [if_neg hmn]
  refine wpS_bind (d0b C hx hy (by lia) (by lia) sx sy hf hl fun r g' hr=>?_)
  refine wpS_bind (wpS_modify (wpS_bind (wpS_get (wpS_pure ?_))))
  exact last r g' hr
end
noncomputable def Cov (lt:Keyed→Keyed→Bool) (a:Array Keyed):List (Nat×Nat×Nat)→Nat→Nat→Prop
 | [],s,e=>s=e
 | (u,n,_) :: r,s,e=>u=s∧1≤n∧Srt lt a s (s + n)∧Cov lt a r (s + n) e
section
variable {lt:Keyed→Keyed→Bool} {a b:Array Keyed}
theorem Cov.le:∀ {l:List (Nat×Nat×Nat)} {s e:Nat},Cov lt a l s e→s + l.length≤e
 | [],s,e,h=>by cases (show s=e from h); simp
 | (u,n,_) :: r,s,e,⟨_,h2,_,h4⟩=>by have:=h4.le; simp; lia
theorem Cov.out:∀ {l:List (Nat×Nat×Nat)} {s e lo hi:Nat},Cov lt a l s e→Out a b lo hi→e≤lo ∨ hi≤s→Cov lt b l s e
 | [],s,e,lo,hi,h,o,d=>h
 | (u,n,_) :: r,s,e,lo,hi,⟨h1,h2,h3,h4⟩,o,d=>⟨h1,h2,h3.out o (by have:=h4.le; lia),h4.out o (by lia)⟩
theorem Cov.snoc:∀ {l:List (Nat×Nat×Nat)} {s e n f:Nat},Cov lt a l s e→1≤n→Srt lt a e (e + n)→Cov lt a (l++[(e,n,f)]) s (e + n)
 | [],s,e,n,f,h,h1,h2=>by cases (show s=e from h); exact ⟨rfl,h1,h2,rfl⟩
 | (u,m,_) :: r,s,e,n,f,⟨g1,g2,g3,g4⟩,h1,h2=>⟨g1,g2,g3,g4.snoc h1 h2⟩
theorem Cov.join : ∀ {l : List (Nat × Nat × Nat)} {i s e : Nat}, Cov lt a l s e → i + 1 < l.length → ∃ u m f n f', l[i]? = some (u, m, f) ∧ l[i + 1]? = some (u + m, n, f') ∧ 1 ≤ m ∧ 1 ≤ n ∧ s ≤ u ∧ u + m + n ≤ e ∧ Srt lt a u (u + m) ∧ Srt lt a (u + m) (u + m + n) ∧
      ∀ b, Out a b u (u + m + n) → Srt lt b u (u + m + n) → Cov lt b ((l.set i (u, m + n, f)).eraseIdx (i + 1)) s e
  | [], i, s, e, h, hi => by simp at hi
  | [_], i, s, e, h, hi => by simp at hi
  | (u, m, f) :: (v, n, f') :: r, 0, s, e, ⟨g1, g2, g3, g4, g5, g6, g7⟩, hi => by
    subst g1; subst g4
    refine ⟨u, m, f, n, f', rfl, rfl, g2, g5, Γi _, by have := g7.le; lia, g3, g6, fun b o hs => ?_⟩
    refine ⟨rfl, by lia, by rw [← Nat.add_assoc]; exact hs, ?_⟩
    rw [← Nat.add_assoc]
    exact g7.out o (.inr (Γi _))
  | (u, m, f) :: q :: r, i + 1, s, e, ⟨g1, g2, g3, g4⟩, hi => by
    obtain ⟨u', m', f1, n', f2, e1, e2, h1, h2, h3, h4, h5, h6, h7⟩ := Cov.join (i := i) g4 (by simpa using hi)
    refine ⟨u', m', f1, n', f2, by simpa using e1, by simpa using e2, h1, h2, by lia, h4, h5, h6, fun b o hs => ?_⟩
    have := h7 b o hs
    rw [List.set_cons_succ, List.eraseIdx_cons_succ]
    exact ⟨g1, g2, g3.out o (.inl h3), this⟩
theorem Cov.pow:∀ {l:List (Nat×Nat×Nat)} {i s e:Nat} (f:Nat×Nat×Nat→Nat×Nat×Nat),(∀ x,(f x).1=x.1∧(f x).2.1=x.2.1)→Cov lt a l s e→Cov lt a (l.modify i f) s e
 | [],i,s,e,f,hf,h=>by simpa using h
 | (u,n,w) :: r,0,s,e,f,hf,⟨h1,h2,h3,h4⟩=>by
  obtain ⟨e1,e2⟩:=hf (u,n,w)
  rw [List.modify_zero_cons]
  rcases e0:f (u,n,w) with ⟨u',n',w'⟩
  rw [e0] at e1 e2
  dsimp only at e1 e2
  subst e1; subst e2
  exact ⟨h1,h2,h3,h4⟩
 | q :: r,i + 1,s,e,f,hf,h=>by
  obtain ⟨u,n,w⟩:=q
  rw [List.modify_succ_cons]
  exact ⟨h.1,h.2.1,h.2.2.1,h.2.2.2.pow f hf⟩
end
section
variable {prog:Program} {w:World} {A:Around} {E:Value→Shared→Prop} {s:Shared} {kd:SortKind} {Ok:Keyed→Prop} {lt:Keyed→Keyed→Bool}
theorem b2t (C:Cmp prog w A E s kd Ok lt) {a:Array Keyed} {p:Array (Nat×Nat×Nat)} {g i e:Nat} {Q:Bool→SortSt→Prop} (ho:AllOk Ok a) (hc:Cov lt a p.toList 0 e) (hh:e≤a.size) (hi:i + 1 < p.size)
  (q:∀ b p' g',Out a b 0 e→Cov lt b p'.toList 0 e→p'.size + 1=p.size→Q true (stA kd b p' g')):wpS (model prog w) A E s (mergeAt' i) Q (stA kd a p g):=by
 obtain ⟨u,m,f,n,f',e1,e2,h1,h2,h3,h4,h5,h6,h7⟩:=hc.join (i:=i) (by simpa using hi)
 rw [Array.getElem?_toList] at e1 e2
 refine d0d C ho e1 e2 h1 h2 (by lia) h5 h6 fun b g' o hs=>?_
 have hl:((p.setIfInBounds i (u,m + n,f)).eraseIdxIfInBounds (i + 1)).toList=(p.toList.set i (u,m + n,f)).eraseIdx (i + 1):=by
  simp
 refine q b _ g' (o.wide (by lia) h4) (by rw [hl]; exact h7 b o hs) ?_
 rw [← Array.length_toList,hl,List.length_eraseIdx_of_lt (by simpa using hi),List.length_set,Array.length_toList]
 lia
theorem c4n (C:Cmp prog w A E s kd Ok lt) {a:Array Keyed} {g:Nat} {Q:Unit→SortSt→Prop} (ho:AllOk Ok a) (h2:2≤a.size)
  (q:∀ b p g',b.Perm a→Srt lt b 0 a.size→Q () (stA kd b p g')):wpS (model prog w) A E s sortRuns' Q (stA kd a #[] g):=by
 rw [sortRuns'_eq]
 refine wpS_bind (wpS_get ?_)
 dsimp only
 rw [show arrOf (stA kd a #[] g)=a from rfl]
 generalize minRun' a.size a.size 0=mr
 refine wpS_bind (wpS_mono (wpS_forRange (I:=fun n c st'=>∃ b p g' lo,st'=stA kd b p g'∧c=(none,lo)∧b.Perm a∧Cov lt b p.toList 0 lo∧lo≤a.size∧(lo=a.size ∨ n≤lo))
  (Q:=fun c st'=>∃ b p g',st'=stA kd b p g'∧c=(none,a.size)∧b.Perm a∧Cov lt b p.toList 0 a.size) ?_ ?_ ⟨a,#[],g,0,rfl,rfl,Array.Perm.refl _,rfl,by lia,by lia⟩) ?_)
 ·rintro x c st' - hx ⟨b,p,g',lo,rfl,rfl,hp,hc,hlo,hor⟩
  dsimp only
  by_cases hge:lo ≥ a.size
  ·rw [if_pos hge]
   have:lo=a.size:=by lia
   subst this
   exact wpS_pure ⟨b,p,g',rfl,rfl,hp,hc⟩
  rw [if_neg hge]
  have hbz:=hp.size_eq
  have hob:=ho.perm hp
  refine wpS_bind (c8d C hob (by lia) (by lia) fun m b1 m1 m2 o1 s1=>?_)
  dsimp only
  have hp1:=o1.1.trans hp
  have hc1:=hc.out o1 (.inl (Γi _))
  have hob1:=ho.perm hp1
  have hb1:=hp1.size_eq
  by_cases hmr:m < mr
  rw [if_pos hmr]
  refine wpS_bind (wpS_lift (wpAny_rule ⟨rfl,?_⟩))
  refine wpS_bind (d0o C (n:=min (a.size - lo) mr) hob1 m1 (by lia) (by lia) s1 fun b2 o2 s2=>?_)
  simp only [Bool.not_true,Γp,if_false]
  have hp2:=o2.1.trans hp1
  have hc2:=hc1.out o2 (.inl (Γi _))
  have hn1:1≤min (a.size - lo) mr:=by lia
  have hn2:lo + min (a.size - lo) mr≤a.size:=by lia
  generalize min (a.size - lo) mr=n at s2 hn1 hn2 ⊢
  clear s1 o1 o2 hp1 hc1 hob1 hb1 hob hbz hc hp
  rotate_left
  rw [if_neg hmr]
  have hp2:=hp1
  have hc2:=hc1
  have s2:=s1
  have hn1:=m1
  have hn2:lo + m≤a.size:=by lia
  clear s1 o1 hp1 hc1 hob1 hb1 hob hbz hc hp m2
  generalize b1=b2 at hp2 hc2 s2 ⊢
  generalize m=n at s2 hn1 hn2 ⊢
  all_goals
   have fin:∀ (b3:Array Keyed) (p3:Array (Nat×Nat×Nat)) (g3:Nat),b3.Perm a→Cov lt b3 p3.toList 0 lo→Srt lt b3 lo (lo + n)→∃ (b:Array Keyed) (p:Array (Nat×Nat×Nat)) (g' lo':Nat),stA kd b3 (p3.push (lo,n,0)) g3=stA kd b p g'∧((none,lo + n):Option Unit×Nat)=(none,lo')∧b.Perm a∧Cov lt b p.toList 0 lo'∧lo'≤a.size∧(lo'=a.size ∨ x + 1≤lo'):=by
    intro b3 p3 g3 i1 i2 i3
    refine ⟨b3,_,g3,lo + n,rfl,rfl,i1,?_,hn2,by lia⟩
    rw [Array.toList_push]
    exact i2.snoc hn1 i3
   refine wpS_bind (wpS_get ?_)
   rw [show pendingOf (stA kd b2 p g')=p from rfl]
   rcases hbk:p.back? with _ | ⟨s1,n1,w1⟩
   ·exact wpS_bind (wpS_modify (wpS_pure (fin b2 p g' hp2 hc2 s2)))
   ·dsimp only
    generalize power' a.size (2 * s1 + n1) (2 * s1 + n1 + n1 + n) a.size=pw
    refine wpS_bind (wpS_mono (wpS_forRange (I:=fun _ c st'=>∃ b p g',st'=stA kd b p g'∧c=(none,())∧b.Perm a∧Cov lt b p.toList 0 lo∧Srt lt b lo (lo + n))
     (Q:=fun c st'=>∃ b p g',st'=stA kd b p g'∧c=(none,())∧b.Perm a∧Cov lt b p.toList 0 lo∧Srt lt b lo (lo + n)) ?_ (fun _ _ h=>h) ⟨b2,p,g',rfl,rfl,hp2,hc2,s2⟩) ?_)
    ·rintro x' c st' - hx' ⟨b3,p3,g3,rfl,rfl,i1,i2,i3⟩
     refine wpS_bind (wpS_get ?_)
     rw [show pendingOf (stA kd b3 p3 g3)=p3 from rfl]
     have hb3:=i1.size_eq
     by_cases hz:p3.size > 1
     ·rw [if_pos hz]
      rcases hq:p3[p3.size - 2]? with _ | ⟨t1,t2,t3⟩
      ·exact wpS_pure ⟨b3,p3,g3,rfl,rfl,i1,i2,i3⟩
      ·dsimp only
       by_cases ht:t3≤pw
       ·rw [if_pos ht]; exact wpS_pure ⟨b3,p3,g3,rfl,rfl,i1,i2,i3⟩
       ·rw [if_neg ht]
        refine wpS_bind (b2t C (ho.perm i1) i2 (by lia) (by lia) fun b4 p4 g4 o4 c4 _=>?_)
        simp only [Bool.not_true,Γp,if_false]
        exact wpS_pure ⟨b4,p4,g4,rfl,rfl,o4.1.trans i1,c4,i3.out o4 (.inr (Γi _))⟩
     ·rw [if_neg hz]
      exact wpS_pure ⟨b3,p3,g3,rfl,rfl,i1,i2,i3⟩
    ·rintro c st' ⟨b3,p3,g3,rfl,rfl,i1,i2,i3⟩
     dsimp only
     refine wpS_bind (wpS_modify (wpS_bind (wpS_modify (wpS_pure (fin b3 _ g3 i1 ?_ i3)))))
     show Cov lt b3 (p3.modify (p3.size - 1) _).toList 0 lo
     rw [Array.toList_modify]
     exact i2.pow _ fun z=>⟨rfl,rfl⟩
 ·rintro c st' ⟨b,p,g',lo,rfl,rfl,hp,hc,hlo,hor⟩
  have:lo=a.size:=by lia
  subst this
  exact ⟨b,p,g',rfl,rfl,hp,hc⟩
 ·rintro c st' ⟨b,p,g',rfl,rfl,hp,hc⟩
  dsimp only
  have hbz:=hp.size_eq
  refine wpS_bind (wpS_mono (wpS_forRange (I:=fun n c st'=>∃ b p g',st'=stA kd b p g'∧c=(none,())∧b.Perm a∧Cov lt b p.toList 0 a.size∧p.size≤max 1 (a.size - n))
   (Q:=fun c st'=>∃ b p g',st'=stA kd b p g'∧c=(none,())∧b.Perm a∧Cov lt b p.toList 0 a.size∧p.size≤1) ?_ ?_ ⟨b,p,g',rfl,rfl,hp,hc,by have:=hc.le; simp at this; lia⟩) ?_)
  ·rintro x c st' - hx ⟨b,p,g',rfl,rfl,hp,hc,hz⟩
   refine wpS_bind (wpS_get ?_)
   rw [show pendingOf (stA kd b p g')=p from rfl]
   have hbz:=hp.size_eq
   by_cases h1:p.size≤1
   ·rw [if_pos h1]
    exact wpS_pure ⟨b,p,g',rfl,rfl,hp,hc,h1⟩
   rw [if_neg h1]
   generalize hi0:(if ((if p.size - 2 > 0 then Option.map (fun x=>x.2.1) p[p.size - 2 - 1]? else none).any fun x=>decide (x < p[p.size - 2 + 1]?.elim 0 fun x=>x.2.1))=true then p.size - 2 - 1 else p.size - 2)=i0
   have two:∀ c:Bool,(if c=true then p.size - 2 - 1 else p.size - 2) + 1 < p.size:=by
    intro c
    cases c
    ·rw [if_neg Γk]; lia
    ·rw [if_pos rfl]; lia
   have hi:i0 + 1 < p.size:=by rw [← hi0]; exact two _
   refine wpS_bind (b2t C (ho.perm hp) hc (by lia) hi fun b4 p4 g4 o4 c4 hz4=>?_)
   simp only [Bool.not_true,Γp,if_false]
   exact wpS_pure ⟨b4,p4,g4,rfl,rfl,o4.1.trans hp,c4,by lia⟩
  ·rintro c st' ⟨b,p,g',rfl,rfl,hp,hc,hz⟩
   exact ⟨b,p,g',rfl,rfl,hp,hc,by lia⟩
  ·rintro c st' ⟨b,p,g',rfl,rfl,hp,hc,hz⟩
   refine wpS_pure (q b p g' hp ?_)
   rcases hl:p.toList with _ | ⟨⟨u,n,w⟩,_ | ⟨y,r⟩⟩
   ·rw [hl] at hc
    have:(0:Nat)=a.size:=hc
    lia
   ·rw [hl] at hc
    obtain ⟨h1,h2,h3,h4⟩:=hc
    have:0 + n=a.size:=h4
    rwa [this] at h3
   ·have:=congrArg List.length hl
    simp at this; lia
end
theorem a8j:∀ a:List Int,lexLt a a=false
 | []=>rfl
 | x :: r=>by rw [lexLt,if_pos rfl,a8j r]
theorem b3a:∀ a b:List Int,lexLt a b=true→lexLt b a=false
 | [],[],h=>by cases h
 | [],_ :: _,_=>rfl
 | _ :: _,[],h=>by cases h
 | x :: r,y :: q,h=>by
  rw [lexLt] at h ⊢
  by_cases e:x=y
  ·rw [if_pos e] at h; rw [if_pos e.symm]; exact b3a r q h
  ·rw [if_neg e] at h; rw [if_neg (Ne.symm e)]
   simp only [decide_eq_true_eq,decide_eq_false_iff_not] at h ⊢; lia
theorem a9y:∀ a b c:List Int,lexLt b a=false→lexLt c b=false→lexLt c a=false
 | [],b,c,h1,h2=>by cases c <;> rfl
 | x :: r,[],c,h1,h2=>by cases h1
 | x :: r,y :: q,[],h1,h2=>by cases h2
 | x :: r,y :: q,z :: t,h1,h2=>by
  rw [lexLt] at h1 h2 ⊢
  by_cases e1:y=x
  ·rw [if_pos e1] at h1
   by_cases e2:z=y
   ·rw [if_pos e2] at h2; rw [if_pos (e2.trans e1)]; exact a9y r q t h1 h2
   ·rw [if_neg e2] at h2; rw [if_neg (by rw [← e1]; exact e2),← e1]; exact h2
  ·rw [if_neg e1] at h1
   by_cases e2:z=y
   ·rw [if_pos e2] at h2; rw [if_neg (by rw [e2]; exact e1),e2]; exact h1
   ·rw [if_neg e2] at h2
    simp only [decide_eq_false_iff_not] at h1 h2
    rw [if_neg (by lia)]
    simp only [decide_eq_false_iff_not]; lia
section
variable {prog:Program} {w:World} {A:Around} {E:Value→Shared→Prop} {s:Shared} {vs:List Value} {kd:SortKind} {kf:Value→List Int}
theorem d1t (hc:∀ x∈vs,∀ y∈vs,∀ Q:Bool→Shared→Prop,∀ E':Value→Shared→Prop,Q (lexLt (kf x) (kf y)) s→wpAny (model prog w) A (keyLt' kd x y) Q E' s):Cmp prog w A E s kd (fun p=>p.1∈vs) (fun p q=>lexLt (kf p.1) (kf q.1)) where
 run:=fun x y hx hy st Q hk q=>by
  rw [lt'_eq]
  refine wpS_bind (wpS_get ?_)
  rw [hk]
  refine wpS_bind (wpS_lift (wpAny_attempt (hc _ hx _ hy _ _ ⟨rfl,?_⟩)))
  exact wpS_pure q
 refl:=fun x=>a8j _
 trans:=fun x y z h1 h2=>a9y _ _ _ h1 h2
 asym:=fun x y h=>b3a _ _ h
theorem d6e {a:Addr} {n:Nat} {P:PySem.Fin→Shared→Prop} (ho:s.heap.get? a=some (seqObj "list" vs.toArray n)) (hb:vs.length≤100000)
  (hk:2≤vs.length→∀ h3:Heap,(∀ b o,b≠a→s.heap.get? b=some o→h3.get? b=some o)→∀ Q:SortKind→Shared→Prop,Q kd { s with heap:=h3 }→wpAny (model prog w) A (keyKind' vs.toArray) Q E { s with heap:=h3 })
  (hc:∀ h3:Heap,(∀ b o,b≠a→s.heap.get? b=some o→h3.get? b=some o)→∀ x∈vs,∀ y∈vs,∀ Q:Bool→Shared→Prop,∀ E':Value→Shared→Prop,Q (lexLt (kf x) (kf y)) { s with heap:=h3 }→wpAny (model prog w) A (keyLt' kd x y) Q E' { s with heap:=h3 })
  (K:∀ (vs':List Value) (h':Heap) (c tk:Nat),vs'.Perm vs→(vs'.Pairwise fun x y=>lexLt (kf y) (kf x)=false)→h'.get? a=some (seqObj "list" vs'.toArray c)→(∀ b o,b≠a→s.heap.get? b=some o→h'.get? b=some o)→P (.done (.ret .none)) { s with heap:=h',toks:=tk }) :
  wpAny (model prog w) A (Builtin.«list.sort» ⟨[.ref a],[]⟩) P E s:=by
 obtain ⟨e1,ho1⟩:∃ e1,(s.heap.update a (Obj.mapSeq fun _=>(#[]:Array Value))).get? a=some (seqObj "list" #[] e1):=⟨_,get?_update_seq ho fun _=>#[]⟩
 have kp:∀ b o,b≠a→s.heap.get? b=some o→(((s.heap.update a (Obj.mapSeq fun _=>(#[]:Array Value))).push (seqObj "tuple" vs.toArray 0)).push (seqObj "list" #[] 0)).get? b=some o:=fun b o hb e =>
  Γc _ (Γc _ ((Γf _ _ (Ne.symm hb)).trans e))
 have ho2:(((s.heap.update a (Obj.mapSeq fun _=>(#[]:Array Value))).push (seqObj "tuple" vs.toArray 0)).push (seqObj "list" #[] 0)).get? a=some (seqObj "list" #[] e1):=Γc _ (Γc _ ho1)
 rw [list_sort_plain]
 refine Γa (listItems_at ho rfl ?_)
 refine Γa (listUpdate_at ho rfl ?_ (by rw [List.size_toArray,sizeLine_eq]; lia) (Nat.zero_le _))
 refine Γa (seqEpoch_at ho1 rfl ?_)
 refine Γa (wpAny_newTuple ?_ (by show vs.length≤_; rw [sizeLine_eq]; lia))
 refine Γa (wpAny_newList ?_ (Nat.zero_le _))
 refine Γg ?_
 show wpAny (model prog w) A _ P E { s with heap:=((s.heap.update a (Obj.mapSeq fun _=>(#[]:Array Value))).push (seqObj "tuple" vs.toArray 0)).push (seqObj "list" #[] 0) }
 dsimp only
 generalize ((s.heap.update a (Obj.mapSeq fun _=>(#[]:Array Value))).push (seqObj "tuple" vs.toArray 0)).push (seqObj "list" #[] 0)=h3 at kp ho2
 -- what comes behind the sorting
 have fin:∀ b:Array Keyed,b.Perm (pairsOf vs)→Srt (fun p q=>lexLt (kf p.1) (kf q.1)) b 0 b.size→∀ st:SortSt,arrOf st=b→failedOf st=none→wpAny (model prog w) A (do
   let touched:=(← seqEpoch a) != e1
   Builtin.List.listUpdate (.ref a) fun _=>(arrOf st).map (·.2)
   if let some e:=failedOf st then rule "list.sort.comparison-raised"; throw e
   if touched then rule "list.sort.modified"; raiseError "ValueError" "list modified during sort"
   ret .none) P E { s with heap:=h3 }:=by
  intro b hp hs st hst hf
  have hpl:b.toList.Perm (vs.zip vs):=by rw [← pairsOf_toList]; exact Array.perm_iff_toList_perm.mp hp
  have hself:∀ p∈b.toList,p.1=p.2∧p.1∈vs:=fun p hp=>mem_zip_self (hpl.mem_iff.mp hp)
  have hperm:((b.map (·.2)).toList).Perm vs:=by
   rw [Array.toList_map]
   have:=hpl.map (·.2)
   rwa [show (vs.zip vs).map (·.2)=vs by rw [List.map_snd_zip (Γi _)]] at this
  have hord:(b.map (·.2)).toList.Pairwise fun x y=>lexLt (kf y) (kf x)=false:=by
   rw [Array.toList_map,List.pairwise_map]
   have h1:=(b1f (lt:=fun p q=>lexLt (kf p.1) (kf q.1)) (fun u=>a8j _) (Γi _)).mp hs
   rw [List.drop_zero,List.take_of_length_le (by simp)] at h1
   refine List.Pairwise.imp_of_mem (fun {x y} hx hy h=>?_) h1
   rw [← (hself x hx).1,← (hself y hy).1]; exact h
  have hsz:(b.map (·.2)).size=vs.length:=by rw [← Array.length_toList]; exact hperm.length_eq
  obtain ⟨c2,hc2⟩:∃ c2,(h3.update a (Obj.mapSeq fun _=>b.map (·.2))).get? a=some (seqObj "list" (b.map (·.2)) c2):=⟨_,get?_update_seq ho2 fun _=>b.map (·.2)⟩
  refine Γa (seqEpoch_at ho2 rfl ?_)
  rw [hst]
  refine Γa (listUpdate_at ho2 rfl ?_ (Nat.zero_le _) (Nat.le_trans (Nat.le_of_eq hsz) (by rw [sizeLine_eq]; lia)))
  rw [hf]
  simp only [bne_self_eq_false,Γp,if_false]
  exact Γb (K (b.map (·.2)).toList _ c2 _ hperm hord (by rw [Array.toArray_toList]; exact hc2) fun b' o hb' e=>(Γf _ _ (Ne.symm hb')).trans (kp b' o hb' e))
 by_cases h2:vs.toArray.size < 2
 ·rw [if_pos h2,if_pos h2]
  refine Γa (Γb ?_)
  rw [StateT.run_pure]
  refine Γa (Γb ?_)
  refine fin (pairsOf vs) (Array.Perm.refl _) (fun i j i1 i2 i3=>?_) _ rfl rfl
  rw [pairsOf_size] at i3
  have:vs.length < 2:=by simpa using h2
  have:i=j:=by lia
  subst this; exact a8j _
 ·rw [if_neg h2,if_neg h2]
  have h2':2≤vs.length:=by simpa using h2
  refine Γa (hk h2' h3 kp _ ?_)
  refine Γa (wpAny_mono (c4n (E:=E) (d1t (E:=E) (hc h3 kp)) (a:=pairsOf vs) (g:=7) (Q:=fun _ st'=>∃ b,b.Perm (pairsOf vs)∧Srt (fun p q=>lexLt (kf p.1) (kf q.1)) b 0 (pairsOf vs).size∧arrOf st'=b∧failedOf st'=none)
   (fun p hp=>by rw [pairsOf_toList] at hp; exact (mem_zip_self hp).2) (by rw [pairsOf_size]; exact h2') fun b p g' q1 q2=>⟨b,q1,q2,rfl,rfl⟩) ?_ fun _ _ e=>e)
  rintro ⟨⟨⟩,st'⟩ s' ⟨rfl,b,q1,q2,q3,q4⟩
  rw [← q1.size_eq] at q2
  exact fin b q1 q2 st' q3 q4
theorem b4b {l:Addr} {Q:Value→Shared→Prop} (hl:s.heap.IsList l vs.toArray) (hb:vs.length≤100000)
  (hk:∀ A':Around,2≤vs.length→∀ h3:Heap,(∀ b o,s.heap.get? b=some o→h3.get? b=some o)→∀ Q:SortKind→Shared→Prop,Q kd { s with heap:=h3 }→wpAny (model prog w) A' (keyKind' vs.toArray) Q E { s with heap:=h3 })
  (hc:∀ A':Around,∀ h3:Heap,(∀ b o,s.heap.get? b=some o→h3.get? b=some o)→∀ x∈vs,∀ y∈vs,∀ Q:Bool→Shared→Prop,∀ E':Value→Shared→Prop,Q (lexLt (kf x) (kf y)) { s with heap:=h3 }→wpAny (model prog w) A' (keyLt' kd x y) Q E' { s with heap:=h3 })
  (K:∀ (D:Addr) (vs':List Value) (h':Heap) (c tk:Nat),vs'.Perm vs→(vs'.Pairwise fun x y=>lexLt (kf y) (kf x)=false)→s.heap.objs.size≤D→h'.get? D=some (seqObj "list" vs'.toArray c)→(∀ b o,s.heap.get? b=some o→h'.get? b=some o)→Q (.ref D) { s with heap:=h',toks:=tk }) :
  wpAny (model prog w) A (call (.builtin "sorted") [.ref l]) Q E s:=by
 refine Calls.call_function_entry kind_sorted plain_sorted entry_sorted (args_sorted1 _) ?_
 unfold Builtin.«sorted»
 refine Γa (m:=checkCount "sorted" 1 1 _) (Γb ?_)
 refine Γa (collect_list hl ?_ (by rw [sizeLine_eq]; lia))
 refine Γa (wpAny_newList ?_ (by rw [sizeLine_eq]; lia))
 have hsz:((s.heap.push (seqObj "list" #[] 0)).update s.heap.objs.size (Obj.mapSeq (·++vs.toArray))).objs.size=s.heap.objs.size + 1:=by
  rw [Heap.size_update,size_push']
 have hoL:(((s.heap.push (seqObj "list" #[] 0)).update s.heap.objs.size (Obj.mapSeq (·++vs.toArray))).push (seqObj "list" vs.toArray 0)).get? (s.heap.objs.size + 1)=some (seqObj "list" vs.toArray 0):=by
  rw [← hsz]; exact Γm _ rfl
 have keep:∀ b o,s.heap.get? b=some o→(((s.heap.push (seqObj "list" #[] 0)).update s.heap.objs.size (Obj.mapSeq (·++vs.toArray))).push (seqObj "list" vs.toArray 0)).get? b=some o:=fun b o q=>by
  have hlt:b < s.heap.objs.size:=Γl q
  rw [Heap.get?_push_ne _ _ _ (by rw [hsz]; exact Γo (Nat.lt_succ_of_lt hlt)),Heap.get?_update_ne _ _ _ _ (Γo hlt),Heap.get?_push_ne _ _ _ (Γo hlt)]
  exact q
 have old:∀ b o,s.heap.get? b=some o→b≠s.heap.objs.size + 1:=fun b o e=>Γo (Nat.lt_succ_of_lt (Γl e))
 show wpAny _ _ _ _ _ { s with heap:=((s.heap.push (seqObj "list" #[] 0)).update s.heap.objs.size (Obj.mapSeq (·++vs.toArray))).push (seqObj "list" vs.toArray 0) }
 rw [hsz]
 refine Γa (Γg (wpAny_call_entry slot_list_sort ⟨_,hoL,rfl⟩ entry_list_sort (d6e (kd:=kd) (kf:=kf) hoL hb (fun h2 h3 kp=>hk _ h2 h3 fun b o e=>kp b o (old b o e) (keep b o e)) (fun h3 kp=>hc _ h3 fun b o e=>kp b o (old b o e) (keep b o e)) fun vs' h' c tk a1 a2 a3 a4=>⟨_,rfl,?_⟩) (args_list_sort _)))
 exact Γb ⟨_,rfl,K _ vs' h' c tk a1 a2 (Nat.le_succ _) a3 fun b o e=>a4 b o (old b o e) (keep b o e)⟩
end
noncomputable def a6u (h:Heap):Value→List Int
 | .ref a=>match h.get? a with
  | some o=>match o.data with
   | .seq us _=>us.toList.map numOf
   | _=>[]
  | none=>[]
 | _=>[]
theorem a9c:∀ {ks:List Int} {us:List Value},Vals (ks.map V.int) us→us.map numOf=ks
 | [],us,h=>by cases h; rfl
 | k :: ks,us,h=>by
  cases h with
  | @cons _ u _ us' r1 h =>
  obtain ⟨t,rfl⟩:=r1
  rw [List.map_cons,a9c h]; rfl
noncomputable def c3k (fin:Bool):List Int→List Int→Bool
 | [],_=>fin
 | _ :: _,[]=>fin
 | k :: ks,j :: js=>if k=j then c3k fin ks js else decide (k < j)
theorem b7j:∀ (ks js:List Int),c3k (decide (ks.length < js.length)) ks js=lexLt ks js
 | [],[]=>by simp [c3k,lexLt]
 | [],j :: js=>by simp [c3k,lexLt]
 | k :: ks,[]=>by simp [c3k,lexLt]
 | k :: ks,j :: js=>by
  rw [c3k,lexLt]
  have:=b7j ks js
  simp only [List.length_cons,Nat.add_lt_add_iff_right]
  rw [this]
section
variable {prog:Program} {w:World} {A:Around} {E:Value→Shared→Prop} {s:Shared} {vs:List Value}
theorem c3i {b fin:Bool} {Q:Bool→Shared→Prop}:∀ (ks js:List Int) (us ws:List Value) (i:Nat),Vals (ks.map V.int) us→Vals (js.map V.int) ws→Q (c3k fin ks js) s→KatLex prog w A b fin Q (us.zip ws) i s
 | [],js,us,ws,i,h1,h2,q=>by
  cases h1
  rw [List.zip_nil_left]
  exact q
 | k :: ks,[],us,ws,i,h1,h2,q=>by
  cases h2
  rw [List.zip_nil_right]
  exact q
 | k :: ks,j :: js,us,ws,i,h1,h2,q=>by
  cases h1 with
  | @cons _ u _ us' r1 h1 =>
  cases h2 with
  | @cons _ x _ ws' r2 h2 =>
  obtain ⟨t1,rfl⟩:=r1
  obtain ⟨t2,rfl⟩:=r2
  rw [List.zip_cons_cons]
  rw [c3k] at q
  refine kat_cons (wpAny_eqBool_int (kat_go (fun e=>kat_yes (c3i ks js us' ws' (i + 1) h1 h2 ?_)) fun e=>kat_no ?_))
  ·have e:k=j:=by simpa using e
   rwa [if_pos e] at q
  ·have e:k≠j:=by simpa using e
   rw [if_neg e] at q
   cases b && i == 0
   ·exact kat_one _ _ (PyProof.Rows.lt_int q)
   ·exact oneLt_int q
noncomputable def NumTup (h:Heap) (v:Value) (ks:List Int):Prop:=∃ (a:Addr) (o:Obj) (us:List Value) (n:Nat),v=.ref a∧h.get? a=some o∧o.cls=.type "tuple"∧o.data=.seq us.toArray n∧Vals (ks.map V.int) us∧ks≠[]
theorem NumTup.keep {h h':Heap} {v:Value} {ks:List Int} (x:NumTup h v ks) (k:∀ b o,h.get? b=some o→h'.get? b=some o):NumTup h' v ks:=by
 obtain ⟨a,o,us,n,e,h1,h2⟩:=x
 exact ⟨a,o,us,n,e,k _ _ h1,h2⟩
theorem NumTup.nums {h:Heap} {v:Value} {ks:List Int} (x:NumTup h v ks):a6u h v=ks:=by
 obtain ⟨a,o,us,n,rfl,h1,h2,h3,h4,_⟩:=x
 simp only [a6u,h1,h3]
 exact a9c h4
theorem NumTup.it {h:Heap} {v:Value} {ks:List Int} (x:NumTup h v ks):IntTup h v:=by
 obtain ⟨a,o,us,n,rfl,h1,h2,h3,h4,h5⟩:=x
 cases ks with
 | nil=>exact absurd rfl h5
 | cons k ks=>exact ⟨a,o,us,n,k,ks,rfl,h1,h2,h3,h4⟩
theorem d6d {b:Bool} {x y:Value} {ks js:List Int} {Q:Bool→Shared→Prop} (hx:NumTup s.heap x ks) (hy:NumTup s.heap y js) (q:Q (lexLt ks js) s):wpAny (model prog w) A (keyLt' (tuples' b) x y) Q E s:=by
 obtain ⟨a,o,us,n,rfl,h1,h2,h3,h4,_⟩:=hx
 obtain ⟨a',o',us',n',rfl,g1,g2,g3,g4,_⟩:=hy
 refine kat_lt h1 h3 g1 g3 (c3i ks js _ _ 0 h4 g4 ?_)
 have e1:ks.length=us.length:=by have:=h4.length; simpa using this
 have e2:js.length=us'.length:=by have:=g4.length; simpa using this
 rw [List.size_toArray,List.size_toArray,← e1,← e2,b7j]; exact q
theorem b1g {l:Addr} {Q:Value→Shared→Prop} (hl:s.heap.IsList l vs.toArray) (hb:vs.length≤100000) (ht:∀ v∈vs,∃ ks,NumTup s.heap v ks)
  (K:∀ (D:Addr) (vs':List Value) (h':Heap) (c tk:Nat),vs'.Perm vs→(vs'.Pairwise fun x y=>lexLt (a6u s.heap y) (a6u s.heap x)=false)→s.heap.objs.size≤D→h'.get? D=some (seqObj "list" vs'.toArray c)→(∀ b o,s.heap.get? b=some o→h'.get? b=some o)→Q (.ref D) { s with heap:=h',toks:=tk }) :
  wpAny (model prog w) A (call (.builtin "sorted") [.ref l]) Q E s:=by
 refine b4b (kd:=tuples' true) (kf:=a6u s.heap) hl hb (fun A' h2 h3 kp Q q=>?_) (fun A' h3 kp x hx y hy Q E' q=>?_) K
 ·obtain ⟨fs,t1,t2,t3⟩:=b3e (h:=h3) (vs:=vs) fun v hv=>by
   obtain ⟨ks,hk⟩:=ht v hv
   exact (hk.keep kp).it
  refine kat_kind (T:=.type "int") t1 (by lia) (fun v hv=>?_) (by decide) q
  obtain ⟨k,t,rfl⟩:=t3 v hv
  exact .now
 ·obtain ⟨ks,hk⟩:=ht x hx
  obtain ⟨js,hj⟩:=ht y hy
  rw [hk.nums,hj.nums] at q
  exact d6d (hk.keep kp) (hj.keep kp) q
end
noncomputable def vNum:V→Int
 | .int i=>i
 | _=>0
noncomputable def c2o (H:Hp):V→List Int
 | .ref b=>match H b with
  | some (.tup xs)=>xs.map vNum
  | _=>[]
 | _=>[]
noncomputable def c1t:FV→List Int
 | .tup ps=>(a0z ps).getD []
 | _=>[]
theorem a7j:∀ ks:List Int,(ks.map V.int).map vNum=ks
 | []=>rfl
 | k :: ks=>by rw [List.map_cons,List.map_cons,a7j ks]; rfl
noncomputable def b8j (a:EW):EW:=fun L Q=>a L fun v L1=>wp (a1n v) fun xs=>a1z xs=true∧xs.length≤big∧∀ ys:List FV,ys.Perm xs→(ys.Pairwise fun x y=>lexLt (c1t y) (c1t x)=false)→Q (.lst ys) L1
@[scoped simp ↓] theorem d1e (a:EW) (L:a0a) (Q:FV→a0a→Prop):b8j a L Q=(a L fun v L1=>wp (a1n v) fun xs=>a1z xs=true∧xs.length≤big∧∀ ys:List FV,ys.Perm xs→(ys.Pairwise fun x y=>lexLt (c1t y) (c1t x)=false)→Q (.lst ys) L1):=propext Iff.rfl
section
variable {K:Γd} {S:Hp}
theorem a7m:∀ {xs:List FV} {ys:List V},a1z xs=true→RVs K S xs ys→(∀ y∈ys,∃ (b:Addr) (ks:List Int),y=.ref b∧ks≠[]∧S b=some (.tup (ks.map V.int)))∧ys.map (c2o S)=xs.map c1t
 | [],ys,_,h=>by cases (show ys=[] from h); simp
 | x :: xs,ys,t,⟨v,r,e,h1,h2⟩=>by
  subst e
  cases x with
  | tup ps =>
   have t:((match a0z ps with | some (_ :: _)=>true | _=>false) && a1z xs)=true:=t
   obtain ⟨t1,t2⟩:=Bool.and_eq_true_iff.mp t
   obtain ⟨i1,i2⟩:=a7m t2 h2
   cases e:a0z ps with
   | none=>rw [e] at t1; cases t1
   | some ns =>
    cases ns with
    | nil=>rw [e] at t1; cases t1
    | cons k ks =>
     obtain ⟨a,us,rfl,g1,g2⟩:=h1
     cases a0y g2 e
     refine ⟨fun y hy=>?_,?_⟩
     ·rcases List.mem_cons.mp hy with rfl | hy
      ·exact ⟨a,k :: ks,rfl,by simp,g1⟩
      ·exact i1 y hy
     ·rw [List.map_cons,List.map_cons,i2]
      congr 1
      simp only [c2o,g1,c1t,e,Option.getD_some]
      exact a7j _
  | _=>cases t
end
section
variable {X:Cx}
noncomputable def c8h (X:Cx):List V→Hp→VK→Prop:=fun xs H Q=>∃ (a:Addr) (ys:List V),xs=[.ref a]∧SqL X.K H a ys∧ys.length≤100000∧(∀ y∈ys,∃ (b:Addr) (ks:List Int),y=.ref b∧ks≠[]∧H b=some (.tup (ks.map V.int)))∧∀ p zs,H p=none→zs.Perm ys→(zs.Pairwise fun x y=>lexLt (c2o H y) (c2o H x)=false)→Q (.ref p) (upd H p (.lst zs))
theorem Vals.keyed {H:Hp} {h:Heap} (hk:∀ (b:Addr) (ks:List Int),H b=some (.tup (ks.map V.int))→ks≠[]→NumTup h (.ref b) ks):∀ {zs:List V} {us:List Value},Vals zs us→(∀ z∈zs,∃ (b:Addr) (ks:List Int),z=.ref b∧ks≠[]∧H b=some (.tup (ks.map V.int)))→us.map (a6u h)=zs.map (c2o H)
 | [],us,r,_=>by cases r; rfl
 | z :: zs,us,r,hz=>by
  cases r with
  | @cons _ u _ us' r1 r =>
  obtain ⟨b,ks,rfl,h1,h2⟩:=hz z (by simp)
  cases (show u=Value.ref b from r1)
  rw [List.map_cons,List.map_cons,Vals.keyed hk r fun y hy=>hz y (Γh _ hy),(hk b ks h2 h1).nums]
  simp only [c2o,h2,a7j]
theorem b2o {α β γ:Type} {R:γ→γ→Prop} {f:α→γ} {g:β→γ} {xs:List α} {ys:List β} (e:xs.map f=ys.map g) (h:xs.Pairwise fun x y=>R (f y) (f x)):ys.Pairwise fun x y=>R (g y) (g x):=by
 have h1:=List.pairwise_map (f:=f) (R:=fun x y=>R y x) |>.mpr h
 rw [e] at h1
 exact List.pairwise_map.mp h1
theorem c6x:a1b X (.builtin "sorted") (c8h X):=by
 rintro pins s σ H xs us Q I r ⟨a,ys,rfl,hl,hb,ht,k⟩
 obtain ⟨u,rfl,ru⟩:=a3k r
 cases (show u=Value.ref a from ru)
 obtain ⟨its,rv,pl,hz⟩:=I.list hl
 have ll:ys.length=its.length:=rv.length
 have nt:∀ (b:Addr) (ks:List Int),H b=some (.tup (ks.map V.int))→ks≠[]→NumTup s.heap (.ref b) ks:=by
  intro b ks hb hn
  obtain ⟨_,jts,rr,o,e1,e2,n,e3⟩:=(show ObjOk X.prog X.w H s.heap b (.tup (ks.map V.int)) from I.hok b _ hb)
  exact ⟨b,o,jts,n,rfl,e1,e2,e3,rr,hn⟩
 have tv:∀ v∈its,∃ ks,NumTup s.heap v ks:=by
  intro v hv
  obtain ⟨i,hi⟩:=List.mem_iff_getElem?.mp hv
  have hil:i < ys.length:=by rw [ll]; exact (List.getElem?_eq_some_iff.mp hi).1
  obtain ⟨u,e,ru⟩:=rv.get (i:=i) (x:=ys[i]) (by simp [hil])
  rw [hi] at e; cases e
  obtain ⟨b,ks,e,hn,hb⟩:=ht _ (List.getElem_mem hil)
  rw [e] at ru
  cases (show v=Value.ref b from ru)
  exact ⟨ks,nt b ks hb hn⟩
 refine b1g pl.isList (by lia) tv fun D vs' h' c tk p1 po p2 p3 p4=>?_
 obtain ⟨zs,e,g⟩:=Vals.perm p1 rv
 have hn:H D=none:=I.hok.fresh p2
 have hkey:=Vals.keyed nt g fun z hz=>ht z (e.mem_iff.mp hz)
 refine ⟨.ref D,_,I.laid (a:=D) (o:=.lst zs) (t':=tk) p4 p2 ⟨by rw [e.length_eq]; exact hz,vs',c,g,p3⟩,rfl,k D zs hn e ?_⟩
 exact b2o (R:=fun u v=>lexLt u v=false) hkey po
end
section
variable {X:Cx} {C:CC} {n:Nat} {sp:Γd→Nat→Sp} {a:Expr} {ea:EW} {pos p:Pos}
theorem d3g (G:Good X C n sp) (hg:C.gl (Γe "sorted")=true) (hs:a0g a=false) (ha:FR X C a ea):FE X C (.Call (.Name (Γe "sorted") p) [a] [] pos) (b8j ea) :=
 PE.imp (a4f c6x (G.gl hg) (G.blt "sorted" (by decide)) (by nofun) (a0h ha a1u (a0d hs)) (by nofun) (by nofun) (a0d hs) rfl) fun σ H Q ⟨c,L,S,Q0,I,h,k⟩ =>
 ⟨c,L,S,_,I,h,fun v L1 hv x S1 H1 r1 I1 s1=>by
  obtain ⟨xs,e1,t1,t2,q⟩:=wpx hv
  obtain ⟨a,ys,rfl,hq,ry⟩:=r1.list I1.sub e1
  have hl:=ry.length
  obtain ⟨i1,i2⟩:=a7m t1 ry
  refine ⟨a,ys,rfl,hq,by simp only [big] at t2; lia,fun y hy=>?_,fun p zs hp hz ho=>?_⟩
  ·obtain ⟨b,ks,e,hn,hb⟩:=i1 y hy
   exact ⟨b,ks,e,hn,I1.sub _ _ hb⟩
  ·obtain ⟨qs,e,g⟩:=RVs.perm hz ry
   have tq:a1z qs=true:=by
    have mem:∀ (l:List FV),a1z l=true↔∀ x∈l,a1z [x]=true:=by
     intro l
     induction l with
     | nil=>simp [a1z]
     | cons x r ih =>
      cases x with
      | tup ps=>simp only [a1z,Bool.and_eq_true,ih,List.forall_mem_cons,and_true]
      | _=>simp [a1z]
    exact (mem qs).mpr fun x hx=>(mem xs).mp t1 x (e.mem_iff.mp hx)
   obtain ⟨j1,j2⟩:=a7m tq g
   have hkk:zs.map (c2o H1)=qs.map c1t:=by
    rw [← j2]
    apply List.map_congr_left
    intro z hz'
    obtain ⟨b,ks,rfl,hn,hb⟩:=j1 z hz'
    simp only [c2o,hb,I1.sub _ _ hb]
   refine k _ L1 (q qs e (b2o (R:=fun u v=>lexLt u v=false) hkk ho)) _ _ _ ⟨p,zs,rfl,a0e,g.mono (a0p (I1.sn hp))⟩ (I1.new hp _) (s1.trans (a0p (I1.sn hp)))⟩
end
noncomputable def EntAt (h:Heap) (d:Addr) (es:Array DictEntry) (ep:Nat):Prop:=∃ o,h.get? d=some o∧o.ExactDict∧o.data=.dict es ep
section
variable {prog:Program} {w:World} {A:Around} {E:Value→Shared→Prop} {s:Shared} {it d:Addr} {i n ep:Nat} {es:Array DictEntry}
theorem EntAt.ty (x:EntAt s.heap d es ep):s.TypeIs (.ref d) "dict":=by
 obtain ⟨o,ho,hc,_⟩:=x
 exact ⟨o,ho,hc.1⟩
theorem EntAt.keep {h h':Heap} (x:EntAt h d es ep) (k:∀ o,h.get? d=some o→h'.get? d=some o):EntAt h' d es ep:=by
 obtain ⟨o,ho,r⟩:=x
 exact ⟨o,k o ho,r⟩
theorem c1j {Q:Value→Shared→Prop} (hd:(d == sysModules)=false) (hm:EntAt s.heap d es ep)
  (q:Q (.ref s.heap.objs.size) { s with heap:=s.heap.push { cls:=.type "dict_keyiterator",data:=.fields #[.ref d,.int 0 0,.int es.size 0,.int ep 0] } }):wpAny (model prog w) A (pyIter (.ref d)) Q E s:=by
 have hT:=hm.ty
 obtain ⟨o,ho,hc,hdat⟩:=hm
 refine wpAny_pyIter_slot hT F.slot_dict_iter (wpAny_call_entry F.slot_dict_iter hT F.entry_dict_iter ?_ (F.args_dict_iter_1 _)); unfold Builtin.«dict.__iter__»; refine Γa ?_; unfold Builtin.Dict.dictSlotNone
 refine Γa (wpAny_notOrdered_dict hT ?_); show wpAny _ _ (pure (Value.ref d)) _ _ s; refine Γb ?_; show wpAny _ _ (Builtin.Dict.showsAll d >>= _) _ _ s; unfold Builtin.Dict.showsAll
 rw [if_neg (by rw [hd]; exact Γk)]; refine Γa (Γb (Γa (wpAny_dictEntries ho hdat (Γa (wpAny_dictEpoch ho hdat ?_)))))
 refine Γa (wpAny_newObj_type (Γb ⟨_,rfl,"dict_keyiterator",_,⟨_,Γm _ rfl,rfl⟩,F.slot_dict_keyiterator_next.lookup,?_⟩)); simpa [rawInt] using q
theorem c1b {Q:Option Value→Shared→Prop} (hit:s.heap.IsKeyIter it d i es.size ep) (hm:EntAt s.heap d es ep) (hi:i < es.size)
  (q:∀ h',h'.IsKeyIter it d (i + 1) es.size ep→Heap.SameBut it s.heap h'→Q (some es[i].key) { s with heap:=h' }):wpAny (model prog w) A (pyNext (.ref it)) Q E s:=by
 have hT:=hit.typeIs
 obtain ⟨o,ho,hc,hd⟩:=id hit
 obtain ⟨od,hod,_,hdd⟩:=hm
 have hown:Builtin.Dict_items.ownsTuple "dict_keyiterator" = false:=by decide
 unfold pyNext; refine Γa (wpAny_attempt (wpAny_callSpecial?_slot (name:=Γe "__next__") hT F.slot_dict_keyiterator_next (wpAny_call_entry F.slot_dict_keyiterator_next hT F.entry_dict_keyiterator_next ?_ (F.args_dict_keyiterator_next_1 _))))
 refine Γa (Γb (Γa (Γa ?_))); first | refine Γa (wpAny_typeNameOfWhole_keyiter hT (Γb ?_)) | refine Γa (wpAny_typeNameOf_keyiter hT (Γb ?_))
 refine Γa (wpAny_fieldsOf ho hd ?_); simp only [hown,Γp,if_false]; show wpAny _ _ (if (Value.ref d == Value.none)=true then _ else _) _ _ s; rw [if_neg (show ¬ ((Value.ref d == Value.none)=true) from Γk)]
 refine Γa (Γb (Γa (wpAny_dictEntries hod hdd ?_))); rw [if_neg (by simp)]
 refine Γa (Γb (Γa (wpAny_dictEpoch hod hdd ?_))); rw [if_neg (by simp)]; refine Γb ?_
 simp only [show ¬ ((i:Int) < 0) from by lia,if_false,Int.toNat_natCast,Array.getElem?_eq_getElem hi]; refine Γa ?_
 first | refine Γa (wpAny_typeNameOfWhole_keyiter hT (Γb (Γa (wpAny_isOneOf_keyiter hT ?_)))) | refine Γa (wpAny_typeNameOf_keyiter hT (Γb (Γa (wpAny_isOneOf_keyiter hT ?_))))
 show wpAny _ _ (setField (.ref it) 1 (rawInt ((i:Int) + 1)) >>= _) _ _ s; refine Γa (wpAny_setField ho hd (by simp) ?_)
 have hit':(s.heap.update it (Obj.mapFields (·.setIfInBounds 1 (rawInt ((i:Int) + 1))))).IsKeyIter it d (i + 1) es.size ep:=⟨_,Heap.get?_update_self _ ho (Obj.isFreed_of_fields (Obj.data_mapFields hd _)),(Obj.cls_mapFields ..).trans hc,by rw [Obj.data_mapFields hd]; simp [rawInt]⟩
 refine Γa (Γg (Γa (wpAny_isOneOf_keyiter (s:={ s with heap:=s.heap.update it (Obj.mapFields (·.setIfInBounds 1 (rawInt ((i:Int) + 1)))) }) hit'.typeIs ?_))); show wpAny _ _ (pure es[i].key) _ _ _
 exact Γb (Γb ⟨_,rfl,Γb (q _ hit' (Heap.SameBut.update ..))⟩)
theorem c6f {Q:Option Value→Shared→Prop} (hh:A.handled=none) (hit:s.heap.IsKeyIter it d i es.size ep) (hm:EntAt s.heap d es ep) (hi:es.size≤i)
  (q:∀ h',Heap.ExtBut it s.heap h'→Q none { s with heap:=h' }):wpAny (model prog w) A (pyNext (.ref it)) Q E s:=by
 have hT:=hit.typeIs
 obtain ⟨o,ho,hc,hd⟩:=id hit
 obtain ⟨od,hod,_,hdd⟩:=hm
 have hown:Builtin.Dict_items.ownsTuple "dict_keyiterator" = false:=by decide
 unfold pyNext; refine Γa (wpAny_attempt (wpAny_callSpecial?_slot (name:=Γe "__next__") hT F.slot_dict_keyiterator_next (wpAny_call_entry F.slot_dict_keyiterator_next hT F.entry_dict_keyiterator_next ?_ (F.args_dict_keyiterator_next_1 _))))
 refine Γa (Γb (Γa (Γa ?_))); first | refine Γa (wpAny_typeNameOfWhole_keyiter hT (Γb ?_)) | refine Γa (wpAny_typeNameOf_keyiter hT (Γb ?_))
 refine Γa (wpAny_fieldsOf ho hd ?_); simp only [hown,Γp,if_false]; show wpAny _ _ (if (Value.ref d == Value.none)=true then _ else _) _ _ s; rw [if_neg (show ¬ ((Value.ref d == Value.none)=true) from Γk)]
 refine Γa (Γb (Γa (wpAny_dictEntries hod hdd ?_))); rw [if_neg (by simp)]
 refine Γa (Γb (Γa (wpAny_dictEpoch hod hdd ?_))); rw [if_neg (by simp)]; refine Γb ?_
 simp only [show ¬ ((i:Int) < 0) from by lia,if_false,Int.toNat_natCast,Array.getElem?_eq_none hi]; refine Γa ?_
 first | refine Γa (wpAny_typeNameOfWhole_keyiter hT (Γb ?_)) | refine Γa (wpAny_typeNameOf_keyiter hT (Γb ?_))
 show wpAny _ _ (setField (.ref it) 0 .none >>= _) _ _ s; refine Γa (wpAny_setField ho hd (by simp) ?_); show wpAny _ _ (newExc (.type "StopIteration") [] >>= _) _ _ _; refine Γa ?_; simp only [newExc,newTuple]
 refine Γa (wpAny_newObj_type ?_ (by size_fits)); refine Γa (m:=firstArgMember _ _) (wpAny_of_eq (a:=Value.none) (by first | rfl | (simp only [firstArgMember]; rfl)) ?_); refine wpAny_newObj_type ?_ (by size_fits); simp only [raiseNew]
 refine Γa (wpAny_handled ?_); rw [show A.in1.handled=none from hh]; refine Γa (Γb (wpAny_throw ?_))
 refine Γa (wpAny_isInstance (T:="StopIteration") (b:=true) ⟨_,Γm _ rfl,rfl⟩ isSubtype_stop ?_); exact Γb (q _ (((Heap.SameBut.update ..).extBut.push _).push _))
end
section
variable {X:Cx} {pins:List (Addr×Obj)} {σ:L2.St} {H:Hp} {s:Shared} {a:Addr}
theorem c1l {kvs:List (List (Int ⊕ Str)×V)} {o:Obj} (I:Inv X pins σ H s) (h:H a=some (.dT kvs)) (ho:s.heap.get? a=some o):Inv X pins σ (upd H a (.frz o (.dT kvs))) s:=by
 have ne:∀ {b:Addr} {u:HO},H b=some u→u≠.dT kvs→b≠a:=fun e n z=>by subst z; rw [h] at e; exact n (Option.some.inj e).symm
 have ow:∀ b c,H b=some (.own c)→upd H a (.frz o (.dT kvs)) b=some (.own c):=fun b c e=>by rw [a0f (ne e (fun z=>nomatch z))]; exact e
 have tu:∀ b xs,H b=some (.tup xs)→upd H a (.frz o (.dT kvs)) b=some (.tup xs):=fun b xs e=>by rw [a0f (ne e (fun z=>nomatch z))]; exact e
 refine I.un (t':=s.toks) (h':=s.heap) ⟨fun b o' e _ _ _=>e,fun b o' e _ _ _=>⟨o'.slots,e⟩,fun b o' e n _=>?_,fun b o' e _=>⟨o',e⟩,tu,fun b o' u e=>?_,fun b ps e=>?_⟩ fun b u e=>?_
 ·rw [a0f (fun z=>by subst z; rw [h] at n; cases n)]; exact n
 ·rw [a0f (ne e (fun z=>nomatch z))]; exact e
 ·exact ⟨#[],by rw [a0f (ne e (fun z=>nomatch z)),Array.append_empty]; exact e⟩
 ·by_cases z:b=a
  ·subst z
   rw [a0e] at e; cases e
   exact ⟨ho,(I.hok b _ h).stay (fun _ _ _ q=>q) (fun c e=>ow c b e) tu⟩
  ·rw [a0f z] at e
   exact (I.hok b u e).stay (fun _ _ _ q=>q) (fun c e=>ow c b e) tu
end
noncomputable def Itk (a:Addr) (o:Obj) (kvs:List (List (Int ⊕ Str)×V)):It :=
 ⟨fun i H=>H a=some (.frz o (.dT kvs))∧i < kvs.length,fun i H v H'=>H'=H∧∃ b p,v=.ref b∧kvs[i]?=some p∧H b=some (.tup (p.1.map kV)),fun i H=>H a=some (.frz o (.dT kvs))∧kvs.length≤i⟩
theorem b3j {P:Program} {w:World} {H:Hp} {h:Heap} {a:Addr} {kvs:List (List (Int ⊕ Str)×V)} (x:ObjOk P w H h a (.dT kvs)):∃ o es ep,h.get? a=some o∧o.data=.dict es ep∧EntAt h a es ep∧es.size=kvs.length∧(a == sysModules)=false∧∀ (i:Nat) (hi:i < es.size) p,kvs[i]?=some p→∃ b,es[i].key=.ref b∧H b=some (.tup (p.1.map kV)):=by
 obtain ⟨_,y,xs,r,o,es,ep,h1,h2,h3,h4,_⟩:=x
 have hl:kvs.length=xs.length:=r.length
 have hs:es.size=xs.length:=by rw [← Array.length_toList,h4,List.length_map]
 refine ⟨o,es,ep,h1,h3,⟨o,h1,h2,h3⟩,by lia,y,fun i hi p hp=>?_⟩
 have hx:i < xs.length:=by lia
 have key:∀ {l:List (List (Int ⊕ Str)×V)} {m:List (List (Int ⊕ Str)×Addr×Value)},Paired (fun (p:List (Int ⊕ Str)×V) (q:List (Int ⊕ Str)×Addr×Value)=>p.1=q.1∧H q.2.1=some (.tup (p.1.map kV))∧RelV p.2 q.2.2) l m→∀ (i:Nat) p q,l[i]?=some p→m[i]?=some q→H q.2.1=some (.tup (p.1.map kV)):=by
  intro l m z
  induction z with
  | nil=>intro i p q h; simp at h
  | @cons p0 q0 ps qs hq t ih =>
   intro i p q e1 e2
   cases i with
   | zero=>simp at e1 e2; subst e1; subst e2; exact hq.2.1
   | succ i=>simp at e1 e2; exact ih i p q e1 e2
 refine ⟨xs[i].2.1,?_,key r i p xs[i] hp (by simp [hx])⟩
 have e:es.toList[i]'(by simpa using hi)=entryOfKey (tupleKind (a0r P w)) xs[i]:=by simp only [h4,List.getElem_map]
 rw [← Array.getElem_toList (h:=hi),e]; rfl
theorem b5r {P:Program} {w:World} {K:Γd} {tg:Expr} {o:Obj} {kvs:List (List (Int ⊕ Str)×V)} {es:Array DictEntry} {ep:Nat} (a it:Addr) (hd:o.data=.dict es ep) (hz:es.size=kvs.length):Turn P w K tg (Itk a o kvs) [it] it (fun i h=>h.IsKeyIter it a i es.size ep) where
 mem:=by simp
 obj:=fun i h st b hb=>by
  have e:b=it:=by simpa using hb
  subst e
  obtain ⟨o,e,c,d⟩:=st
  exact ⟨o,e,fun v z=>by rw [d] at z; cases z⟩
 keep:=fun i h h' st k=>st.at fun o e=>k it (by simp) o e
 item:=by
  intro X hP hw hK hc i pins s σ H E I hf st hg
  subst hP hw hK
  obtain ⟨e0,hi⟩:=hg
  obtain ⟨q1,q2⟩:=(show ObjOk X.prog X.w H s.heap a (.frz o (.dT kvs)) from I.hok a _ e0)
  obtain ⟨o',es',ep',f1,f2,f3,f4,f5,f6⟩:=b3j q2
  rw [q1] at f1; cases f1
  rw [hd] at f2; cases f2
  obtain ⟨f0,g1,g2,g3,g4,g5⟩:=hf it (by simp)
  have hi':i < es.size:=by lia
  obtain ⟨b,k1,k2⟩:=f6 i hi' kvs[i] (by simp [hi])
  refine c1b st f3 hi' fun h' st' sb=>?_
  have I1:Inv X pins σ H { s with heap:=h' }:=I.turned (t':=s.toks) (fun b o hb e=>(sb.2 b hb).trans e) f0 g1 g3 g4 g5
  obtain ⟨o2,e,c,d⟩:=id st'
  rw [k1]
  exact ⟨_,rfl,b7z (s:={ s with heap:=h' }) e c d (by decide) ⟨.ref b,H,I1,rfl,⟨rfl,b,kvs[i],rfl,by simp [hi],k2⟩,st',fun b hb=>(hf b hb).1⟩⟩
 done:=by
  intro X hP hw hK hc i pins s σ H E I hf st hg
  subst hP hw hK
  obtain ⟨e0,hi⟩:=hg
  obtain ⟨q1,q2⟩:=(show ObjOk X.prog X.w H s.heap a (.frz o (.dT kvs)) from I.hok a _ e0)
  obtain ⟨o',es',ep',f1,f2,f3,f4,f5,f6⟩:=b3j q2
  rw [q1] at f1; cases f1
  rw [hd] at f2; cases f2
  obtain ⟨f0,g1,g2,g3,g4,g5⟩:=hf it (by simp)
  exact c6f (I.ok.hd hc) st f3 (by lia) fun h' eb=>⟨rfl,I.turned (t':=s.toks) (fun b o hb e=>eb b o hb e) f0 g1 g3 g4 g5⟩
 self:=fun _ _ _ _ _ st h=>wpAny_pyIter_keyiter st h
theorem b6r {X:Cx} {tg it:Expr} {te:TE} (h:PE X it te):PI X tg it (fun σ H R=>te σ H fun v H1=>∃ a kvs,v=.ref a∧((H1 a=some (.dT kvs)∧∀ o,R (Itk a o kvs) (upd H1 a (.frz o (.dT kvs)))) ∨ ∃ o,H1 a=some (.frz o (.dT kvs))∧R (Itk a o kvs) H1)):=by
 intro pins s σ H R I hh
 refine thn (h pins s σ H _ I hh) fun v s1 ⟨x,H1,I1,r1,a,kvs,e,q⟩=>?_
 subst e
 cases r1
 have one:∀ (o:Obj) (H2:Hp),Inv X pins σ H2 s1→H2 a=some (.frz o (.dT kvs))→R (Itk a o kvs) H2→wpAny (model X.prog X.w) X.A (pyIter (.ref a)) (PIE X pins σ tg R) X.xe s1:=by
  intro o H2 I2 e2 q
  obtain ⟨q1,q2⟩:=(show ObjOk X.prog X.w H2 s1.heap a (.frz o (.dT kvs)) from I2.hok a _ e2)
  obtain ⟨o',es,ep,f1,f2,f3,f4,f5,f6⟩:=b3j q2
  rw [q1] at f1; cases f1
  refine c1j f5 f3 ?_
  refine ⟨s1.heap.objs.size,[s1.heap.objs.size],_,_,H2,rfl,I2.kept (t':=s1.toks) fun b o e=>Γc _ e,b5r a _ f2 f4,⟨_,Γm _ rfl,rfl,rfl⟩,fun b hb=>?_,q⟩
  have e:b=s1.heap.objs.size:=by simpa using hb
  subst e
  exact I2.fpOk (Γi _) (I2.hok.fresh (Γi _))
 rcases q with ⟨e1,q⟩ | ⟨o,e1,q⟩
 ·obtain ⟨o,es,ep,f1,f2,_⟩:=b3j (show ObjOk X.prog X.w H1 s1.heap a (.dT kvs) from I1.hok a _ e1)
  exact one o _ (c1l I1 e1 f1) a0e (q o)
 ·exact one o H1 I1 e1 q
noncomputable def a7a (k:List Int):FV:=.tup (k.map .int)
noncomputable def b7x (j:Nat):AW:=fun L Q=>wp (lk L j) fun v=>match v with
 | .dct ks vs=>∀ o,Q (ks.map a7a) (L.set j (some (.dcz o ks vs)))
 | .dcz _ ks _=>Q (ks.map a7a) L
 | _=>False
@[scoped simp ↓] theorem d0s (j:Nat) (L:a0a) (Q:List FV→a0a→Prop):b7x j L Q=(wp (lk L j) fun v=>match v with
 | .dct ks vs=>∀ o,Q (ks.map a7a) (L.set j (some (.dcz o ks vs)))
 | .dcz _ ks _=>Q (ks.map a7a) L
 | _=>False):=propext Iff.rfl
noncomputable def b7w (j:Nat):AW:=fun L Q=>wp (lk L j) fun v=>match v with
 | .dcz _ ks _=>Q (ks.map a7a) L
 | _=>False
@[scoped simp ↓] theorem d0r (j:Nat) (L:a0a) (Q:List FV→a0a→Prop):b7w j L Q=(wp (lk L j) fun v=>match v with
 | .dcz _ ks _=>Q (ks.map a7a) L
 | _=>False):=propext Iff.rfl
section
variable {X:Cx} {C:CC} {n:Nat} {sp:Γd→Nat→Sp} {tg:Expr} {p:Pos} {i:Nat} {nx:Str}
variable {K:Γd} {c:Cn} {md:Md}
theorem b1r {a:Addr} {o:Obj} {ks:List (List Int)} {us:List V} {S1:Hp} (hl:ks.length=us.length) (hp:(a,HO.frz o (.dT ((a1q ks).zip us)))∈c.pr):ItR K c md (Itk a o ((a1q ks).zip us)) (ks.map a7a) S1:=by
 intro i L σ S H I s
 have ha:=(I.prs _ hp).1
 have hz:((a1q ks).zip us).length=ks.length:=by rw [List.length_zip]; simp [a1q]; lia
 refine ⟨fun e=>⟨ha,?_⟩,fun p ep=>?_⟩
 ·have:=List.getElem?_eq_none_iff.mp e
  rw [List.length_map] at this; lia
 ·rw [List.getElem?_map] at ep
  obtain ⟨k,ek,rfl⟩:=Option.map_eq_some_iff.mp ep
  have hi:=(List.getElem?_eq_some_iff.mp ek).1
  refine ⟨⟨ha,by lia⟩,fun v H' ⟨eh,b,q,ev,eq,hb⟩=>?_⟩
  subst eh; subst ev
  have hq:q.1=k.map Sum.inl:=by
   obtain ⟨q1,q2⟩:=q
   have:=(List.getElem?_zip_eq_some.mp eq).1
   rw [a1q,List.getElem?_map,ek] at this
   simpa using this.symm
  rw [hq,List.map_map] at hb
  have hb:H' b=some (.tup (k.map V.int)):=hb
  exact ⟨_,(I.tup hb).2,fun c md L σ J=>(J.tup hb).1,b,_,rfl,a0e,RVs.ns k⟩
theorem d7d (G:Good X C n sp) (h:C.nm i nx=true) (m:a0k C.md i=.own):FI X C (C.md.set i .frz) tg (.Name nx p) (b7x i):=PI.imp (b6r (a1g G h)) fun σ H R ⟨c,L,S,Q0,I,h,k⟩=>by
 obtain ⟨v,e,h⟩:=wpx h
 have e:=(a2s _ _ _).mp e
 obtain ⟨l,e1,⟨o1,qs,us,e2,o2,o3⟩,o4⟩:=I.own i v (fun z=>by rw [m] at z; cases z) e
 cases v with
 | dct ks vs =>
  obtain ⟨hl,rfl⟩:=itd e2
  have hlu:=o3.length
  refine ⟨_,e1,l,_,rfl,.inl ⟨o2,fun o=>?_⟩⟩
  have I1:=I.writeV (w:=.dcz o ks vs) m e e1 (if_pos hl) o3
  have hi:=(List.getElem?_eq_some_iff.mp e).1
  obtain ⟨I2,un⟩:=I1.frz m (List.getElem?_set_self hi) e1 a0e
  exact k _ _ (h o) _ _ S _ I2 un rfl (b1r (by lia) Γn) (Same.refl S)
 | dcz o ks vs =>
  obtain ⟨hl,rfl⟩:=itd e2
  have hlu:=o3.length
  obtain ⟨I2,un⟩:=I.frz m e e1 o2
  exact ⟨_,e1,l,_,rfl,.inr ⟨o,o2,k _ _ h _ _ S _ I2 un rfl (b1r (by lia) Γn) (Same.refl S)⟩⟩
 | _=>exact h.elim
theorem d2y (G:Good X C n sp) (h:C.nm i nx=true) (m:a0k C.md i=.frz):FI X C C.md tg (.Name nx p) (b7w i):=PI.imp (b6r (a1g G h)) fun σ H R ⟨c,L,S,Q0,I,h,k⟩=>by
 obtain ⟨v,e,h⟩:=wpx h
 have e:=(a2s _ _ _).mp e
 obtain ⟨l,e1,⟨o1,qs,us,e2,o2,o3⟩,o4⟩:=I.own i v (fun z=>by rw [m] at z; cases z) e
 obtain ⟨b,g1⟩:=I.fzm i _ m e
 obtain ⟨ys,g2⟩:=I.fzp _ g1
 obtain ⟨_,g3,_⟩:=I.fzs _ g1
 rw [e1] at g3; cases g3
 have g4:=(I.prs _ g2).1
 rw [o2] at g4; cases g4
 cases v with
 | dcz o ks vs =>
  obtain ⟨hl,rfl⟩:=itd e2
  have hlu:=o3.length
  exact ⟨_,e1,_,_,rfl,.inr ⟨o,o2,k _ _ h _ _ S _ I (fun _ _ _ _ J=>J) rfl (b1r (by lia) g2) (Same.refl S)⟩⟩
 | _=>exact h.elim
end
section
variable {prog:Program} {w:World} {A:Around} {E:Value→Shared→Prop} {s:Shared} {d:Addr} {es:Array DictEntry} {ep:Nat}
end
section
variable {X:Cx}
end
noncomputable def d1p:FV→Option (List (List Int))
 | .dct ks _=>some ks
 | .dcz _ ks _=>some ks
 | _=>none
noncomputable def eSortD (j:Nat):EW:=fun L Q=>wp (lk L j) fun v=>wp (d1p v) fun ks=>ks.length≤big∧(∀ k∈ks,k≠[])∧∀ ys:List (List Int),ys.Perm ks→(ys.Pairwise fun x y=>lexLt y x=false)→Q (.lst (ys.map a7a)) L
section
variable {X:Cx} {C:CC} {n:Nat} {sp:Γd→Nat→Sp} {pos p p':Pos} {i:Nat} {nx:Str}
theorem Iv.tups {K:Γd} {c:Cn} {md:Md} {L:a0a} {σ:L2.St} {H:Hp}:∀ {ys:List (List Int)} {zs:List V} {S:Hp},Iv K c md L σ S H→Paired (fun (k:List Int) (z:V)=>∃ b:Addr,z=V.ref b∧H b=some (.tup (k.map V.int))) ys zs→∃ S',Iv K c md L σ S' H∧Same S S'∧RVs K S' (ys.map a7a) zs
 | _,_,S,I,.nil=>⟨S,I,Same.refl S,rfl⟩
 | _,_,S,I,.cons (a:=k) (b:=z) ⟨b,e,hb⟩ t=>by
  subst e
  obtain ⟨S',I',s',r⟩:=Iv.tups I t
  obtain ⟨I2,s2⟩:=I'.tup hb
  exact ⟨_,I2,s'.trans s2,V.ref b,_,rfl,⟨b,_,rfl,a0e,RVs.ns k⟩,r.mono s2⟩
end
noncomputable def d9t (xs:Array Nat):Prop:=∀ i j (hi:i < xs.size) (hj:j < xs.size),i < j→xs[i] < xs[j]
noncomputable def TabOk (t:SetTable) (l:Bool):Prop:=t.led=l∧t.dummies = #[]∧(t.plain=true→d9t t.place)
theorem TabOk.fresh (f m:Nat) (l:Bool):TabOk (.fresh f m l) l:=⟨rfl,rfl,fun _ i j hi=>absurd hi (Nat.not_lt_zero _)⟩
noncomputable def NumEs (l:List (Int×Value)):Prop:=∀ e∈l,∃ k tk,e=(hashInt k,Value.int k tk)
theorem NumEs.perm {l l':List (Int×Value)} (h:NumEs l) (p:l'.Perm l):NumEs l':=fun e he=>h e (p.mem_iff.mp he)
noncomputable def c3p (l:List (Int×Value)):List Int:=l.map fun e=>numOf e.2
structure SetData (w:World) (o:Obj) (ns:List Int) (es:Array (Int×Value)) (ep:Nat) (t:SetTable):Prop where
 ex:o.ExactSet
 dat:o.data=.set es ep t
 num:NumEs es.toList
 perm:(c3p es.toList).Perm ns
 small:ns.length < scanBound
 fits:t.fits es.size=true
 tab:TabOk t (!w.params.followText "set-order")
noncomputable def SetN (w:World) (h:Heap) (a:Addr) (ns:List Int):Prop:=ns.Nodup∧∃ o es ep t,h.get? a=some o∧SetData w o ns es ep t
theorem SetData.size {w:World} {o:Obj} {ns:List Int} {es:Array (Int×Value)} {ep:Nat} {t:SetTable} (d:SetData w o ns es ep t):es.size=ns.length:=by
 have:=d.perm.length_eq
 rw [c3p,List.length_map,Array.length_toList] at this
 exact this
section
variable {prog:Program} {w:World} {A:Around} {E:Value→Shared→Prop} {s:Shared} {a:Addr}
end
theorem a7e {α:Type}:∀ {l:List α} {i:Nat} (h:i < l.length),(l[i] :: l.eraseIdx i).Perm l
 | x :: l,0,_=>by simp
 | x :: l,i + 1,h=>by
  have:=a7e (l:=l) (i:=i) (by simpa using h)
  simp only [List.getElem_cons_succ,List.eraseIdx_cons_succ]
  exact (List.Perm.swap x _ _).trans (this.cons x)
theorem b6n {α:Type} (f:Nat→Nat):∀ (n k:Nat) (l:List α) (out:Array α),n=l.length→(pickOrder.go f n k l out).toList.Perm (out.toList++l)
 | 0,k,l,out,h=>by
  cases l with
  | nil=>unfold pickOrder.go; simp
  | cons=>simp at h
 | n + 1,k,l,out,h=>by
  unfold pickOrder.go
  have hp:0 < l.length:=by lia
  have hm:f k % l.length < l.length:=Nat.mod_lt _ hp
  rw [List.getElem?_eq_getElem hm]
  dsimp only
  refine (b6n f n (k + 1) (l.eraseIdx (f k % l.length)) _ (by rw [List.length_eraseIdx_of_lt hm]; lia)).trans ?_
  rw [Array.toList_push,List.append_assoc]
  refine List.Perm.append_left _ ?_
  exact a7e hm
theorem b6l {α:Type} (f:Nat→Nat) (xs:Array α):(pickOrder f xs).toList.Perm xs.toList:=by
 unfold pickOrder
 simpa using b6n f xs.size 0 xs.toList #[] (by simp)
section
variable {prog:Program} {w:World} {A:Around} {E:Value→Shared→Prop} {s:Shared} {a:Addr}
end
section
variable {prog:Program} {w:World} {A:Around} {E:Value→Shared→Prop} {s:Shared} {a:Addr}
noncomputable def SetIt (h:Heap) (it a:Addr) (f:Value) (i n ep:Nat):Prop:=∃ o,h.get? it=some o∧o.cls=.type "set_iterator"∧o.data=.fields #[f,.int i 0,.ref a,.int n 0,.int ep 0]
theorem SetIt.keep {h h':Heap} {it a:Addr} {f:Value} {i n ep:Nat} (x:SetIt h it a f i n ep) (k:∀ o,h.get? it=some o→h'.get? it=some o):SetIt h' it a f i n ep:=let ⟨o,ho,r⟩:=x; ⟨o,k o ho,r⟩
inductive Goes (w:World) (h:Heap) (a:Addr) (es:Array (Int×Value)) (ep:Nat) (t:SetTable):List Value→Nat→Value→Prop
 | text {i:Nat} {sl:Nat}:w.params.followText "set-order" = true→Goes w h a es ep t ((pickOrder (w.params.setOrder a ep) es).toList.map (·.2)) i (.int sl 0)
 | table {i:Nat}:w.params.followText "set-order" = false→(!t.plain && decide (es.size > 1))=false→Goes w h a es ep t (es.toList.map (·.2)) i (.int ((if i=0 then 0 else t.place.getD (i - 1) 0 + 1:Nat):Int) 0)
 | drawn {i:Nat} {p:Addr} {od:List Nat}:w.params.followText "set-order" = false→h.IsTuple p (od.map fun (n:Nat)=>rawInt n).toArray→od.Perm (List.range es.size)→Goes w h a es ep t (od.map fun n=>(es.getD n (0,.none)).2) i (.ref p)
theorem Goes.keep {h h':Heap} {es:Array (Int×Value)} {ep:Nat} {t:SetTable} {vs:List Value} {i:Nat} {f:Value} (g:Goes w h a es ep t vs i f) (k:∀ p,f=.ref p→∀ o,h.get? p=some o→h'.get? p=some o):Goes w h' a es ep t vs i f:=by
 cases g with
 | text hb=>exact .text hb
 | table hb hd=>exact .table hb hd
 | @drawn _ p od hb ht pm =>
  obtain ⟨ot,o1,r⟩:=ht
  exact .drawn hb ⟨ot,k p rfl ot o1,r⟩ pm
theorem Goes.perm {ns:List Int} {o:Obj} {h:Heap} {es:Array (Int×Value)} {ep:Nat} {t:SetTable} {vs:List Value} {i:Nat} {f:Value} (d:SetData w o ns es ep t) (g:Goes w h a es ep t vs i f):vs.Perm (es.toList.map (·.2)):=by
 cases g with
 | text hb=>exact (b6l _ _).map _
 | table hb hd=>exact .refl _
 | @drawn _ p od hb ht pm =>
  refine (pm.map _).trans (.of_eq ?_)
  apply List.ext_getElem
  ·simp
  ·intro i i1 i2
   simp at i1
   simp [Array.getD_eq_getD_getElem?,i1]
end
section
variable {prog:Program} {w:World} {A:Around} {E:Value→Shared→Prop} {s:Shared} {a:Addr} {ns:List Int} {o:Obj} {es:Array (Int×Value)} {ep:Nat} {t:SetTable}
end
theorem SetN.none {w:World} {h:Heap} {a:Addr} (e:h.get? a=some { cls:=.type "set",dict:=none,data:=.set #[] 0 (.fresh 0 0 (!w.params.followText "set-order")) }):SetN w h a [] :=
 ⟨List.nodup_nil,_,#[],0,_,e,⟨⟨rfl,rfl,rfl⟩,rfl,fun e he=>by simp at he,.refl _,by decide,rfl,TabOk.fresh _ _ _⟩⟩
theorem SetN.keep {w:World} {h h':Heap} {a:Addr} {ns:List Int} (x:SetN w h a ns) (k:∀ o,h.get? a=some o→h'.get? a=some o):SetN w h' a ns:=by
 obtain ⟨nd,o,es,ep,t,ho,d⟩:=x
 exact ⟨nd,o,es,ep,t,k o ho,d⟩
section
variable {prog:Program} {w:World} {A:Around} {R:Result→Shared→Prop} {E:Value→Shared→Prop} {s:Shared} {I:Addr} {fp wr:List Addr} {G:Array GenState→Array GenState→Prop} {n:Nat} {P:Nat→Value→Prop} {St:Nat→Shared→Prop}
end
section
variable {prog:Program} {w:World} {A:Around} {E:Value→Shared→Prop} {s:Shared}
structure NumSrc (prog:Program) (w:World) (s:Shared) (l:Addr) (T:String) (ks:List Int):Prop where
 ty:s.TypeIs (.ref l) T
 su:isSubtype (.type T) (.type "set")=pure false
 sf:isSubtype (.type T) (.type "frozenset")=pure false
 nd:(Value.type T == Value.type "dict")=false
 it:∀ h:Heap,(∀ b o,s.heap.get? b=some o→h.get? b=some o)→∃ (oI:Obj) (P:Nat→Value→Prop) (St:Nat→Heap→Prop),(∀ (A':Around) (E':Value→Shared→Prop) (Q:Value→Shared→Prop),Q (.ref h.objs.size) { s with heap:=h.push oI }→wpAny (model prog w) A' (pyIter (.ref l)) Q E' { s with heap:=h })∧(∀ A':Around,A'.handled=none→Walks prog w A' h.objs.size [h.objs.size,l] [h.objs.size] ks.length P St)∧St 0 (h.push oI)∧∀ i v,P i v→∃ t,v=.int (ks.getD i 0) t
end
section
variable {X:Cx}
noncomputable def SetO (w:World) (a:Addr) (ns:List Int):HO:=.ext fun h=>SetN w h a ns
end
section
variable {X:Cx} {C:CC} {n:Nat} {sp:Γd→Nat→Sp} {a:Expr} {ea:EW} {pos pos' p p':Pos}
end
end Kq
end
section
namespace L2
open PySem PySem.Spec PyProof.Rows
section
variable {prog:Program} {w:World} {A:Around} {R:Result→Shared→Prop} {s:Shared}
end
section
variable {X:Cx} {elt tg iter tg2 iter2:Expr} {ifs ifs2:List Expr} {scope:Scope} {own:List Str} {pos:Pos} {wi wi2:TI} {g g2:TG} {tt tt2:TT} {te:TE}
end
end L2
end
section
namespace Kq
open PySem PySem.Spec PyProof.Rows L2
noncomputable def inS (tg:Tg) (t:BW) (e:EW):List FV→List Int→a0a→(List Int→a0a→Prop)→Prop
 | [],acc,L,Q=>Q acc L
 | y :: r,acc,L,Q=>gW tg y L fun L1=>t L1 fun b L2=>if b=true then e L2 fun v L3=>wp (a2t v) fun k=>inS tg t e r (acc++[k]) L3 Q else inS tg t e r acc L2 Q
noncomputable def b9h (n m:Nat) (tg:Tg) (t:BW) (it2:AW) (tg2:Tg) (t2:BW) (e:EW):List FV→List Int→a0a→(List Int→a0a→Prop)→Prop
 | [],acc,L,Q=>Q acc L
 | x :: xs,acc,L,Q=>gW tg x (L++Γj m none) fun L1=>t L1 fun b L2=>if b=true then it2 L2 fun ys L3=>acc.length + ys.length≤4000∧inS tg2 t2 e ys acc L3 fun acc' L4=>b9h n m tg t it2 tg2 t2 e xs acc' (L4.take n) Q else b9h n m tg t it2 tg2 t2 e xs acc (L2.take n) Q
noncomputable def d8n (n m:Nat) (it:AW) (tg:Tg) (t:BW) (it2:AW) (tg2:Tg) (t2:BW) (e:EW):EW:=fun L Q=>it L fun xs L1=>L1.length=n∧b9h n m tg t it2 tg2 t2 e xs [] L1 fun ns L2=>ns.length≤4000∧∀ ms:List Int,(∀ x,x∈ms↔x∈ns)→ms.Pairwise (· < ·)→Q (.lst (ms.map .int)) L2
section
variable {X:Cx} {C:CC} {n:Nat} {sp:Γd→Nat→Sp} {a b tg:Expr} {ea eb:EW} {pos p:Pos}
end
section
variable {K:Γd} {c:Cn} {md:Md} {L:a0a} {σ:L2.St} {S H:Hp}
end
section
variable {X:Cx} {C:CC} {n:Nat} {sp:Γd→Nat→Sp} {pos pos' p:Pos}
variable {scope:Scope} {own:List Str} {elt tgx iter tgx2 iter2:Expr} {ifs ifs2:List Expr} {it it2:AW} {tg tg2:Tg} {t t2:BW} {e:EW} {nn m:Nat} {md':Md}
end
end Kq
end
set_option maxRecDepth 10000
set_option maxHeartbeats 1000000
section
namespace Kq
noncomputable def bd0 (call:CW):SW:=a1f (a2a (a0c 0) (.tp [3,4])) (a3d (eOp a3b (eOp ixF (a0c 3) (a0c 1)) (eUn b5x (eSl (a0c 4) (a9p (a0c 1)) (a9p (eOp b2d (a0c 2) (eC (.int 1))))))))
noncomputable def bd1 (call:CW):SW:=a1f (a2a (eUn b0w (eOp ixF (a0c 0) (eC (.int 0)))) (.nm 2)) (a3d (a2g call 2 (a0b (a0c 0) (a0b (a2v 3 1 (c1o (a0c 2)) (.nm 3) a3y (eOp b7e (eOp a3b (eOp a3b (a0c 3) (a0c 1)) (eC (.int 1))) (a0c 2))) a1d))))
noncomputable def bd2 (call:CW):SW:=a1f (a2a (eUn b0w (eOp ixF (a0c 0) (eC (.int 0)))) (.nm 2)) (a1f (a2a (b8l (a0c 2) (b1t (a0b (eC (.int 0)) (a0b (b1t a1d) a1d)))) (.nm 3)) (a1f (b6a (c5u (a0c 2)) (.nm 4) (a1f (a2a (a9a a1d) (.nm 5)) (a1f (b6a (iRng2 (eOp a3b (a0c 4) (eC (.int 1))) (eOp a3b (eOp ixF (a0c 1) (a0c 4)) (eC (.int 1)))) (.nm 6) (sIf (a2h (eOp d0q (a0c 6) (a0c 3))) (a1f (a2a (a5y dgF 3 (a0c 6)) (.tp [7,8])) (c2w (b1u c7c 5 (b1t (a0b (eOp a3b (a2g call 0 (a0b (a0c 0) (a0b (a0c 4) (a0b (a0c 6) a1d)))) (a0c 7)) (a0b (eOp a3b (b1t (a0b (a0c 4) a1d)) (a0c 8)) a1d)))))) a8z)) (sIf (a2h (a0c 5)) (c0h 3 (a0c 4) (eUn b4i (a0c 5))) a8z)))) (a3d (c6n 3 (eC (.int 0))))))
noncomputable def bd3 (call:CW):SW:=a1f (a2a (a9a a1d) (.nm 1)) (a1f (b6a (c1o (eUn b0w (eOp ixF (a0c 0) (eC (.int 0))))) (.nm 2) (a1f (a2a (eOp ixF (a2g call 1 (a0b (a0c 0) (a0b (a0c 2) a1d))) (eC (.int 0))) (.nm 3)) (sIf (bOr (d2e (a2h (a0c 1))) (a2h (eOp ltB (a0c 3) (eOp ixF (a5y ixF 1 (eUn c1d (eC (.int 1)))) (eC (.int 1)))))) (c2w (b1u c7c 1 (b1t (a0b (a0c 2) (a0b (a0c 3) a1d))))) a8z))) (a3d (a0c 1)))
noncomputable def bd4 (call:CW):SW:=a1f (a2a (eOp c3e (eOp b7c (eOp a3b (eOp a3b (eOp c3e (a0c 0) (eC (.int 2147483629))) (eOp b7c (eOp b7c (a0c 1) (a0c 1)) (eC (.int 7919)))) (eC (.int 11))) (eC (.int 48271))) (eC (.int 2147483647))) (.nm 2)) (a3d (eOp c3e (eOp b7c (a0c 2) (a0c 2)) (eC (.int 1999999973))))
noncomputable def bd5 (call:CW):SW:=a1f (a2a (eIf (a2h (eOp ltB (a0c 1) (eUn b0w (a0c 0)))) (eOp ixF (a0c 0) (a0c 1)) (eC (.int 0))) (.nm 2)) (a3d (a9a (a0b (eOp b7c (eUn d2g (a0c 2)) (eUn a9g (eOp geB (eUn d2g (a0c 2)) (eOp c8t (eC (.int 10)) (eC (.int 18)))))) (a0b (eOp a3b (a0c 2) (eOp b7c (eC (.int 1000003)) (a0c 1))) (a0b (eC (.int 0)) a1d)))))
noncomputable def bd6 (call:CW):SW:=a1f (c8b 0 (eC (.int 2)) (eOp a3b (a5y ixF 0 (eC (.int 2))) (eC (.int 1)))) (a1f (sIf (a2h (eOp gtB (a5y ixF 0 (eC (.int 0))) (eC (.int 0)))) (a1f (a2a (eOp c3e (a5y ixF 0 (eC (.int 0))) (a0c 1)) (.nm 2)) (a1f (c8b 0 (eC (.int 0)) (eOp b8d (a5y ixF 0 (eC (.int 0))) (a0c 1))) (a3d (a0c 2)))) a8z) (a3d (eOp c3e (eOp b8d (a2g call 4 (a0b (a2g call 4 (a0b (a5y ixF 0 (eC (.int 1))) (a0b (a5y ixF 0 (eC (.int 2))) a1d))) (a0b (eOp a3b (a5y ixF 0 (eC (.int 2))) (eC (.int 64))) a1d))) (eC (.int 64))) (a0c 1))))
noncomputable def bd7 (call:CW):SW:=a1f (a2a (a1o call 6 0 (a0b (eC (.int 4)) a1d)) (.nm 2)) (a1f (sIf (d2f (a2h (eOp eqB (a0c 2) (eC (.int 3)))) (a2h (eOp eqB (a0c 1) (eC (.int 0))))) (a3d (eOp a3b (eC (.int 1)) (a1o call 6 0 (a0b (eOp b2d (eOp c8t (eC (.int 10)) (eC (.int 9))) (eC (.int 20))) a1d)))) a8z) (a3d (eOp a3b (eC (.int 1)) (a1o call 6 0 (a0b (eOp ixF (a9a (a0b (eC (.int 9)) (a0b (eC (.int 9)) (a0b (eC (.int 40)) (a0b (eC (.int 3)) a1d))))) (a0c 2)) a1d)))))
noncomputable def bd8 (call:CW):SW:=a1f (a2a (eIf (a2h (eOp gtB (a1o call 6 0 (a0b (eC (.int 8)) a1d)) (eC (.int 0)))) (eOp a3b (eC (.int 1)) (a1o call 6 0 (a0b (eC (.int 7)) a1d))) (eOp a3b (eC (.int 8)) (a1o call 6 0 (a0b (eOp b2d (a0c 1) (eC (.int 7))) a1d)))) (.nm 2)) (a1f (a2a (a1o call 6 0 (a0b (eC (.int 4)) a1d)) (.nm 3)) (a1f (a2a (eUn a6r (a2v 5 1 (c1o (a0c 2)) (.nm 5) a3y (eOp a3b (a1o call 7 0 (a0b (a0c 3) a1d)) (eOp ixF (a9a (a0b (eC (.int 0)) (a0b (eC (.int 9)) a1d))) (a1o call 6 0 (a0b (eC (.int 2)) a1d)))))) (.nm 4)) (a3d (b1t (a0b (a0c 4) (a0b (eUn a6r (a2v 5 1 (c1o (eOp b2d (a0c 2) (eC (.int 1)))) (.nm 5) a3y (a1o call 7 0 (a0b (a0c 3) a1d)))) a1d))))))
noncomputable def bd9 (call:CW):SW:=a1f (sIf (a2h (eUn (c1k .list .tuple) (a0c 1))) (a1f (sIf (bOr (a2h (eOp neB (eUn (b4r .list) (a0c 0)) (eUn (b4r .list) (a0c 1)))) (a2h (eOp neB (eUn (b4r .tuple) (a0c 0)) (eUn (b4r .tuple) (a0c 1))))) (a3d (eC (.bl false))) a8z) (a3d (c1y (eOp eqB (eUn b0w (a0c 0)) (eUn b0w (a0c 1))) (eUn d3t (a2v 2 2 (d6l (a0c 0) (a0c 1)) (.tp [2,3]) a3y (a2g call 9 (a0b (a0c 2) (a0b (a0c 3) a1d)))))))) a8z) (a1f (sIf (bOr (a2h (eUn a1i (a0c 1))) (a2h (eUn (b4r .str) (a0c 1)))) (a3d (c1y (eOp eqB (a0c 0) (a0c 1)) (eOp eqB (eUn (b4r .str) (a0c 0)) (eUn (b4r .str) (a0c 1))))) a8z) (a1f (sIf (a2h (eUn (b4r .bool) (a0c 1))) (a3d (c1y (eUn (b4r .bool) (a0c 0)) (eOp eqB (a0c 0) (a0c 1)))) a8z) (a3d (c1y (eUn (b4r .int) (a0c 0)) (c1y (eUn d5x (eUn (b4r .bool) (a0c 0))) (eOp eqB (a0c 0) (a0c 1)))))))
noncomputable def d3q (call:CW):SW:=a3d (eOp a3b (eOp ixF (eOp ixF (a0c 0) (eC (.int 0))) (a0c 1)) (eUn b5x (eSl (eOp ixF (a0c 0) (eC (.int 1))) (a9p (a0c 1)) (a9p (eOp b2d (a0c 2) (eC (.int 1)))))))
noncomputable def d9j (call:CW):SW:=a1f (sIf (d2f (a2h (eUn a1k (eOp ixF (a0c 3) (eC (.int 0))))) (a2h (eOp gtB (eOp b2d (eOp b2d (a0c 2) (a0c 1)) (eC (.int 1))) (eOp ixF (a0c 3) (eC (.int 0)))))) (a3d (eC (.bl false))) a8z) (a3d (eOr (eUn a1i (eOp ixF (a0c 3) (eC (.int 1)))) (eOp leB (a2g call 10 (a0b (a0c 0) (a0b (a0c 1) (a0b (a0c 2) a1d)))) (eOp ixF (a0c 3) (eC (.int 1))))))
noncomputable def d9i (call:CW):SW:=a1f (a2a (a2v 5 1 (iRng2 (eOp a3b (a0c 2) (eC (.int 1))) (eOp a3b (eUn b0w (eOp ixF (a0c 0) (eC (.int 0)))) (eC (.int 1)))) (.nm 5) (a2h (eUn a1k (eOp ixF (a0c 1) (a0c 5)))) (a0c 5)) (.nm 4)) (a3d (a2v 5 1 (c1n (a0c 4)) (.nm 5) (a2h (a2g call 11 (a0b (a0c 0) (a0b (a0c 2) (a0b (a0c 5) (a0b (a0c 3) a1d)))))) (a0c 5)))
noncomputable def d9h (call:CW):SW:=a1f (a2a (eUn b0w (eOp ixF (a0c 0) (eC (.int 0)))) (.nm 2)) (a1f (a2a (eOp (a4y a3b) (eOp b7c (a9a (a0b (eC .non) a1d)) (a0c 2)) (a9a (a0b (eC (.int 0)) a1d))) (.nm 3)) (a1f (b6a (c5v (eOp b2d (a0c 2) (eC (.int 1))) (eUn c1d (eC (.int 1)))) (.nm 4) (a1f (a2a (a2v 8 1 (c1n (b3l call 12 (a0b (a0c 0) (d2h 3 (a0b (a0c 4) (a0b (a0c 1) a1d)))))) (.nm 8) a3y (eOp a3b (a2g call 10 (a0b (a0c 0) (a0b (a0c 4) (a0b (a0c 8) a1d)))) (a5y ixF 3 (a0c 8)))) (.nm 5)) (sIf (a2h (eOp neB (a0c 5) (a9a a1d))) (c8b 3 (a0c 4) (eUn c1e (a0c 5))) a8z))) (a1f (sIf (a2h (eUn a1i (a5y ixF 3 (eC (.int 0))))) (a3d (eC .non)) a8z) (a1f (a2a (a9a (a0b (eC (.int 0)) a1d)) (.nm 6)) (a1f (d2l (a2h (eOp ltB (a5y ixF 6 (eUn c1d (eC (.int 1)))) (a0c 2))) (a1f (a2a (a5y ixF 6 (eUn c1d (eC (.int 1)))) (.nm 7)) (a1f (a2a (b3l call 12 (a0b (a0c 0) (d2h 3 (a0b (a0c 7) (a0b (a0c 1) a1d))))) (.nm 5)) (a1f (a2a (a2v 8 1 (c1n (a0c 5)) (.nm 8) (a2h (eOp eqB (eOp a3b (a2g call 10 (a0b (a0c 0) (a0b (a0c 7) (a0b (a0c 8) a1d)))) (a5y ixF 3 (a0c 8))) (a5y ixF 3 (a0c 7)))) (a0c 8)) (.nm 5)) (c2w (b1u c7c 6 (eOp ixF (a9a (a0b (eOp ixF (a0c 5) (eC (.int 0))) (a0b (a0c 2) a1d))) (eUn a9g (eOp eqB (eOp ixF (a0c 5) (eUn c1d (eC (.int 1)))) (a0c 2)))))))))) (a3d (b1t (a0b (a5y ixF 3 (eC (.int 0))) (a0b (eUn a6r (d1f 6 c0z (a9p (eUn c1d (eC (.int 1)))))) a1d)))))))))
noncomputable def d9g (call:CW):SW:=a1f (a2a (a9a (a0b (b1t (a0b (eC (.int 0)) a1d)) a1d)) (.nm 1)) (a1f (b6a (iRng2 (eC (.int 1)) (a0c 0)) (.nm 2) (a2a (eOp a3b (a0c 1) (a2v 3 1 (c1n (a0c 1)) (.nm 3) a3y (eOp a3b (a0c 3) (b1t (a0b (a0c 2) a1d))))) (.nm 1))) (a3d (a0c 1)))
noncomputable def d9f (call:CW):SW:=a1f (a2a (a9a a1d) (.nm 1)) (a1f (b6a (c1o (eUn b0w (eOp ixF (a0c 0) (eC (.int 0))))) (.nm 2) (a1f (a2a (eOp ixF (a2g call 13 (a0b (a0c 0) (a0b (b1t (a0b (a0c 2) (a0b (eC .non) a1d))) a1d))) (eC (.int 0))) (.nm 3)) (sIf (bOr (a2h (a5y eqB 1 (a9a a1d))) (a2h (eOp ltB (a0c 3) (eOp ixF (a5y ixF 1 (eUn c1d (eC (.int 1)))) (eC (.int 1)))))) (c2w (b1u c7c 1 (b1t (a0b (a0c 2) (a0b (a0c 3) a1d))))) a8z))) (a3d (a0c 1)))
noncomputable def d9e (call:CW):SW:=a1f (a2a (eC (.dct [] [])) (.nm 1)) (a1f (b6a (c1n (a2g call 14 (a0b (eUn b0w (eOp ixF (a0c 0) (eC (.int 0)))) a1d))) (.nm 2) (a1f (a2a (eOp a3b (eUn a8i (eSl (a0c 2) (a9p (eC (.int 1))) c0z)) (a9a (a0b (eUn b0w (eOp ixF (a0c 0) (eC (.int 0)))) a1d))) (.nm 3)) (a1f (a2a (c6m (a0c 2) (a0c 3)) (.nm 4)) (a1f (a2a (eUn c1f (a2v 6 2 (c1n (a0c 4)) (.tp [6,7]) a3y (eOp b2d (eOp b2d (a0c 7) (a0c 6)) (eC (.int 1))))) (.nm 5)) (c0h 1 (b1t (a0b (a0c 5) (a0b (eUn d2k (a2v 6 2 (c1n (a0c 4)) (.tp [6,7]) a3y (a2g call 10 (a0b (a0c 0) (a0b (a0c 6) (a0b (a0c 7) a1d)))))) a1d))) (eC (.bl true))))))) (a3d (b8j (a2v 6 1 (b7x 1) (.nm 6) (d2e (a2h (eUn d3s (a2v 7 1 (b7w 1) (.nm 7) a3y (a2g call 17 (a0b (a0c 7) (a0b (a0c 6) a1d))))))) (a0c 6)))))
noncomputable def d3p (call:CW):SW:=a3d (c1y (eOp neB (a0c 0) (a0c 1)) (c1y (eOp leB (eOp ixF (a0c 0) (eC (.int 0))) (eOp ixF (a0c 1) (eC (.int 0)))) (eOp leB (eOp ixF (a0c 0) (eC (.int 1))) (eOp ixF (a0c 1) (eC (.int 1))))))
noncomputable def d9d (call:CW):SW:=a1f (b6a (c1o (eOp a3b (eC (.int 1)) (eOp b7e (eC (.int 3)) (eUn b0w (a0c 0))))) (.nm 1) (a1f (a2a (a2g call 5 (a0b (a0c 0) (a0b (a0c 1) a1d))) (.nm 2)) (a1f (a2a (a1o call 8 2 (a0b (eC (.int 30)) a1d)) (.nm 3)) (a1f (a2a (eUn c7w (a0c 3)) (.nm 4)) (a1f (a2a (a2g call 15 (a0b (a0c 3) a1d)) (.nm 5)) (a1f (sIf (d2f (a2h (eOp ltB (eUn b0w (eOp ixF (a0c 3) (eC (.int 0)))) (eC (.int 9)))) (a2h (eOp neB (a2g call 16 (a0b (a0c 3) a1d)) (a0c 5)))) (a3d (eC (.bl false))) a8z) (a1f (b6a (c1o (eC (.int 2))) (.nm 6) (a1f (a2a (a2g call 3 (a0b (a0c 3) a1d)) (.nm 7)) (a1f (sIf (d2e (a2h (b8m call 9 (d2h 7 (a0b (a0c 5) a1d))))) (a3d (eC (.bl false))) a8z) (a1f (c2w (b8k d4u 7)) (c2w (b1u c7c 7 (b1t (a0b (eC (.int 0)) (a0b (eC (.int 0)) a1d))))))))) (sIf (a2h (eOp neB (eUn c7w (a0c 3)) (a0c 4))) (a3d (eC (.bl false))) a8z)))))))) (a3d (eC (.bl true)))
noncomputable def fd0:FD:=⟨3,5,bd0,false,false⟩
noncomputable def fd1:FD:=⟨2,3,bd1,false,false⟩
noncomputable def fd2:FD:=⟨2,9,bd2,false,false⟩
noncomputable def fd3:FD:=⟨1,4,bd3,false,true⟩
noncomputable def fd4:FD:=⟨2,3,bd4,false,false⟩
noncomputable def fd5:FD:=⟨2,3,bd5,false,true⟩
noncomputable def fd6:FD:=⟨2,3,bd6,true,false⟩
noncomputable def fd7:FD:=⟨2,3,bd7,true,false⟩
noncomputable def fd8:FD:=⟨2,5,bd8,true,false⟩
noncomputable def fd9:FD:=⟨2,2,bd9,false,false⟩
noncomputable def d8f:FD:=⟨3,3,d3q,false,false⟩
noncomputable def d8e:FD:=⟨4,4,d9j,false,false⟩
noncomputable def d8d:FD:=⟨4,5,d9i,false,true⟩
noncomputable def d8c:FD:=⟨2,8,d9h,false,false⟩
noncomputable def d8b:FD:=⟨1,3,d9g,false,false⟩
noncomputable def d8a:FD:=⟨1,4,d9f,false,true⟩
noncomputable def d7z:FD:=⟨1,6,d9e,false,false⟩
noncomputable def d7y:FD:=⟨2,2,d3p,false,false⟩
noncomputable def d7x:FD:=⟨1,8,d9d,false,false⟩
noncomputable def tb:List FD:=[fd0,fd1,fd2,fd3,fd4,fd5,fd6,fd7,fd8,fd9,d8f,d8e,d8d,d8c,d8b,d8a,d7z,d7y,d7x]
noncomputable def mixV (a k:Int):Int:=((a % 2147483629 + k * k * 7919 + 11) * 48271 % 2147483647) * ((a % 2147483629 + k * k * 7919 + 11) * 48271 % 2147483647) % 1999999973
theorem b5y (x:Int):small (x % 2147483647)=true:=by
 have:=Int.emod_nonneg x (show (2147483647:Int)≠0 by decide)
 have:=Int.emod_lt_of_pos x (show (0:Int) < 2147483647 by decide)
 simp only [small,decide_eq_true_eq]; lia
theorem b2i {i:Int} (h:0≤i) (h':i < 2 ^ 60):small i=true:=by
 simp only [small,decide_eq_true_eq]; lia
theorem a0n {i:Int} (h:0≤i) (h':i < 2 ^ 60):a0q i=true:=by
 simp only [a0q,decide_eq_true_eq]; lia
theorem c9w (d:Nat) (a k:Int) (hk:small k=true) (Q:FV×FV→Prop):callW tb (d + 1) 4 [.int a,.int k] Q↔Q (.int (mixV a k),.non):=by
 have h2:small 48271=true:=by decide
 have h3:small 7919=true:=by decide
 rw [c2g (fd:=fd4) rfl rfl]
 simp [fd4,bd4,h2,h3,hk,b5y,mixV]
noncomputable def Lf (n:Int) (v:FV):Prop:=∃ a b c,v=.lst [.int a,.int b,.int c]∧0≤c∧c≤n
theorem Lf.mono {n m:Int} {v:FV} (h:Lf n v) (k:n≤m):Lf m v:=by
 obtain ⟨a,b,c,h,h1,h2⟩:=h
 exact ⟨a,b,c,h,h1,by lia⟩
theorem a2x (d:Nat) {many n:Int} {v:FV} {Q:FV×FV→Prop} (hs:Lf n v) (hn:n < 1000000) (h1:0 < many) (h2:many < 1073741824)
  (q:∀ u v',0≤u→u < many→Lf (n + 1) v'→Q (.int u,v')):callW tb (d + 2) 6 [v,.int many] Q:=by
 obtain ⟨a,b,c,rfl,h3,h4⟩:=hs
 refine a0w (fd:=fd6) rfl rfl ?_
 have s1:small (c + 1)=true:=b2i (by lia) (by lia)
 have s2:small (c + 1 + 64)=true:=b2i (by lia) (by lia)
 by_cases ha:0 < a
 ·simp [fd6,bd6,ixN,ha,h1,h2]
  exact q _ _ (Int.emod_nonneg _ (by lia)) (Int.emod_lt_of_pos _ h1) ⟨_,_,_,rfl,by lia,by lia⟩
 ·simp [fd6,bd6,ixN,ha,h1,h2,c9w,s1,s2]
  exact q _ _ (Int.emod_nonneg _ (by lia)) (Int.emod_lt_of_pos _ h1) ⟨_,_,_,rfl,by lia,by lia⟩
theorem c5p (d:Nat) (ns:List Int) (k:Nat) {Q:FV×FV→Prop} (q:∀ v y,Lf 0 v→Q (v,y)):callW tb (d + 1) 5 [.scr ns,.int k] Q:=by
 refine a0w (fd:=fd5) rfl rfl ?_
 have h1:small 1000003=true:=by decide
 have h2:small 0=true:=by decide
 have h4:small 10=true:=by decide
 have h5:∀ r:Bool,small (if r=true then 1 else 0)=true:=by intro r; cases r <;> decide
 simp [fd5,bd5]
 split
 ·rename_i hk
  rw [a5e rfl (show (ns.map FV.int)[k]?=some (.int ns[k]) by simp [hk])]
  simp [h1,h4,h5,big]
  exact ⟨.inr (by by_cases hh:1000000000000000000≤(if ns[k] < 0 then -ns[k] else ns[k]) <;> simp only [hh,if_true,if_false] <;> decide),q _ _ ⟨_,_,_,rfl,by lia,by lia⟩⟩
 ·simp [h1,h2,h4,big]
  exact q _ _ ⟨_,_,_,rfl,by lia,by lia⟩
mutual
noncomputable def dF:D→FV
 | .non=>.non
 | .bl b=>.bl b
 | .int i=>.int i
 | .str x=>.str x
 | .tup xs=>.tup (dFs xs)
 | .lst xs=>.lst (dFs xs)
noncomputable def dFs:List D→List FV
 | []=>[]
 | x :: r=>dF x :: dFs r
end
theorem a8u:∀ xs:List D,dFs xs=xs.map dF
 | []=>rfl
 | x :: r=>by rw [dFs,a8u r]; rfl
mutual
noncomputable def dep:D→Nat
 | .tup xs=>b1w xs + 1
 | .lst xs=>b1w xs + 1
 | .non=>0 | .bl _=>0 | .int _=>0 | .str _=>0
noncomputable def b1w:List D→Nat
 | []=>0
 | x :: r=>max (dep x) (b1w r)
end
mutual
theorem b8f:∀ (x:D) (n:Nat),dep x < n→fD n (dF x)=some x
 | .non,0,h=>by lia
 | .non,n + 1,h=>rfl
 | .bl _,0,h=>by lia
 | .bl _,n + 1,h=>rfl
 | .int _,0,h=>by lia
 | .int _,n + 1,h=>rfl
 | .str _,0,h=>by lia
 | .str _,n + 1,h=>rfl
 | .tup xs,0,h=>by lia
 | .tup xs,n + 1,h=>by simp only [dF,fD]; rw [b8e xs n (by simp only [dep] at h; lia)]; rfl
 | .lst xs,0,h=>by lia
 | .lst xs,n + 1,h=>by simp only [dF,fD]; rw [b8e xs n (by simp only [dep] at h; lia)]; rfl
theorem b8e:∀ (xs:List D) (n:Nat),b1w xs < n→a4i (fD n) (dFs xs)=some xs
 | [],n,h=>rfl
 | x :: r,n,h=>by
  simp only [b1w] at h
  simp only [dFs,a4i,b8f x n (by lia),b8e r n (by lia),Option.bind_some,Option.map_some]
end
noncomputable def Vl (k p:Nat) (x:FV):Prop:=∃ d,x=dF d∧dep d≤p∧d.fit=true∧d.wt≤k
theorem Vl.mono {k k' p p':Nat} {x:FV} (h:Vl k p x) (hk:k≤k') (hp:p≤p'):Vl k' p' x:=by
 obtain ⟨d,e,h1,h2,h3⟩:=h
 exact ⟨d,e,by lia,h2,by lia⟩
theorem Vl.all {k p:Nat}:∀ {xs:List FV},(∀ x∈xs,Vl k p x)→∃ ds:List D,xs=dFs ds∧b1w ds≤p∧D.fits ds=true∧D.wts ds≤ds.length * (k + 1)∧ds.length=xs.length
 | [],_=>⟨[],rfl,Nat.zero_le _,rfl,by simp [D.wts],rfl⟩
 | x :: r,h=>by
  obtain ⟨d,e,h1,h2,h3⟩:=h x (Γn ..)
  obtain ⟨ds,e',h1',h2',h3',h4'⟩:=Vl.all (xs:=r) fun y hy=>h y (Γh _ hy)
  refine ⟨d :: ds,by rw [e,e']; rfl,by simp only [b1w]; lia,by simp only [D.fits,h2,h2',Bool.and_self],?_,by simp [h4']⟩
  simp only [D.wts,List.length_cons,Nat.add_mul,Nat.one_mul]; lia
theorem Vl.tup {k p m:Nat} {xs:List FV} (h:∀ x∈xs,Vl k p x) (hl:xs.length≤m):Vl (m * (k + 1)) (p + 1) (.tup xs):=by
 obtain ⟨ds,e,h1,h2,h3,h4⟩:=Vl.all h
 refine ⟨.tup ds,by rw [e]; rfl,by simp only [dep]; lia,by simp only [D.fit,h2],?_⟩
 simp only [D.wt]
 exact Nat.le_trans h3 (Nat.mul_le_mul_right _ (by lia))
theorem Vl.lst {k p m:Nat} {xs:List FV} (h:∀ x∈xs,Vl k p x) (hl:xs.length≤m):Vl (m * (k + 1)) (p + 1) (.lst xs):=by
 obtain ⟨ds,e,h1,h2,h3,h4⟩:=Vl.all h
 refine ⟨.lst ds,by rw [e]; rfl,by simp only [dep]; lia,by simp only [D.fit,h2],?_⟩
 simp only [D.wt]
 exact Nat.le_trans h3 (Nat.mul_le_mul_right _ (by lia))
theorem Vl.int {i:Int} (h:-(2 ^ 40) < i) (h':i < 2 ^ 40):Vl 41 0 (.int i):=⟨.int i,rfl,Γi _,by simp only [D.fit,decide_eq_true_eq]; lia,by simp only [D.wt]; rw [if_pos ⟨h,h'⟩]; exact Γi _⟩
theorem Vl.bl {b:Bool}:Vl 0 0 (.bl b):=⟨.bl b,rfl,Γi _,rfl,Γi _⟩
theorem c7v {k p:Nat} {x:FV} (h:Vl k p x) (hk:k≤big) (hp:p < 40):∃ y,c7w x=some y∧∀ R:Bool→Prop,wp (eqF y y) R=R true:=by
 obtain ⟨d,rfl,h1,h2,h3⟩:=h
 have big':∀ e:D,dep e < 40→e.fit=true→e.wt≤big→(fD a0j (dF e)).bind (fun d=>if d.fit=true∧d.wt≤big then some (FV.shn d) else none)=some (.shn e):=fun e h1 h2 h3=>by
  rw [b8f e a0j h1]
  show (if e.fit=true∧e.wt≤big then some (FV.shn e) else none)=_
  rw [if_pos ⟨h2,h3⟩]
 cases d with
 | non=>exact ⟨_,rfl,fun R=>by simp⟩
 | bl b=>exact ⟨_,rfl,fun R=>by simp⟩
 | str x=>exact ⟨_,rfl,fun R=>by simp⟩
 | int i =>
  simp only [D.fit,decide_eq_true_eq] at h2
  exact ⟨_,(show (if -(2 ^ 150) < i∧i < 2 ^ 150 then some (FV.str (toString i)) else none)=some (.str (toString i)) by rw [if_pos h2]),fun R=>by simp⟩
 | tup xs=>exact ⟨_,big' (.tup xs) (by lia) h2 (by lia),fun R=>by simp⟩
 | lst xs=>exact ⟨_,big' (.lst xs) (by lia) h2 (by lia),fun R=>by simp⟩
theorem d0z {a b:D} (ha:dep a < 40) (hb:dep b < 40):eqF (dF a) (dF b)=some (D.eqv a b):=by
 have go:(fD a0j (dF a)).bind (fun x=>(fD a0j (dF b)).bind fun y=>some (D.eqv x y))=some (D.eqv a b):=by
  rw [b8f a a0j ha,b8f b a0j hb]; rfl
 unfold eqF
 split
 ·rename_i x y e1 e2; cases a <;> cases e1
 ·exact go
theorem c2d {α:Type} (xs:List α) (n:Nat):b0k xs (some (n:Int)) none=xs.drop n:=by
 have h:sIx xs.length 0 (some (n:Int))=min n xs.length:=by simp only [sIx]; rw [if_neg (by lia)]; simp
 unfold b0k
 rw [h]
 show (xs.drop (min n xs.length)).take (xs.length - min n xs.length)=_
 by_cases hn:n≤xs.length
 ·rw [Nat.min_eq_left hn,List.take_of_length_le (by simp)]
 ·rw [Nat.min_eq_right (by lia),List.drop_of_length_le (Γi _),List.drop_of_length_le (by lia)]; simp
theorem b1a:∀ xs:List D,xs.length≤D.wts xs
 | []=>Γi _
 | x :: r=>by have:=b1a r; simp only [D.wts,List.length_cons]; lia
theorem a8t {x:D}:∀ {xs:List D},x∈xs→dep x≤b1w xs
 | [],h=>by cases h
 | y :: r,h=>by
  simp only [b1w]
  rcases List.mem_cons.mp h with rfl | h
  ·lia
  ·have:=a8t h; lia
theorem b0z {x:D}:∀ {xs:List D},x∈xs→x.wt≤D.wts xs
 | [],h=>by cases h
 | y :: r,h=>by
  simp only [D.wts]
  rcases List.mem_cons.mp h with rfl | h
  ·lia
  ·have:=b0z h; lia
mutual
theorem b3i:∀ x:D,D.eqv x x=true
 | .non=>rfl
 | .bl b=>by simp [D.eqv]
 | .int i=>by simp [D.eqv]
 | .str s=>by simp [D.eqv]
 | .tup xs=>by rw [D.eqv]; exact a5w xs
 | .lst xs=>by rw [D.eqv]; exact a5w xs
theorem a5w:∀ xs:List D,D.eqvs xs xs=true
 | []=>rfl
 | x :: r=>by rw [D.eqvs,b3i x,a5w r]; rfl
end
theorem c6c {k p:Nat} {x:FV} (h:Vl k p x) (hp:p < 40) (R:Bool→Prop):wp (eqF x x) R↔R true:=by
 obtain ⟨d,rfl,h1,-⟩:=h
 rw [d0z (by lia) (by lia),b3i]; exact Iff.rfl
theorem a5n:∀ xs:List FV,a2d xs xs=xs.map fun x=>.tup [x,x]
 | []=>rfl
 | x :: r=>by rw [List.map_cons,← a5n r]; rfl
theorem c4k:∀ (p d:Nat) {x:D} {Q:FV×FV→Prop},dep x≤p→p < 39→x.wt≤big→Q (.bl true,.non)→callW tb (d + p + 1) 9 [dF x,dF x] Q:=by
 intro p
 induction p with
 | zero =>
  intro d x Q hx hp hw q
  refine a0w (fd:=fd9) rfl rfl ?_
  cases x with
  | tup xs=>simp [dep] at hx
  | lst xs=>simp [dep] at hx
  | _=>simp [fd9,bd9,dF]; exact q
 | succ p ih =>
  intro d x Q hx hp hw q
  refine a0w (fd:=fd9) rfl rfl ?_
  cases x with
  | tup xs =>
   simp only [dep] at hx
   simp only [D.wt] at hw
   have hl:=b1a xs
   simp [fd9,bd9,dF]
   rw [a5n,a8u,List.map_map]
   refine ⟨by simp; lia,?_⟩
   refine a1s (g:=fun _=>.bl true) xs [] (fun x hx' K k=>?_) ?_
   ·have:=a8t hx'
    have:=b0z hx'
    simp
    exact ih d (by lia) (by lia) (by lia) (by simpa using k)
   ·rw [List.nil_append,show (xs.map fun _=>FV.bl true)=xs.map fun x=>FV.bl ((fun _=>true) x) from rfl,a4q]
    simp
    rw [show (xs.all fun _=>true)=true by simp]; exact q
  | lst xs =>
   simp only [dep] at hx
   simp only [D.wt] at hw
   have hl:=b1a xs
   simp [fd9,bd9,dF]
   rw [a5n,a8u,List.map_map]
   refine ⟨by simp; lia,?_⟩
   refine a1s (g:=fun _=>.bl true) xs [] (fun x hx' K k=>?_) ?_
   ·have:=a8t hx'
    have:=b0z hx'
    simp
    exact ih d (by lia) (by lia) (by lia) (by simpa using k)
   ·rw [List.nil_append,show (xs.map fun _=>FV.bl true)=xs.map fun x=>FV.bl ((fun _=>true) x) from rfl,a4q]
    simp
    rw [show (xs.all fun _=>true)=true by simp]; exact q
  | _=>simp [fd9,bd9,dF]; exact q
theorem c4l (d:Nat) {k p:Nat} {x:FV} {Q:FV×FV→Prop} (h:Vl k p x) (hp:p < 39) (hk:k≤big) (q:Q (.bl true,.non)):callW tb (d + p + 1) 9 [x,x] Q:=by
 obtain ⟨e,rfl,h1,h2,h3⟩:=h
 exact c4k p d h1 hp (by lia) q
theorem b2n {α β:Type} (f:α→FV) (g:β→FV):∀ (xs:List α) (ys:List β),a2d (xs.map f) (ys.map g)=(xs.zip ys).map fun p=>.tup [f p.1,g p.2]
 | [],ys=>rfl
 | x :: xs,[]=>rfl
 | x :: xs,y :: ys=>by
  show FV.tup [f x,g y] :: a2d (xs.map f) (ys.map g)=_
  rw [b2n f g xs ys]; rfl
theorem b2y (d:Nat) {n g:Int} {v:FV} {Q:FV×FV→Prop} (hs:Lf n v) (h0:0≤n) (hn:n < 100000) (q:∀ s v',1≤s→s < 1000000000→Lf (n + 2) v'→Q (.int s,v')):callW tb (d + 3) 7 [v,.int g] Q:=by
 refine a0w (fd:=fd7) rfl rfl ?_
 simp [fd7,bd7,big]
 refine a2x d hs (by lia) (by decide) (by decide) fun u v1 u0 u1 l1=>?_
 simp
 have fin:wp (atF [FV.int 9,FV.int 9,FV.int 40,FV.int 3] u) fun z=>callW tb (d + 2) 6 [v1,z] fun z=>wp (a3b (FV.int 1) z.fst) fun z_1=>Q (z_1,z.snd):=by
  refine c3x u0 u1 ?_
  intro f hf
  obtain ⟨k,rfl,k0,k1⟩:∃ k:Int,f=.int k∧0 < k∧k≤40:=by
   simp at hf
   rcases hf with rfl | rfl | rfl | rfl <;> exact ⟨_,rfl,by decide,by decide⟩
  refine a2x d l1 (by lia) k0 (by lia) fun w v2 w0 w1 l2=>?_
  simp
  exact q _ _ (by lia) (by lia) (l2.mono (by lia))
 refine ite2 (fun h=>?_) (fun h=>fin)
 refine ite2 (fun h=>?_) (fun h=>fin)
 refine ⟨by decide,a2x d l1 (by lia) (by decide) (by decide) fun w v2 w0 w1 l2=>?_⟩
 simp
 exact q _ _ (by lia) (by lia) (l2.mono (by lia))
noncomputable def Szs (xs:List Int):Prop:=∀ x∈xs,1≤x∧x < 2000000000
theorem c8f (d : Nat) {n M : Int} {v : FV} {Q : FV × FV → Prop} (hs : Lf n v) (h0 : 0 ≤ n) (hn : n < 10000) (hM : 8 ≤ M) (hM2 : M ≤ 30) (q : ∀ (ws ss : List Int) v', 1 ≤ ws.length → ws.length ≤ 30 → ss.length + 1 = ws.length → Szs ws → Szs ss → Lf (n + 200) v' → Q (.tup [.tup (ws.map .int), .tup (ss.map .int)], v')) : callW tb (d + 4) 8 [v, .int M] Q := by
  refine a0w (fd := fd8) rfl rfl ?_
  simp [fd8, bd8, big]
  refine a2x (d + 1) hs (by lia) (by decide) (by decide) fun u v1 u0 u1 l1 => ?_
  simp
  have tail : ∀ (m : Nat) (v2 : FV), 1 ≤ m → m ≤ 30 → Lf (n + 2) v2 → callW tb (d + 3) 6 [v2, FV.int 4] fun z =>
      a0q (m : Int) = true ∧ (upF 0 (m : Int).toNat).length ≤ 100000 ∧
        a3w 5 1 (Tg.nm 5) a3y
          (eOp a3b (a1o (callW tb (d + 3)) 7 0 (a0b (a0c 3) a1d))
            (eOp ixF (a9a (a0b (eC (FV.int 0)) (a0b (eC (FV.int 9)) a1d)))
              (a1o (callW tb (d + 3)) 6 0 (a0b (eC (FV.int 2)) a1d))))
          (upF 0 (m : Int).toNat) [] [some z.snd, some (FV.int M), some (FV.int m), some z.fst, none] fun ys L2 =>
          wp (lk (List.set L2 4 (some (FV.tup ys))) 4) fun x =>
            wp (lk (List.set L2 4 (some (FV.tup ys))) 2) fun x_1 =>
              wp (b2d x_1 (FV.int 1)) fun z =>
                wp (a2t z) fun j =>
                  a0q j = true ∧ List.length L2 = 5 ∧ (upF 0 j.toNat).length ≤ 100000 ∧
                        a3w 5 1 (Tg.nm 5) a3y (a1o (callW tb (d + 3)) 7 0 (a0b (a0c 3) a1d)) (upF 0 j.toNat)
                          [] (List.set L2 4 (some (FV.tup ys))) fun ys L2 =>
                          wp (lk L2 0) fun x_2 => Q (FV.tup [x, FV.tup ys], x_2) := by
    intro m v2 m1 m2 l2
    refine a2x (d + 1) l2 (by lia) (by decide) (by decide) fun g v3 g0 g1 l3 => ?_
    refine ⟨a0n (by lia) (by lia), ?_⟩
    rw [Int.toNat_natCast, a7k]
    refine ⟨by simp; lia, ?_⟩
    refine a6c (f := fun i : Nat => FV.int i) (I := fun ds acc L => ∃ v' xs, L = [some v', some (.int M), some (.int m), some (.int g), none] ∧ acc = xs.map .int ∧ xs.length = ds.length ∧ Szs xs ∧ Lf (n + 3 + 3 * ds.length) v') (List.range m) (List.range m) [] [] _ rfl ⟨v3, [], rfl, rfl, rfl, by simp [Szs], by simpa [Int.add_assoc] using l3⟩ ?_ ?_
    · rintro ds x r acc L K e ⟨v', xs, rfl, rfl, hl, hx, lf⟩ k
      have hd : ds.length < 30 := by have := congrArg List.length e; simp at this; lia
      simp
      refine b2y d lf (by lia) (by lia) fun s v4 s0 s1 l4 => ?_
      simp [big]
      refine a2x (d + 1) l4 (by lia) (by decide) (by decide) fun w v5 w0 w1 l5 => ?_
      simp
      refine c3x w0 w1 ?_
      intro f hf
      obtain ⟨p, rfl, p0, p1⟩ : ∃ p : Int, f = .int p ∧ 0 ≤ p ∧ p ≤ 9 := by
        simp at hf
        rcases hf with rfl | rfl <;> exact ⟨_, rfl, by decide, by decide⟩
      simp
      refine k _ _ ⟨v5, xs ++ [s + p], rfl, by simp, by simp [hl], ?_, l5.mono (by simp; lia)⟩
      intro y hy
      rcases List.mem_append.mp hy with hy | hy
      · exact hx y hy
      · simp at hy; subst hy; lia
    · rintro ys L ⟨v', ws, rfl, rfl, hl, hx, lf⟩
      simp only [List.length_range] at hl lf
      simp
      refine ⟨a0n (by lia) (by lia), ?_⟩
      rw [a7k]
      refine ⟨by simp; lia, ?_⟩
      refine a6c (f := fun i : Nat => FV.int i) (I := fun ds acc L => ∃ v' xs, L = [some v', some (.int M), some (.int m), some (.int g), some (.tup (ws.map .int))] ∧ acc = xs.map .int ∧ xs.length = ds.length ∧ Szs xs ∧ Lf (n + 93 + 3 * ds.length) v') (List.range (m - 1)) (List.range (m - 1)) [] [] _ rfl ⟨v', [], rfl, rfl, rfl, by simp [Szs], lf.mono (by simp; lia)⟩ ?_ ?_
      · rintro ds x r acc L K e ⟨v', xs, rfl, rfl, hl, hx, lf⟩ k
        have hd : ds.length < 30 := by have := congrArg List.length e; simp at this; lia
        simp
        refine b2y d lf (by lia) (by lia) fun s v4 s0 s1 l4 => ?_
        simp
        refine k _ _ ⟨v4, xs ++ [s], rfl, by simp, by simp [hl], ?_, l4.mono (by simp; lia)⟩
        intro y hy
        rcases List.mem_append.mp hy with hy | hy
        · exact hx y hy
        · simp at hy; subst hy; lia
      · rintro ys L ⟨v', ss, rfl, rfl, hl2, hx2, lf⟩
        simp only [List.length_range] at hl2 lf
        simp
        exact q ws ss v' (by lia) (by lia) (by lia) hx hx2 (lf.mono (by lia))
  refine ite2 (fun h => ?_) (fun h => ?_)
  · refine a2x (d + 1) l1 (by lia) (by decide) (by decide) fun w v2 w0 w1 l2 => ?_
    obtain ⟨m, hm⟩ : ∃ m : Nat, 1 + w = m := ⟨(1 + w).toNat, by lia⟩
    simp
    rw [hm]
    exact tail m v2 (by lia) (by lia) (l2.mono (by lia))
  · refine a2x (d + 1) l1 (by lia) (by lia) (by lia) fun w v2 w0 w1 l2 => ?_
    obtain ⟨m, hm⟩ : ∃ m : Nat, 8 + w = m := ⟨(8 + w).toNat, by lia⟩
    simp
    rw [hm]
    exact tail m v2 (by lia) (by lia) (l2.mono (by lia))
theorem c6u {α:Type} (xs:List α) (i t:Nat):b0k xs (some (i:Int)) (some ((i:Int) + (t:Int)))=(xs.drop i).take t:=by
 have h1:sIx xs.length 0 (some (i:Int))=min i xs.length:=by simp only [sIx]; rw [if_neg (by lia)]; simp
 have h2:sIx xs.length xs.length (some ((i:Int) + (t:Int)))=min (i + t) xs.length:=by simp only [sIx]; rw [if_neg (by lia)]; congr 1
 unfold b0k
 rw [h1,h2]
 by_cases hi:i≤xs.length
 ·rw [Nat.min_eq_left hi,List.take_eq_take_iff,List.length_drop]; lia
 ·rw [Nat.min_eq_right (show xs.length≤i by lia),List.drop_of_length_le (Γi _),List.drop_of_length_le (by lia)]; simp
theorem b9e {α:Type} (xs:List α) {i j:Nat} (h:i≤j):b0k xs (some (i:Int)) (some (j:Int))=(xs.drop i).take (j - i):=by
 obtain ⟨t,rfl⟩:∃ t,j=i + t:=⟨j - i,by lia⟩
 rw [Nat.add_sub_cancel_left,← c6u]; simp
noncomputable def kp (ws ss:List Int) (ks:List Nat) (m:Nat):Int:=if m∈ks then ws.getD m 0 else ss.getD (m - 1) 0
noncomputable def wayN (ks:List Nat):Nat→List Nat
 | 0=>[0]
 | m + 1=>if m + 1∈ks then [m + 1] else wayN ks m++[m + 1]
noncomputable def a0x (ws ss:List Int) (b e:Nat):Int:=ws.getD b 0 + ((ss.drop b).take (e - 1 - b)).sum
noncomputable def a3l (ks:List Nat) (n:Nat):List (Nat×Nat):=ks.zip (ks.drop 1++[n])
theorem a7q:∀ {ks:List Nat} {n:Nat},ks.Pairwise (· < ·)→(∀ k∈ks,k < n)→∀ p∈a3l ks n,p.1∈ks∧p.1 < p.2∧p.2≤n∧∀ i,p.1 < i→i < p.2→i ∉ ks
 | [],n,_,_,p,hp=>by simp [a3l] at hp
 | [k],n,_,hk,p,hp=>by
  have:p=(k,n):=by simpa [a3l] using hp
  subst this
  have:=hk k (by simp)
  exact ⟨by simp,this,Γi _,fun i h1 h2 h3=>by simp at h3; lia⟩
 | k :: k2 :: r,n,hs,hk,p,hp=>by
  obtain ⟨h1,h2⟩:=List.pairwise_cons.mp hs
  have hp:p=(k,k2) ∨ p∈a3l (k2 :: r) n:=by simpa [a3l] using hp
  rcases hp with rfl | hp
  ·refine ⟨by simp,h1 k2 (by simp),Nat.le_of_lt (hk k2 (by simp)),fun i h3 h4 h5=>?_⟩
   rcases List.mem_cons.mp h5 with h5 | h5
   ·simp at h3; lia
   ·rcases List.mem_cons.mp h5 with h6 | h6
    ·simp at h4; lia
    ·have:=(List.pairwise_cons.mp h2).1 i h6
     simp at h4; lia
  ·obtain ⟨a,b,c,d⟩:=a7q h2 (fun x hx=>hk x (Γh _ hx)) p hp
   refine ⟨Γh _ a,b,c,fun i h3 h4 h5=>?_⟩
   rcases List.mem_cons.mp h5 with h5 | h5
   ·have:=h1 _ a; lia
   ·exact d i h3 h4 h5
noncomputable def rd (ws ss:List Int) (ks:List Nat) (m:Nat):Int:=((wayN ks m).map (kp ws ss ks)).sum
theorem b1j:∀ (xs:List Int) (b:Int),b≤a1v b xs∧∀ x∈xs,x≤a1v b xs
 | [],b=>⟨Int.le_refl _,by simp⟩
 | x :: r,b=>by
  have:=b1j r (if b < x then x else b)
  show b≤a1v (if b < x then x else b) r∧_
  refine ⟨by have:=this.1; split at this <;> lia,fun y hy=>?_⟩
  show y≤a1v (if b < x then x else b) r
  rcases List.mem_cons.mp hy with rfl | hy
  ·have:=this.1; split at this <;> lia
  ·exact this.2 y hy
theorem b2r:∀ (xs:List Int) (b:Int),a1v b xs∈b :: xs
 | [],b=>by simp [a1v]
 | x :: r,b=>by
  have:=b2r r (if b < x then x else b)
  show a1v (if b < x then x else b) r∈_
  split at this <;> rename_i h
  ·rw [if_pos h]; exact Γh _ this
  ·rw [if_neg h]
   rcases List.mem_cons.mp this with h | h
   ·rw [h]; simp
   ·simp [h]
theorem b9o {xs:List Int} {i:Nat} (h:i < xs.length) (Q:FV→Prop):wp (atF (xs.map .int) (i:Int)) Q↔Q (.int (xs.getD i 0)) :=
 a5e rfl (by rw [List.getElem?_map,List.getElem?_eq_getElem h]; simp [List.getD,h])
theorem c2u {xs:List Int} (hl:xs.length≤1000) (h:∀ x∈xs,0≤x∧x < 2000000000) {Q:Int→Prop} (q:Q xs.sum):wp (c2v (xs.map .int)) Q:=by
 simp only [c2v,a1p,a3g,a4s]
 rw [a2q]
 refine ⟨⟨by simp only [big]; lia,?_⟩,q⟩
 rw [List.all_eq_true]
 intro x hx
 have:=h x hx
 simp only [a5k,decide_eq_true_eq]; lia
theorem b8b {xs:List Int} (h:Szs xs) {i:Nat} (hi:i < xs.length):1≤xs.getD i 0∧xs.getD i 0 < 2000000000:=by
 rw [List.getD,List.getElem?_eq_getElem hi]; exact h _ (List.getElem_mem hi)
noncomputable def a3z (ws ss:List Int):FV:=.tup [.tup (ws.map .int),.tup (ss.map .int)]
theorem a1l (ws ss:List Int) (Q:List FV→Prop):wp (a3o (a3z ws ss)) Q↔Q [.tup (ws.map .int),.tup (ss.map .int)]:=Iff.rfl
noncomputable def c3q (ks:List Nat):FV:=.tup (ks.map fun i:Nat=>.int i)
theorem b1p (d:Nat) {ws ss:List Int} {b e:Nat} (hs:Szs ss) (hl:ss.length≤30) (h:b≤e) (hb:b < ws.length) {i:Int} (hi:i=e + 1) {Q:FV×FV→Prop} (q:Q (.int (a0x ws ss b (e + 1)),.non)):callW tb (d + 1) 10 [a3z ws ss,.int b,.int i] Q:=by
 subst hi
 refine a0w (fd:=d8f) rfl rfl ?_
 simp [d8f,d3q,a1l]
 rw [b9o hb]
 simp
 rw [b9e _ h,← List.map_drop,← List.map_take]
 refine c2u (by simp; lia) ?_ ?_
 ·intro x hx
  have:=hs x (List.mem_of_mem_drop (List.mem_of_mem_take hx))
  lia
 ·simpa [a0x] using q
theorem c4f {xs:List Int} (hl:xs.length≤1000) (h:∀ x∈xs,0≤x∧x≤100000000000) {Q:Int→Prop} (q:Q xs.sum):wp (c2v (xs.map .int)) Q:=by
 simp only [c2v,a1p,a3g,a4s]
 rw [a2q]
 refine ⟨⟨by simp only [big]; lia,?_⟩,q⟩
 rw [List.all_eq_true]
 intro x hx
 have:=h x hx
 simp only [a5k,decide_eq_true_eq]; lia
theorem b5w:∀ {xs:List Int},(∀ x∈xs,0≤x∧x≤2000000000)→0≤xs.sum∧xs.sum≤2000000000 * xs.length
 | [],_=>by simp
 | x :: r,h=>by
  have:=b5w fun y hy=>h y (Γh _ hy)
  have:=h x (by simp)
  simp only [List.sum_cons,List.length_cons,Int.natCast_add]
  lia
noncomputable def nxt (n:Nat):List Nat→Nat
 | []=>n
 | k :: _=>k
noncomputable def vp (ok:Nat→Nat→Bool) (n:Nat):List Nat→Prop
 | []=>True
 | k :: r=>k < nxt n r∧ok k (nxt n r)=true∧vp ok n r
noncomputable def pc (c:Nat→Nat→Int) (n:Nat):List Nat→Int
 | []=>0
 | k :: r=>c k (nxt n r) + pc c n r
noncomputable def lxN:List Nat→List Nat→Bool
 | [],[]=>false
 | [],_ :: _=>true
 | _ :: _,[]=>false
 | a :: r,b :: q=>if a=b then lxN r q else decide (a < b)
abbrev PT:=Int×List Nat
noncomputable def ltP (x y:PT):Bool:=if x.1=y.1 then lxN x.2 y.2 else decide (x.1 < y.1)
theorem b1m:∀ a:List Nat,lxN a a=false
 | []=>rfl
 | a :: r=>by simp [lxN,b1m r]
theorem a9u:∀ {a b c:List Nat},lxN a b=true→lxN b c=true→lxN a c=true
 | [],[],_,h,_=>by cases h
 | [],b :: q,[],_,h=>by cases h
 | [],b :: q,c :: s,_,_=>rfl
 | a :: r,[],_,h,_=>by cases h
 | a :: r,b :: q,[],_,h=>by cases h
 | a :: r,b :: q,c :: s,h,g=>by
  simp only [lxN] at h g ⊢
  by_cases e1:a=b
  ·subst e1
   rw [if_pos rfl] at h
   by_cases e2:a=c
   ·subst e2; rw [if_pos rfl] at g ⊢; exact a9u h g
   ·rw [if_neg e2] at g ⊢; exact g
  ·rw [if_neg e1] at h
   have h:=of_decide_eq_true h
   by_cases e2:b=c
   ·subst e2; rw [if_neg e1]; exact decide_eq_true h
   ·rw [if_neg e2] at g
    have g:=of_decide_eq_true g
    rw [if_neg (by lia)]; exact decide_eq_true (by lia)
theorem b7f:∀ {a b:List Nat},lxN a b=false→lxN b a=false→a=b
 | [],[],_,_=>rfl
 | [],b :: q,h,_=>by cases h
 | a :: r,[],_,h=>by cases h
 | a :: r,b :: q,h,g=>by
  simp only [lxN] at h g
  by_cases e:a=b
  ·subst e
   rw [if_pos rfl] at h g
   rw [b7f h g]
  ·rw [if_neg e] at h
   rw [if_neg (Ne.symm e)] at g
   have h:=of_decide_eq_false h
   have g:=of_decide_eq_false g
   lia
theorem b1o (a:PT):ltP a a=false:=by simp [ltP,b1m]
theorem a9v {a b c:PT} (h:ltP a b=true) (g:ltP b c=true):ltP a c=true:=by
 simp only [ltP] at h g ⊢
 by_cases e1:a.1=b.1
 ·rw [if_pos e1] at h
  by_cases e2:b.1=c.1
  ·rw [if_pos e2] at g; rw [if_pos (e1.trans e2)]; exact a9u h g
  ·rw [if_neg e2] at g
   have g:=of_decide_eq_true g
   rw [if_neg (by lia)]; exact decide_eq_true (by lia)
 ·rw [if_neg e1] at h
  have h:=of_decide_eq_true h
  by_cases e2:b.1=c.1
  ·rw [if_neg (by lia)]; exact decide_eq_true (by lia)
  ·rw [if_neg e2] at g
   have g:=of_decide_eq_true g
   rw [if_neg (by lia)]; exact decide_eq_true (by lia)
theorem b1n {a b:PT} (h:ltP a b=false) (g:ltP b a=false):a=b:=by
 simp only [ltP] at h g
 by_cases e1:a.1=b.1
 ·rw [if_pos e1] at h; rw [if_pos e1.symm] at g
  exact Prod.ext e1 (b7f h g)
 ·rw [if_neg e1] at h; rw [if_neg (Ne.symm e1)] at g
  have h:=of_decide_eq_false h
  have g:=of_decide_eq_false g
  lia
theorem a5r {a b c:PT} (h:ltP b a=false) (g:ltP c b=false):ltP c a=false:=by
 cases e:ltP c a with
 | false=>rfl
 | true =>
  cases e2:ltP a b with
  | true=>rw [a9v e e2] at g; cases g
  | false=>rw [b1n e2 h,g] at e; cases e
theorem b7n {a b:PT} (h:ltP b a=false):a.1≤b.1:=by
 simp only [ltP] at h
 by_cases e:b.1=a.1
 ·lia
 ·rw [if_neg e] at h
  have:=of_decide_eq_false h
  lia
theorem b2x {c:Int} {i:Nat} {x y:PT}:ltP (c + x.1,i :: x.2) (c + y.1,i :: y.2)=ltP x y:=by
 simp only [ltP,lxN,if_true]
 by_cases e:x.1=y.1
 ·rw [if_pos e,if_pos (by lia)]
 ·rw [if_neg e,if_neg (by lia)]
  congr 1
  exact propext ⟨fun h=>by lia,fun h=>by lia⟩
theorem a8n {α:Type} (lt:α→α→Bool):∀ (xs:List α) (b:α),a0s lt b xs∈b :: xs
 | [],b=>by simp [a0s]
 | x :: r,b=>by
  have:=a8n lt r (if lt x b=true then x else b)
  show a0s lt (if lt x b=true then x else b) r∈_
  split at this <;> rename_i h
  ·rw [if_pos h]; exact Γh _ this
  ·rw [if_neg h]
   rcases List.mem_cons.mp this with e | e
   ·rw [e]; simp
   ·exact Γh _ (Γh _ e)
theorem a8m:∀ (xs:List PT) (b:PT),∀ x∈b :: xs,ltP x (a0s ltP b xs)=false
 | [],b,x,h=>by
  rcases List.mem_cons.mp h with rfl | h
  ·exact b1o _
  ·cases h
 | y :: r,b,x,h=>by
  show ltP x (a0s ltP (if ltP y b=true then y else b) r)=false
  have ih:=a8m r (if ltP y b=true then y else b)
  have h0:=ih _ Γn
  rcases List.mem_cons.mp h with rfl | h
  ·by_cases e:ltP y x=true
   ·rw [if_pos e] at h0 ⊢
    refine a5r h0 ?_
    cases e2:ltP x y with
    | false=>rfl
    | true=>have:=a9v e e2; rw [b1o] at this; cases this
   ·rw [if_neg e] at h0 ⊢; exact h0
  ·rcases List.mem_cons.mp h with rfl | h
   ·by_cases e:ltP x b=true
    ·rw [if_pos e] at h0 ⊢; exact h0
    ·rw [if_neg e] at h0 ⊢
     exact a5r h0 (by simpa using e)
   ·exact ih x (Γh _ h)
noncomputable def Bst (ok:Nat→Nat→Bool) (c:Nat→Nat→Int) (n i:Nat):Option PT→Prop
 | some p=>p.1=pc c n p.2∧nxt n p.2=i∧vp ok n p.2∧∀ ks,nxt n ks=i→vp ok n ks→ltP (pc c n ks,ks) p=false
 | none=>∀ ks,nxt n ks=i→¬ vp ok n ks
section
variable {ok ok':Nat→Nat→Bool} {c:Nat→Nat→Int} {n:Nat}
theorem Bst.uniq {i:Nat} {o o':Option PT} (h:Bst ok c n i o) (h':Bst ok c n i o'):o=o':=by
 cases o with
 | none =>
  cases o' with
  | none=>rfl
  | some p=>exact absurd h'.2.2.1 (h _ h'.2.1)
 | some p =>
  cases o' with
  | none=>exact absurd h.2.2.1 (h' _ h.2.1)
  | some q =>
   have a:=h.2.2.2 q.2 h'.2.1 h'.2.2.1
   have b:=h'.2.2.2 p.2 h.2.1 h.2.2.1
   rw [← h'.1] at a
   rw [← h.1] at b
   exact congrArg some (b1n b a)
theorem b1b:∀ {ks:List Nat},vp ok n ks→(∀ k∈ks,k < n)∧ks.Pairwise (· < ·)∧∀ k∈ks,nxt n ks≤k
 | [],_=>by simp
 | k :: r,h=>by
  obtain ⟨h1,h2,h3⟩:=h
  obtain ⟨a,b,d⟩:=b1b h3
  have hk:k < n:=by
   cases r with
   | nil=>exact h1
   | cons x q=>have:=a x (by simp); simp [nxt] at h1; lia
  refine ⟨fun x hx=>?_,List.pairwise_cons.mpr ⟨fun x hx=>?_,b⟩,fun x hx=>?_⟩
  ·rcases List.mem_cons.mp hx with rfl | hx
   ·exact hk
   ·exact a x hx
  ·have:=d x hx; lia
  ·show k≤x
   rcases List.mem_cons.mp hx with rfl | hx
   ·exact Γi _
   ·have:=d x hx; lia
theorem a9q {ks:List Nat} (h:vp ok n ks):nxt n ks≤n:=by
 cases ks with
 | nil=>exact Γi _
 | cons k r=>exact Nat.le_of_lt ((b1b h).1 k (by simp))
theorem b5n:∀ {ks:List Nat},vp ok n ks→ks.length + nxt n ks≤n
 | [],_=>by simp [nxt]
 | k :: r,⟨h1,_,h3⟩=>by
  have:=b5n h3
  show r.length + 1 + k≤n
  lia
theorem a8x:Bst ok c n n (some (0,[])):=by
 refine ⟨rfl,rfl,trivial,fun ks h1 h2=>?_⟩
 cases ks with
 | nil=>exact b1o _
 | cons k r=>have:=(b1b h2).1 k (by simp); simp [nxt] at h1; lia
theorem b3r {i:Nat} (hi:i < n) (h:∀ e,i < e→e≤n→ok i e=true→Bst ok c n e none):Bst ok c n i none:=by
 intro ks h1 h2
 cases ks with
 | nil=>simp [nxt] at h1; lia
 | cons k r =>
  cases (show k=i from h1)
  exact h _ h2.1 (a9q h2.2.2) h2.2.1 r rfl h2.2.2
theorem b3q {i:Nat} {B:Nat→Option PT} (hi:i < n) (hB:∀ e,i < e→e≤n→Bst ok c n e (B e)) {p:PT} (hp:∃ e,i < e∧e≤n∧ok i e=true∧∃ q,B e=some q∧p=(c i e + q.1,i :: q.2))
  (hl:∀ e q,i < e→e≤n→ok i e=true→B e=some q→ltP (c i e + q.1,i :: q.2) p=false):Bst ok c n i (some p):=by
 obtain ⟨e,h1,h2,h3,q,hq,rfl⟩:=hp
 have b:=hB e h1 h2
 rw [hq] at b
 obtain ⟨b1,b2,b3,b4⟩:=b
 refine ⟨?_,rfl,⟨by rw [b2]; exact h1,by rw [b2]; exact h3,b3⟩,fun ks k1 k2=>?_⟩
 ·show c i e + q.1=c i (nxt n q.2) + pc c n q.2
  rw [b2,b1]
 ·cases ks with
  | nil=>simp [nxt] at k1; lia
  | cons k r =>
   cases (show k=i from k1)
   obtain ⟨k3,k4,k5⟩:=k2
   have hn:=a9q k5
   have b':=hB (nxt n r) k3 hn
   cases e2:B (nxt n r) with
   | none=>rw [e2] at b'; exact absurd k5 (b' r rfl)
   | some q' =>
    rw [e2] at b'
    have l1:=hl _ q' k3 hn k4 e2
    have l2:=b'.2.2.2 r rfl k5
    refine a5r l1 ?_
    show ltP (c i (nxt n r) + (pc c n r,r).1,i :: (pc c n r,r).2) (c i (nxt n r) + q'.1,i :: q'.2)=false
    rw [b2x]; exact l2
theorem b9m {i:Nat} {o:Option PT} (hk:∀ a e,a < e→e≤n→ok a e=ok' a e) (h:Bst ok c n i o):Bst ok' c n i o:=by
 have hv:∀ ks,vp ok n ks↔vp ok' n ks:=by
  intro ks
  induction ks with
  | nil=>exact Iff.rfl
  | cons k r ih =>
   constructor
   ·exact fun ⟨a,b,d⟩=>⟨a,by rw [← hk _ _ a (a9q d)]; exact b,ih.mp d⟩
   ·exact fun ⟨a,b,d⟩=>⟨a,by rw [hk _ _ a (a9q d)]; exact b,ih.mpr d⟩
 cases o with
 | none=>exact fun ks h1 h2=>h ks h1 ((hv ks).mpr h2)
 | some p=>exact ⟨h.1,h.2.1,(hv _).mp h.2.2.1,fun ks h1 h2=>h.2.2.2 ks h1 ((hv ks).mpr h2)⟩
end
section
variable {ok:Nat→Nat→Bool} {c:Nat→Nat→Int} {n:Nat} {B:Nat→Option PT}
theorem c3w {i:Nat} (hi:i < n) (hB:∀ e,i < e→e≤n→Bst ok c n e (B e)):∃ o,Bst ok c n i o:=by
 obtain ⟨ps,hps⟩:∃ ps,ps=((List.range' (i + 1) (n - i)).filter fun e=>ok i e).filterMap fun e=>(B e).map fun q:PT=>(c i e + q.1,i :: q.2):=⟨_,rfl⟩
 have hin:∀ p,p∈ps↔∃ e,i < e∧e≤n∧ok i e=true∧∃ q,B e=some q∧p=(c i e + q.1,i :: q.2):=by
  intro p
  rw [hps,List.mem_filterMap]
  constructor
  ·rintro ⟨e,he,h2⟩
   obtain ⟨q,hq,rfl⟩:=Option.map_eq_some_iff.mp h2
   obtain ⟨h3,h4⟩:=List.mem_filter.mp he
   have:=List.mem_range'_1.mp h3
   exact ⟨e,by lia,by lia,h4,q,hq,rfl⟩
  ·rintro ⟨e,h1,h2,h3,q,hq,rfl⟩
   exact ⟨e,List.mem_filter.mpr ⟨List.mem_range'_1.mpr (by lia),h3⟩,by rw [hq]; rfl⟩
 cases ps with
 | nil =>
  refine ⟨none,b3r hi fun e h1 h2 h3=>?_⟩
  cases hBe:B e with
  | none=>have:=hB e h1 h2; rw [hBe] at this; exact this
  | some p=>exact absurd ((hin _).mpr ⟨e,h1,h2,h3,p,hBe,rfl⟩) (by simp)
 | cons p0 pr =>
  refine ⟨some (a0s ltP p0 pr),b3q hi hB ((hin _).mp (a8n ltP pr p0)) fun e q h1 h2 h3 h4=>?_⟩
  exact a8m pr p0 _ ((hin _).mpr ⟨e,h1,h2,h3,q,h4,rfl⟩)
theorem a8w {i:Nat} {p:PT} (hi:i < n) (hB:∀ e,i≤e→e≤n→Bst ok c n e (B e)) (hp:B i=some p):∃ r,p.2=i :: r∧i < nxt n r∧nxt n r≤n∧ok i (nxt n r)=true∧B (nxt n r)=some (pc c n r,r)∧p.1=c i (nxt n r) + pc c n r:=by
 have b:=hB i (Γi _) (by lia)
 rw [hp] at b
 obtain ⟨b1,b2,b3,b4⟩:=b
 obtain ⟨t,ks⟩:=p
 cases ks with
 | nil=>have:n=i:=b2; lia
 | cons k r =>
  cases (show k=i from b2)
  obtain ⟨v1,v2,v3⟩:=b3
  have hn:=a9q v3
  refine ⟨r,rfl,v1,hn,v2,?_,b1⟩
  have b':=hB (nxt n r) (by lia) hn
  cases e2:B (nxt n r) with
  | none=>rw [e2] at b'; exact absurd v3 (b' r rfl)
  | some q =>
   rw [e2] at b'
   obtain ⟨d1,d2,d3,d4⟩:=b'
   have l1:=d4 r rfl v3
   have l2:=b4 (i :: q.2) rfl ⟨by rw [d2]; exact v1,by rw [d2]; exact v2,d3⟩
   have e3:(pc c n (i :: q.2),i :: q.2)=(c i (nxt n r) + q.1,i :: q.2):=by show (c i (nxt n q.2) + pc c n q.2,_)=_; rw [d2,d1]
   have e4:((t,i :: r):PT)=(c i (nxt n r) + (pc c n r,r).1,i :: (pc c n r,r).2):=by rw [show t=pc c n (i :: r) from b1]; rfl
   rw [e3,e4,b2x] at l2
   exact congrArg some (b1n l2 l1)
theorem b9l {i e:Nat} {p q:PT} (hB:∀ e,i≤e→e≤n→Bst ok c n e (B e)) (hp:B i=some p) (h1:i < e) (h2:e≤n) (h3:ok i e=true) (hq:B e=some q):ltP (c i e + q.1,i :: q.2) p=false:=by
 have b:=hB i (Γi _) (by lia)
 rw [hp] at b
 have b':=hB e (by lia) h2
 rw [hq] at b'
 obtain ⟨d1,d2,d3,_⟩:=b'
 have l:=b.2.2.2 (i :: q.2) rfl ⟨by rw [d2]; exact h1,by rw [d2]; exact h3,d3⟩
 have e3:(pc c n (i :: q.2),i :: q.2)=(c i e + q.1,i :: q.2):=by show (c i (nxt n q.2) + pc c n q.2,_)=_; rw [d2,d1]
 rw [e3] at l; exact l
theorem c2k {i:Nat} {p:PT} (hi:i < n) (hB:∀ e,i≤e→e≤n→Bst ok c n e (B e)) (hp:B i=some p) {r:List Nat} (hr:p.2=i :: r) :
  (∀ e q,i < e→e≤n→ok i e=true→B e=some q→c i e + q.1=p.1→(e=n→nxt n r=n)∧(nxt n r≠n→nxt n r≤e)):=by
 intro e q h1 h2 h3 hq he
 have l:=b9l hB hp h1 h2 h3 hq
 obtain ⟨t,ks⟩:=p
 cases (show ks=i :: r from hr)
 have he:c i e + q.1=t:=he
 have l2:lxN q.2 r=false:=by simpa [ltP,he,lxN] using l
 clear l
 have b':=hB e (by lia) h2
 rw [hq] at b'
 obtain ⟨d1,d2,d3,_⟩:=b'
 constructor
 ·intro hen
  have hq2:q.2=[]:=by
   cases hq2:q.2 with
   | nil=>rfl
   | cons k s =>
    rw [hq2] at d2 d3
    have:=(b1b d3).1 k (by simp)
    have:k=e:=d2
    lia
  rw [hq2] at l2
  cases r with
  | nil=>rfl
  | cons k s=>cases l2
 ·intro hn
  cases r with
  | nil=>exact absurd rfl hn
  | cons k s =>
   cases hq2:q.2 with
   | nil=>rw [hq2] at l2; cases l2
   | cons k' s' =>
    rw [hq2] at l2 d2
    have hk:k'=e:=d2
    subst hk
    show k≤k'
    have l2:(if k'=k then lxN s' s else decide (k' < k))=false:=l2
    by_cases z:k'=k
    ·lia
    ·rw [if_neg z] at l2
     have:=of_decide_eq_false l2
     lia
end
theorem b6w (c:Nat→Nat→Int) (n:Nat):∀ ks:List Nat,pc c n ks=((a3l ks n).map fun p=>c p.1 p.2).sum
 | []=>rfl
 | [k]=>rfl
 | k :: k2 :: r=>by
  have e:a3l (k :: k2 :: r) n=(k,k2) :: a3l (k2 :: r) n:=by simp [a3l]
  show c k k2 + pc c n (k2 :: r)=_
  rw [b6w c n (k2 :: r),e]; rfl
theorem b5m (ok:Nat→Nat→Bool) (n:Nat):∀ ks:List Nat,vp ok n ks↔∀ p∈a3l ks n,p.1 < p.2∧ok p.1 p.2=true
 | []=>by simp [vp,a3l]
 | [k]=>by simp [vp,a3l,nxt]
 | k :: k2 :: r=>by
  have e:a3l (k :: k2 :: r) n=(k,k2) :: a3l (k2 :: r) n:=by simp [a3l]
  rw [e]
  have ih:=b5m ok n (k2 :: r)
  constructor
  ·rintro ⟨h1,h2,h3⟩ p hp
   rcases List.mem_cons.mp hp with rfl | hp
   ·exact ⟨h1,h2⟩
   ·exact ih.mp h3 p hp
  ·intro h
   have h0:=h (k,k2) (by simp)
   exact ⟨h0.1,h0.2,ih.mpr fun p hp=>h p (Γh _ hp)⟩
noncomputable def AK:Nat→List (List Nat)
 | 0=>[[0]]
 | m + 1=>AK m++(AK m).map fun ks=>ks++[m + 1]
theorem b9u:∀ m,(AK m).length=2 ^ m
 | 0=>rfl
 | m + 1=>by simp [AK,b9u m]; lia
theorem b2a:∀ m,∀ ks∈AK m,(∃ r,ks=0 :: r)∧ks.Pairwise (· < ·)∧(∀ k∈ks,k≤m)∧ks.length≤m + 1
 | 0,ks,h=>by simp [AK] at h; subst h; simp
 | m + 1,ks,h=>by
  rcases List.mem_append.mp h with h | h
  ·obtain ⟨a,b,c,d⟩:=b2a m ks h
   exact ⟨a,b,fun k hk=>Nat.le_succ_of_le (c k hk),by lia⟩
  ·obtain ⟨ks',h',rfl⟩:=List.mem_map.mp h
   obtain ⟨⟨r,rfl⟩,b,c,d⟩:=b2a m ks' h'
   refine ⟨⟨r++[m + 1],rfl⟩,?_,fun k hk=>?_,by simp at d ⊢; lia⟩
   ·rw [List.pairwise_append]
    exact ⟨b,by simp,fun x hx y hy=>by simp at hy; have:=c x hx; lia⟩
   ·rcases List.mem_append.mp hk with hk | hk
    ·exact Nat.le_succ_of_le (c k hk)
    ·simp at hk; lia
theorem b9v:∀ (m:Nat) (r:List Nat),(0 :: r).Pairwise (· < ·)→(∀ k∈r,k≤m)→(0 :: r)∈AK m
 | 0,r,h,hk=>by
  cases r with
  | nil=>simp [AK]
  | cons k s=>have:=(List.pairwise_cons.mp h).1 k (by simp); have:=hk k (by simp); lia
 | m + 1,r,h,hk=>by
  by_cases hm:m + 1∈r
  ·obtain ⟨s,t,rfl⟩:=List.append_of_mem hm
   have ht:t=[]:=by
    cases t with
    | nil=>rfl
    | cons y t =>
     have h1:=(List.pairwise_cons.mp h).2
     have h2:=(List.pairwise_append.mp h1).2.1
     have:=(List.pairwise_cons.mp h2).1 y (by simp)
     have:=hk y (by simp)
     lia
   subst ht
   have h1:=(List.pairwise_cons.mp h)
   have h2:=List.pairwise_append.mp h1.2
   refine List.mem_append_right _ (List.mem_map.mpr ⟨0 :: s,b9v m s ?_ fun k hk'=>?_,rfl⟩)
   ·exact List.pairwise_cons.mpr ⟨fun x hx=>h1.1 x (List.mem_append_left _ hx),h2.1⟩
   ·have:=h2.2.2 k hk' (m + 1) (by simp); lia
  ·refine List.mem_append_left _ (b9v m r h fun k hk'=>?_)
   have:=hk k hk'
   have:k≠m + 1:=fun z=>hm (z ▸ hk')
   lia
theorem a7i (ok:Nat→Nat→Bool) (c:Nat→Nat→Int) (n:Nat):∀ t,t≤n→∃ B:Nat→Option PT,∀ e,n - t≤e→e≤n→Bst ok c n e (B e)
 | 0,_=>⟨fun _=>some (0,[]),fun e h1 h2=>by
  have:e=n:=by lia
  subst this; exact a8x⟩
 | t + 1,ht=>by
  obtain ⟨B,hB⟩:=a7i ok c n t (by lia)
  obtain ⟨o,ho⟩:=c3w (ok:=ok) (c:=c) (n:=n) (i:=n - (t + 1)) (B:=B) (by lia) fun e h1 h2=>hB e (by lia) h2
  refine ⟨fun e=>if e=n - (t + 1) then o else B e,fun e h1 h2=>?_⟩
  by_cases z:e=n - (t + 1)
  ·simp only [z,if_true]; exact ho
  ·simp only [z,if_false]; exact hB e (by lia) h2
theorem c2j (ok:Nat→Nat→Bool) (c:Nat→Nat→Int) (n:Nat):∃ o,Bst ok c n 0 o:=by
 obtain ⟨B,hB⟩:=a7i ok c n n (Γi _)
 exact ⟨B 0,hB 0 (by lia) (Nat.zero_le _)⟩
structure Rwo (ws ss:List Int):Prop where
 hw:Szs ws
 hs:Szs ss
 hl:ss.length + 1=ws.length
 hn:ws.length≤30
theorem c4h {ws ss:List Int} (h:Rwo ws ss) {b e:Nat} (hb:b < ws.length):1≤a0x ws ss b e∧a0x ws ss b e≤100000000000:=by
 have h1:=b5w (xs:=(ss.drop b).take (e - 1 - b)) fun x hx=>by
  have:=h.hs x (List.mem_of_mem_drop (List.mem_of_mem_take hx))
  lia
 have h2:=b8b h.hw hb
 have h3:((ss.drop b).take (e - 1 - b)).length≤ss.length:=by simp; lia
 have:=h.hl
 have:=h.hn
 unfold a0x
 lia
theorem c4i (d:Nat) {ws ss:List Int} (h:Rwo ws ss) {b e:Nat} (hb:b < ws.length) (he:b < e) {i:Int} (hi:i=e) {Q:FV×FV→Prop} (q:Q (.int (a0x ws ss b e),.non)):callW tb (d + 1) 0 [a3z ws ss,.int b,.int i] Q:=by
 subst hi
 have hn:=h.hn
 have hl:=h.hl
 refine a0w (fd:=fd0) rfl rfl ?_
 simp [fd0,bd0,a3z]
 rw [b9o hb]
 have e1:(e:Int) - 1=((e - 1:Nat):Int):=by lia
 simp
 rw [e1,b9e _ (show b≤e - 1 by lia),← List.map_drop,← List.map_take]
 refine c2u (by simp; lia) ?_ ?_
 ·intro x hx
  have:=h.hs x (List.mem_of_mem_drop (List.mem_of_mem_take hx))
  lia
 ·simpa [a0x] using q
noncomputable def b4u (p:PT):FV:=.tup [.int p.1,.tup (p.2.map fun i:Nat=>.int i)]
noncomputable def d1c:Option PT→FV
 | none=>.non
 | some p=>b4u p
theorem c6b (n:Nat) (hn:1 < n) (ks:List Nat):fD n (.tup (ks.map fun i:Nat=>.int i))=some (.tup (ks.map fun i:Nat=>.int i)):=by
 obtain ⟨m,rfl⟩:∃ m,n=m + 2:=⟨n - 2,by lia⟩
 have:a4i (fD (m + 1)) (ks.map fun i:Nat=>FV.int i)=some (ks.map fun i:Nat=>D.int i):=by
  induction ks with
  | nil=>rfl
  | cons k r ih =>
   show ((some (D.int k)).bind fun y=>(a4i (fD (m + 1)) (r.map fun i:Nat=>FV.int i)).map (y :: ·))=_
   rw [ih]; rfl
 show (a4i (fD (m + 1)) (ks.map fun i:Nat=>FV.int i)).map D.tup=_
 rw [this]; rfl
theorem b0h:∀ a b:List Nat,D.eqvs (a.map fun i:Nat=>.int i) (b.map fun i:Nat=>.int i)=decide (a=b)
 | [],[]=>by simp [D.eqvs]
 | [],b :: q=>by simp [D.eqvs]
 | a :: r,[]=>by simp [D.eqvs]
 | a :: r,b :: q=>by
  simp only [List.map_cons,D.eqvs,D.eqv,b0h r q]
  by_cases h:a=b
  ·subst h; simp
  ·have:¬ (a:Int)=(b:Int):=by lia
   simp [h,this]
theorem a9w:∀ a b:List Nat,b9w (a.map fun i:Nat=>.int i) (b.map fun i:Nat=>.int i)=some (lxN a b)
 | [],[]=>by simp [b9w,lxN]
 | [],b :: q=>by simp [b9w,lxN]
 | a :: r,[]=>by simp [b9w,lxN]
 | a :: r,b :: q=>by
  simp only [List.map_cons,b9w,D.eqv,lxN,ltD,a9w r q]
  by_cases h:a=b
  ·subst h; simp
  ·have:¬ (a:Int)=(b:Int):=by lia
   simp [h,this]
noncomputable def b8i (p:PT):D:=.tup [.int p.1,.tup (p.2.map fun i:Nat=>.int i)]
theorem c6i (p:PT):fD a0j (b4u p)=some (b8i p):=by
 have:=c6b 39 (by decide) p.2
 show ((some (D.int p.1)).bind fun y=>((fD 39 (FV.tup (p.2.map fun i:Nat=>.int i))).bind fun z=>(some []).map (z :: ·)).map (y :: ·)).map D.tup=_
 rw [this]; rfl
theorem c6h (a b:PT):ltD (b8i a) (b8i b)=some (ltP a b):=by
 simp only [b8i,ltD,b9w,D.eqv,b0h,a9w,ltP]
 by_cases e:a.1=b.1
 ·rw [if_pos e,if_pos (by simpa using e)]
  by_cases e2:a.2=b.2
  ·rw [e2,if_pos (by simp),b1m]
  ·rw [if_neg (by simpa using e2)]
 ·rw [if_neg e,if_neg (by simpa using e)]
theorem minP (p:PT) (r:List PT) (Q:FV→Prop):wp (b4i (.lst ((p :: r).map b4u))) Q↔Q (b4u (a0s ltP p r)):=c5n b4u b8i ltP c6i c6h (fun a ps z=>nomatch z) p r Q
theorem b5f {κ α:Type} [DecidableEq κ] {k:κ} {v:α}:∀ (r:List κ) (q:List α),r.length=q.length→k ∉ r→List.zipWith (fun k' v'=>if k'=k then v else v') r q=q
 | [],[],_,_=>rfl
 | [],a :: b,h,_=>by simp at h
 | a :: b,[],h,_=>by simp at h
 | a :: b,a' :: b',h,hr=>by
  have h1:¬ a=k:=fun z=>hr (by simp [z])
  rw [List.zipWith_cons_cons,if_neg h1,b5f b b' (by simpa using h) fun z=>hr (Γh _ z)]
theorem c1r {κ α:Type} [DecidableEq κ]:∀ {ks:List κ} {vs:List α} (k:κ) (v:α) (j:κ),ks.length=vs.length→a1x (a3q ks vs k v).1 (a3q ks vs k v).2 j=if j=k then some v else a1x ks vs j:=by
 have go1:∀ {ks:List κ} {vs:List α} (k:κ) (v:α) (j:κ),ks.length=vs.length→k∈ks→a1x ks (List.zipWith (fun k' v'=>if k'=k then v else v') ks vs) j=if j=k then some v else a1x ks vs j:=by
  intro ks
  induction ks with
  | nil=>intro vs k v j _ h; simp at h
  | cons x r ih =>
   intro vs k v j hl hk
   cases vs with
   | nil=>simp at hl
   | cons y q =>
    simp only [List.zipWith_cons_cons,a1x]
    by_cases e:x=j
    ·subst e
     by_cases e2:x=k
     ·subst e2; simp
     ·simp [e2]
    ·rw [if_neg e,if_neg e]
     by_cases hr:k∈r
     ·exact ih k v j (by simpa using hl) hr
     ·have hx:k=x:=by simpa [hr] using hk
      subst hx
      have:=b5f (k:=k) (v:=v) r q (by simpa using hl) hr
      rw [this,if_neg (Ne.symm e)]
 have go2:∀ {ks:List κ} {vs:List α} (k:κ) (v:α) (j:κ),ks.length=vs.length→k ∉ ks→a1x (ks++[k]) (vs++[v]) j=if j=k then some v else a1x ks vs j:=by
  intro ks
  induction ks with
  | nil =>
   intro vs k v j hl _
   have:vs=[]:=by cases vs with | nil=>rfl | cons=>simp at hl
   subst this
   simp only [List.nil_append,a1x]
   by_cases e:k=j
   ·subst e; simp
   ·simp [e,Ne.symm e]
  | cons x r ih =>
   intro vs k v j hl hk
   cases vs with
   | nil=>simp at hl
   | cons y q =>
    simp only [List.cons_append,a1x]
    by_cases e:x=j
    ·subst e
     have:¬ x=k:=fun z=>hk (by simp [z])
     simp [this]
    ·rw [if_neg e,if_neg e]
     exact ih k v j (by simpa using hl) fun z=>hk (Γh _ z)
 intro ks vs k v j hl
 unfold a3q
 by_cases e:k∈ks
 ·rw [if_pos e]; exact go1 k v j hl e
 ·rw [if_neg e]; exact go2 k v j hl e
theorem c1h (d:Nat) {ws ss:List Int} (h:Rwo ws ss) {es:List Nat} (he:es.length=ws.length) (hb:∀ e∈es,e≤ws.length) {Q:FV×FV→Prop} (q:∀ o,Bst (fun i e=>decide (e≤es.getD i 0)) (a0x ws ss) ws.length 0 o→Q (d1c o,.non)) :
  callW tb (d + 2) 2 [a3z ws ss,.lst (es.map fun i:Nat=>.int i)] Q:=by
 have hn:=h.hn
 have hl:=h.hl
 refine a0w (fd:=fd2) rfl rfl ?_
 simp [fd2,bd2,a1l,big]
 refine ⟨a0n (by lia) (by lia),?_⟩
 rw [a8s]
 refine a5i (f:=fun i:Nat=>FV.int i) (I:=fun ds L=>∃ (ks:List Int) (vs:List FV) (B:Nat→Option PT) (i:Nat) (a b c e f:Option FV),L=[some (a3z ws ss),some (.lst (es.map fun i:Nat=>.int i)),some (.int ws.length),some (.dci ks vs),a,b,c,e,f]∧i + ds.length=ws.length∧ks.length=vs.length∧ks.length≤ds.length + 1 ∧
   (∀ j:Nat,j≤ws.length→a1x ks vs (j:Int)=if i≤j then (B j).map b4u else none)∧∀ j,i≤j→j≤ws.length→Bst (fun i e=>decide (e≤es.getD i 0)) (a0x ws ss) ws.length j (B j)) (List.range ws.length).reverse (List.range ws.length).reverse [] _ rfl ?_ ?_ ?_
 ·refine ⟨_,_,fun j=>if j=ws.length then some (0,[]) else none,ws.length,_,_,_,_,_,rfl,rfl,rfl,by simp,fun j hj=>?_,fun j h1 h2=>?_⟩
  ·by_cases e:j=ws.length
   ·subst e; simp [a1x,b4u]
   ·have:¬ (ws.length:Int)=(j:Int):=by lia
    rw [if_neg (by lia)]
    simp [a1x,this]
  ·have:j=ws.length:=by lia
   subst this
   simp only [if_true]
   exact a8x
 ·rintro ds x r L K e ⟨ks,vs,B,i,a,b,c,e1,f1,rfl,hi,hkl,hks,hg,hB⟩ k
  have hx:x + 1=i:=by
   have e2:=congrArg (fun l=>l[ds.length]?) e
   have hd:ds.length < ws.length:=by have:=congrArg List.length e; simp at this; lia
   simp [List.getElem?_reverse,hd] at e2
   lia
  subst hx
  have hxn:x < ws.length:=by lia
  have hd:ds.length < 30:=by lia
  obtain ⟨E,hE⟩:∃ E,es.getD x 0=E:=⟨_,rfl⟩
  have hex:es[x]?=some E:=by rw [← hE,List.getD,List.getElem?_eq_getElem (by lia)]; rfl
  have hel:E≤ws.length:=hb _ (List.mem_of_getElem? hex)
  simp
  rw [a5e (n:=x) rfl (show (es.map fun i:Nat=>FV.int i)[x]?=some (.int E) by rw [List.getElem?_map,hex]; rfl)]
  simp
  refine ⟨⟨a0n (by lia) (by lia),a0n (by lia) (by lia)⟩,?_⟩
  have hg1:∀ j:Nat,x < j→j≤ws.length→a1x ks vs (j:Int)=(B j).map b4u:=fun j h1 h2=>by rw [hg j h2,if_pos (show x + 1≤j from h1)]
  rw [show ((x:Int) + 1)=((x + 1:Nat):Int) by lia]
  refine a2o (I:=fun j L=>∃ c e f,L=[some (a3z ws ss),some (.lst (es.map fun i:Nat=>.int i)),some (.int ws.length),some (.dci ks vs),some (.int x),some (.lst (((List.range' (x + 1) (j - (x + 1))).filterMap fun e=>(B e).map fun q:PT=>(a0x ws ss x e + q.1,x :: q.2)).map b4u)),c,e,f]) _ (x + 1) _ ⟨c,e1,f1,by simp⟩ ?_ ?_
  ·rintro j L K2 hj1 hj2 ⟨c,e,f,rfl⟩ k2
   have hjn:j≤ws.length:=by lia
   have hr:List.range' (x + 1) (j + 1 - (x + 1))=List.range' (x + 1) (j - (x + 1))++[j]:=by
    rw [show j + 1 - (x + 1)=(j - (x + 1)) + 1 by lia,List.range'_concat]
    congr 2; lia
   have hlen:((List.range' (x + 1) (j - (x + 1))).filterMap fun e=>(B e).map fun q:PT=>(a0x ws ss x e + q.1,x :: q.2)).length≤30:=by
    refine Nat.le_trans (List.length_filterMap_le _ _) ?_
    simp; lia
   simp
   have hmem:((j:Int)∈ks)↔(B j).isSome=true:=by
    rw [← a2b (vs:=vs) (j:Int) hkl,hg1 j (by lia) hjn]
    cases B j <;> simp
   cases hBj:B j with
   | none =>
    rw [hBj] at hmem
    rw [if_neg (by simpa using hmem)]
    refine k2 _ ?_
    rw [hr,List.filterMap_append,show [j].filterMap (fun e=>(B e).map fun q:PT=>(a0x ws ss x e + q.1,x :: q.2))=[] by simp [hBj],List.append_nil]
    exact ⟨_,_,_,rfl⟩
   | some p =>
    rw [hBj] at hmem
    rw [if_pos (by simpa using hmem)]
    have hgj:=hg1 j (by lia) hjn
    rw [hBj] at hgj
    rw [hgj]
    simp [b4u]
    have hpl:p.2.length≤30:=by
     have b1:=hB j (by lia) hjn
     rw [hBj] at b1
     have b2:=b5n b1.2.2.1
     lia
    refine c4i d h hxn (by lia) rfl ?_
    simp [big]
    refine ⟨by lia,by lia,?_⟩
    refine k2 _ ?_
    rw [hr,List.filterMap_append,show [j].filterMap (fun e=>(B e).map fun q:PT=>(a0x ws ss x e + q.1,x :: q.2))=[(a0x ws ss x j + p.1,x :: p.2)] by simp [hBj],List.map_append]
    exact ⟨_,_,_,rfl⟩
  ·rintro L ⟨c,e,f,rfl⟩
   rw [show x + 1 + ((E:Int) + 1 - ((x + 1:Nat):Int)).toNat - (x + 1)=E - x by lia]
   generalize hps:((List.range' (x + 1) (E - x)).filterMap fun e=>(B e).map fun q:PT=>(a0x ws ss x e + q.1,x :: q.2))=ps
   have hin:∀ p,p∈ps↔∃ e,x < e∧e≤E∧∃ q,B e=some q∧p=(a0x ws ss x e + q.1,x :: q.2):=by
    intro p
    rw [← hps,List.mem_filterMap]
    constructor
    ·rintro ⟨e,he,h2⟩
     obtain ⟨q,hq,rfl⟩:=Option.map_eq_some_iff.mp h2
     have:=List.mem_range'_1.mp he
     exact ⟨e,by lia,by lia,q,hq,rfl⟩
    ·rintro ⟨e,h1,h2,q,hq,rfl⟩
     exact ⟨e,List.mem_range'_1.mpr (by lia),by rw [hq]; rfl⟩
   simp
   cases ps with
   | nil =>
    simp
    refine k _ ⟨ks,vs,fun j=>if j=x then none else B j,x,_,_,_,_,_,rfl,by simp; lia,hkl,by simp; lia,fun j hj=>?_,fun j h1 h2=>?_⟩
    ·rw [hg j hj]
     by_cases e:j=x
     ·subst e; rw [if_neg (by lia)]; simp
     ·by_cases e2:x≤j
      ·rw [if_pos e2,if_pos (by lia)]; simp [e]
      ·rw [if_neg e2,if_neg (by lia)]
    ·by_cases e:j=x
     ·subst e
      simp only [if_true]
      refine b3r hxn fun e h3 h4 h5=>?_
      have h5:e≤E:=by rw [← hE]; exact of_decide_eq_true h5
      cases hBe:B e with
      | none=>have:=hB e (by lia) h4; rw [hBe] at this; exact this
      | some p=>exact absurd ((hin _).mpr ⟨e,h3,h5,p,hBe,rfl⟩) (by simp)
     ·simp only [e,if_false]
      exact hB j (by lia) h2
   | cons p0 pr =>
    simp only [List.map_cons,List.isEmpty_cons,Bool.not_false,if_true]
    rw [← List.map_cons,minP]
    simp [big]
    refine ⟨by lia,?_⟩
    have pl:=a7w ks vs (x:Int) (b4u (a0s ltP p0 pr)) hkl
    refine k _ ⟨_,_,fun j=>if j=x then some (a0s ltP p0 pr) else B j,x,_,_,_,_,_,rfl,by simp; lia,pl.1,by simp; lia,fun j hj=>?_,fun j h1 h2=>?_⟩
    ·rw [c1r _ _ _ hkl,hg j hj]
     by_cases e:j=x
     ·subst e; simp
     ·have:¬ (j:Int)=(x:Int):=by lia
      rw [if_neg this]
      by_cases e2:x≤j
      ·rw [if_pos e2,if_pos (by lia)]; simp [e]
      ·rw [if_neg e2,if_neg (by lia)]
    ·by_cases e:j=x
     ·subst e
      simp only [if_true]
      have hm:=(hin _).mp (a8n ltP pr p0)
      obtain ⟨e,h3,h4,q0,h5,h6⟩:=hm
      refine b3q (B:=B) hxn (fun e h1 h2=>hB e (by lia) h2) ⟨e,h3,by lia,decide_eq_true (by rw [hE]; exact h4),q0,h5,h6⟩ fun e' q' h7 h8 h9 h10=>?_
      exact a8m pr p0 _ ((hin _).mpr ⟨e',h7,by rw [← hE]; exact of_decide_eq_true h9,q',h10,rfl⟩)
     ·simp only [e,if_false]
      exact hB j (by lia) h2
 ·rintro L ⟨ks,vs,B,i,a,b,c,e,f,rfl,hi,hkl,hks,hg,hB⟩
  have hi0:i=0:=by simp at hi; lia
  subst hi0
  simp
  have h0:=hg 0 (by lia)
  simp at h0
  rw [h0]
  have:=q (B 0) (hB 0 (Γi _) (by lia))
  cases hb0:B 0 with
  | none=>rw [hb0] at this; exact this
  | some p=>rw [hb0] at this; exact this
noncomputable def a5x:Option Int→FV
 | none=>.non
 | some i=>.int i
noncomputable def leO (x:Int):Option Int→Bool
 | none=>true
 | some m=>decide (x≤m)
noncomputable def okM (ws ss:List Int) (md mr:Option Int) (b e:Nat):Bool:=leO ((e:Int) - b - 1) md && leO (a0x ws ss b e) mr
noncomputable def c1x (md mr:Option Int):FV:=.tup [a5x md,a5x mr]
theorem c1w (md mr:Option Int) (Q:List FV→Prop):wp (a3o (c1x md mr)) Q↔Q [a5x md,a5x mr]:=Iff.rfl
theorem a8f (d:Nat) {ws ss:List Int} (h:Rwo ws ss) {b e:Nat} (hb:b < ws.length) (he:b < e) {i:Int} (hi:i=e) {Q:FV×FV→Prop} (q:Q (.int (a0x ws ss b e),.non)):callW tb (d + 1) 10 [a3z ws ss,.int b,.int i] Q:=by
 have hn:=h.hn
 have hl:=h.hl
 have e1:e=(e - 1) + 1:=by lia
 rw [e1] at q
 exact b1p d h.hs (by lia) (show b≤e - 1 by lia) hb (by lia) q
theorem c9y (d:Nat) {ws ss:List Int} (h:Rwo ws ss) {md mr:Option Int} {b e:Nat} (hb:b < ws.length) (he:b < e) {Q:FV×FV→Prop} (q:Q (.bl (okM ws ss md mr b e),.non)):callW tb (d + 2) 11 [a3z ws ss,.int b,.int e,c1x md mr] Q:=by
 refine a0w (fd:=d8e) rfl rfl ?_
 simp [d8e,d9j,c1w]
 have fin:okM ws ss md mr b e=leO (a0x ws ss b e) mr→wp (a1i (a5x mr)) fun z=>wp (b3y z) fun r=>if r=true then Q (z,FV.non) else callW tb (d + 1) 10 [a3z ws ss,FV.int b,FV.int e] fun z=>wp (leB z.fst (a5x mr)) fun z=>Q (z,FV.non):=by
  intro e1
  cases mr with
  | none=>simp [a5x]; simpa [e1,leO] using q
  | some m =>
   simp [a5x]
   refine a8f d h hb he rfl ?_
   simp
   simpa [e1,leO] using q
 cases md with
 | none =>
  simp [a5x]
  exact fin (by simp [okM,leO])
 | some m =>
  simp [a5x]
  refine ite2 (fun hm=>?_) (fun hm=>?_)
  ·have:okM ws ss (some m) mr b e=false:=by simp only [okM,Bool.and_eq_false_iff]; left; simpa [leO] using hm
   rw [this] at q; exact q
  ·refine fin ?_
   simp only [okM]
   rw [show leO ((e:Int) - b - 1) (some m)=true from decide_eq_true (by lia),Bool.true_and]
noncomputable def a3v (R:Nat→Option Int) (n:Nat):List FV:=(List.range (n + 1)).map fun j=>a5x (R j)
theorem a3i {R:Nat→Option Int} {n j:Nat} (h:j≤n) {i:Int} (hi:i=j) (Q:FV→Prop):wp (atF (a3v R n) i) Q↔Q (a5x (R j)):=a5e hi (by simp [a3v,show j < n + 1 by lia])
noncomputable def a2r (ws ss:List Int) (md mr:Option Int) (R:Nat→Option Int) (b:Nat):List Nat:=((List.range' (b + 1) (ws.length - b)).filter fun e=>(R e).isSome).filter fun e=>okM ws ss md mr b e
theorem c3z {b n:Nat} (h:b < n) {i j:Int} (hi:i=((b + 1:Nat):Int)) (hj:j=(n:Int) + 1):upF i (j - i).toNat=(List.range' (b + 1) (n - b)).map fun i:Nat=>FV.int i:=by
 subst hi hj
 rw [show ((n:Int) + 1 - ((b + 1:Nat):Int)).toNat=n - b by lia]; exact b5o _ _
theorem b8h (d:Nat) {ws ss:List Int} (h:Rwo ws ss) {md mr:Option Int} {R:Nat→Option Int} {b:Nat} (hb:b < ws.length) {Q:FV×FV→Prop} (q:Q (.lst ((a2r ws ss md mr R b).map fun i:Nat=>.int i),.non)):callW tb (d + 3) 12 [a3z ws ss,.lst (a3v R ws.length),.int b,c1x md mr] Q:=by
 have hn:=h.hn
 refine a0w (fd:=d8d) rfl rfl ?_
 simp [d8d,d9i,a1l]
 refine ⟨⟨a0n (by lia) (by lia),a0n (by lia) (by lia)⟩,?_⟩
 rw [c3z hb (by lia) rfl]
 refine ⟨by simp [big]; lia,?_⟩
 refine a1j (f:=fun i:Nat=>FV.int i) (g:=fun i:Nat=>FV.int i) (p:=fun e=>(R e).isSome) _ [] (fun e he K N k1 k2=>?_) ?_
 ·have he:=List.mem_range'_1.mp he
  simp
  rw [a3i (show e≤ws.length by lia) rfl]
  cases hR:R e with
  | none=>rw [hR] at k2; simp [a5x]; exact k2 rfl
  | some t=>rw [hR] at k1; simp [a5x]; exact k1 rfl
 ·simp
  refine ⟨?_,?_⟩
  ·have:=List.length_filter_le (fun e=>(R e).isSome) (List.range' (b + 1) (ws.length - b))
   simp at this
   simp [big]; lia
  refine a1j (f:=fun i:Nat=>FV.int i) (g:=fun i:Nat=>FV.int i) (p:=fun e=>okM ws ss md mr b e) _ [] (fun e he K N k1 k2=>?_) ?_
  ·have he:=List.mem_range'_1.mp (List.mem_filter.mp he).1
   simp
   refine c9y d h hb (by lia) ?_
   simp
   cases ho:okM ws ss md mr b e with
   | true=>simp; exact k1 ho
   | false=>simp; exact k2 ho
  ·simp
   simpa [a2r] using q
theorem a4n {ws ss:List Int} {md mr:Option Int} {R:Nat→Option Int} {b e:Nat} (hb:b < ws.length):e∈a2r ws ss md mr R b↔b < e∧e≤ws.length∧(R e).isSome=true∧okM ws ss md mr b e=true:=by
 simp only [a2r,List.mem_filter,List.mem_range'_1]
 constructor
 ·rintro ⟨⟨h1,h2⟩,h3⟩; exact ⟨by lia,by lia,h2,h3⟩
 ·rintro ⟨h1,h2,h3,h4⟩; exact ⟨⟨by lia,h3⟩,h4⟩
theorem c6e {ws ss:List Int} {md mr:Option Int} {R:Nat→Option Int} {b:Nat}:(a2r ws ss md mr R b).Pairwise (· < ·):=List.Pairwise.filter _ (List.Pairwise.filter _ (List.pairwise_lt_range' (s:=b + 1) (n:=ws.length - b)))
theorem a8r {ws ss:List Int} {md mr:Option Int} {R:Nat→Option Int} {b:Nat}:(a2r ws ss md mr R b).length≤ws.length:=by
 refine Nat.le_trans (List.length_filter_le _ _) (Nat.le_trans (List.length_filter_le _ _) ?_)
 simp
theorem a9z:∀ (xs:List Int) (b:Int),a1c b xs∈b :: xs
 | [],b=>by simp [a1c]
 | x :: r,b=>by
  have:=a9z r (if x < b then x else b)
  show a1c (if x < b then x else b) r∈_
  split at this <;> rename_i h
  ·rw [if_pos h]; exact Γh _ this
  ·rw [if_neg h]
   rcases List.mem_cons.mp this with e | e
   ·rw [e]; simp
   ·exact Γh _ (Γh _ e)
theorem a5p:∀ (xs:List Int) (b:Int),a1c b xs≤b∧∀ x∈xs,a1c b xs≤x
 | [],b=>⟨Int.le_refl _,by simp⟩
 | x :: r,b=>by
  have:=a5p r (if x < b then x else b)
  show a1c (if x < b then x else b) r≤b∧∀ y∈x :: r,a1c (if x < b then x else b) r≤y
  refine ⟨by have:=this.1; split at this <;> lia,fun y hy=>?_⟩
  rcases List.mem_cons.mp hy with rfl | hy
  ·have:=this.1; split at this <;> lia
  ·exact this.2 y hy
theorem a6e (xs:List FV) (v:FV) (Q:FV→Prop):wp (atF (xs++[v]) (-1)) Q↔Q v:=by
 have:ixN (xs++[v]).length (-1)=some xs.length:=by
  simp only [ixN,List.length_append,List.length_cons,List.length_nil]
  rw [if_neg (by decide),if_pos (by lia)]
  congr 1; lia
 unfold atF
 rw [this]
 simp
theorem c6t (xs:List FV) (v:FV):b0k (xs++[v]) none (some (-1))=xs:=by
 unfold b0k sIx
 simp
 rw [show ((-1:Int) + ((xs.length:Int) + 1)).toNat=xs.length by lia,List.take_left]
theorem b4w (n:Nat) {i:Int} (h:i=(n:Int) - 1) {k:Nat} (hk:k=n):a5b i k=(List.range n).reverse.map fun i:Nat=>FV.int i:=by
 subst h hk; exact a8s _
noncomputable def a6g (o:Option PT):Option Int:=o.map (·.1)
theorem b6m {n e:Nat} {xs:List Nat} (hp:xs.Pairwise (· < ·)) (hn:∀ x∈xs,x≤n) (he:e∈xs) (h1:n∈xs→e=n) (h2:e≠n→∀ x∈xs,e≤x):∃ a z ys,xs=a :: ys∧(∃ ws,xs=ws++[z])∧(if z=n then n else a)=e:=by
 cases xs with
 | nil=>cases he
 | cons a ys =>
  obtain ⟨ws,z,hz⟩:∃ ws z,a :: ys=ws++[z]:=⟨(a :: ys).dropLast,(a :: ys).getLast (by simp),(List.dropLast_concat_getLast (by simp)).symm⟩
  refine ⟨a,z,ys,rfl,⟨ws,hz⟩,?_⟩
  by_cases hzn:z=n
  ·rw [if_pos hzn]
   exact (h1 (by rw [hz,← hzn]; simp)).symm
  ·rw [if_neg hzn]
   have hen:e≠n:=by
    intro hen
    rw [hz] at he hp hn
    rcases List.mem_append.mp he with h | h
    ·have:=(List.pairwise_append.mp hp).2.2 e h z (by simp)
     have:=hn z (by simp)
     lia
    ·simp at h; lia
   have:=h2 hen a (by simp)
   rcases List.mem_cons.mp he with h | h
   ·exact h.symm
   ·have:=(List.pairwise_cons.mp hp).1 e h; lia
theorem c6y (d:Nat) {ws ss:List Int} (h:Rwo ws ss) (h1:1≤ws.length) (md mr:Option Int) {Q:FV×FV→Prop} (q:∀ o,Bst (okM ws ss md mr) (a0x ws ss) ws.length 0 o→Q (d1c o,.non)):callW tb (d + 4) 13 [a3z ws ss,c1x md mr] Q:=by
 have hn:=h.hn
 refine a0w (fd:=d8c) rfl rfl ?_
 simp [d8c,d9h,a1l,big]
 refine ⟨⟨by lia,by lia⟩,by lia,⟨a0n (by lia) (by lia),by decide⟩,?_⟩
 rw [b4w ws.length rfl (by lia)]
 refine a5i (f:=fun i:Nat=>FV.int i) (I:=fun ds L=>∃ (B:Nat→Option PT) (i:Nat) (a b c e:Option FV),L=[some (a3z ws ss),some (c1x md mr),some (.int ws.length),some (.lst (a3v (fun j=>if i≤j then a6g (B j) else none) ws.length)),a,b,c,e]∧i + ds.length=ws.length∧∀ j,i≤j→j≤ws.length→Bst (okM ws ss md mr) (a0x ws ss) ws.length j (B j)) (List.range ws.length).reverse (List.range ws.length).reverse [] _ rfl ?_ ?_ ?_
 ·refine ⟨fun j=>some (0,[]),ws.length,none,none,none,none,?_,rfl,fun j h2 h3=>?_⟩
  ·have e0:Γj ws.length FV.non++[FV.int 0]=a3v (fun j=>if ws.length≤j then a6g ((fun _=>some (0,[])) j) else none) ws.length:=by
    rw [a3v,List.range_succ,List.map_append]
    congr 1
    ·apply List.ext_getElem
     ·simp
     ·intro i h4 h5
      have:i < ws.length:=by simpa using h5
      simp [a5x,show ¬ ws.length≤i by lia]
    ·simp [a5x,a6g]
   rw [e0]
  ·have:j=ws.length:=by lia
   subst this
   exact a8x
 ·rintro ds x r L K e ⟨B,i,a,b,c,e1,rfl,hi,hB⟩ k
  have hx:x + 1=i:=by
   have e2:=congrArg (fun l=>l[ds.length]?) e
   have hd:ds.length < ws.length:=by have:=congrArg List.length e; simp at this; lia
   simp [List.getElem?_reverse,hd] at e2
   lia
  subst hx
  have hxn:x < ws.length:=by lia
  obtain ⟨R,hR⟩:∃ R:Nat→Option Int,R=fun j=>if x + 1≤j then a6g (B j) else none:=⟨_,rfl⟩
  rw [← hR]
  have hRe:∀ e,x < e→R e=a6g (B e):=fun e he=>by rw [hR]; exact if_pos he
  simp
  refine b8h d h hxn ?_
  simp
  refine ⟨a7z _ (fun _=>by simp) _,by have:=a8r (ws:=ws) (ss:=ss) (md:=md) (mr:=mr) (R:=R) (b:=x); simp [big]; lia,?_⟩
  refine a1s (f:=fun i:Nat=>FV.int i) (g:=fun e=>.int (a0x ws ss x e + ((R e).getD 0))) _ [] (fun e he K2 k2=>?_) ?_
  ·obtain ⟨h2,h3,h4,h5⟩:=(a4n hxn).mp he
   simp
   refine a8f (d + 2) h hxn h2 rfl ?_
   simp
   rw [a3i h3 rfl]
   obtain ⟨t,ht⟩:=Option.isSome_iff_exists.mp h4
   rw [ht] at k2 ⊢
   simp [a5x]
   exact k2
  ·simp
   obtain ⟨o,ho⟩:=c3w (ok:=okM ws ss md mr) (c:=a0x ws ss) hxn (B:=B) fun e h2 h3=>hB e h2 h3
   have hB2:∀ j,x≤j→j≤ws.length→Bst (okM ws ss md mr) (a0x ws ss) ws.length j (if j=x then o else B j):=fun j h2 h3=>by
    by_cases z:j=x
    ·rw [if_pos z,z]; exact ho
    ·rw [if_neg z]; exact hB j (by lia) h3
   have sum_in:∀ e q,x < e→e≤ws.length→okM ws ss md mr x e=true→B e=some q→a0x ws ss x e + q.1∈(a2r ws ss md mr R x).map fun e=>a0x ws ss x e + ((R e).getD 0):=fun e q h2 h3 h4 h5 =>
    List.mem_map.mpr ⟨e,(a4n hxn).mpr ⟨h2,h3,by rw [hRe e h2,h5]; rfl,h4⟩,by rw [hRe e h2,h5]; rfl⟩
   have in_sum:∀ t∈(a2r ws ss md mr R x).map fun e=>a0x ws ss x e + ((R e).getD 0),∃ e q,x < e∧e≤ws.length∧okM ws ss md mr x e=true∧B e=some q∧t=a0x ws ss x e + q.1:=fun t ht=>by
    obtain ⟨e,he,rfl⟩:=List.mem_map.mp ht
    obtain ⟨h2,h3,h4,h5⟩:=(a4n hxn).mp he
    rw [hRe e h2] at h4 ⊢
    cases hBe:B e with
    | none=>rw [hBe] at h4; cases h4
    | some q=>exact ⟨e,q,h2,h3,h5,hBe,rfl⟩
   have hmap:(a2r ws ss md mr R x).map (fun e=>FV.int (a0x ws ss x e + ((R e).getD 0)))=((a2r ws ss md mr R x).map fun e=>a0x ws ss x e + ((R e).getD 0)).map .int:=by simp
   rw [hmap]
   have next:∀ {L'},(∃ b,L'=[some (a3z ws ss),some (c1x md mr),some (.int ws.length),some (.lst (a3v (fun j=>if x≤j then a6g (if j=x then o else B j) else none) ws.length)),some (.int x),b,c,e1])→K L':=fun {L'} ⟨b,e⟩=>k _ ⟨_,x,_,_,_,_,e,by simp; lia,hB2⟩
   have set_eq:∀ v,v=a5x (a6g o)→(a3v R ws.length).set x v=a3v (fun j=>if x≤j then a6g (if j=x then o else B j) else none) ws.length:=fun v hv=>by
    subst hv
    apply List.ext_getElem
    ·simp [a3v]
    ·intro j h4 h5
     have hj:j≤ws.length:=by simp [a3v] at h5; lia
     simp only [a3v,List.getElem_set,List.getElem_map,List.getElem_range]
     by_cases z:x=j
     ·subst z; simp
     ·rw [if_neg z,hR]
      by_cases z2:x + 1≤j
      ·simp [z2,show x≤j by lia,Ne.symm z]
      ·simp [z2,show ¬ x≤j by lia]
   generalize hts:(a2r ws ss md mr R x).map (fun e=>a0x ws ss x e + ((R e).getD 0))=ts at sum_in in_sum
   have hv1:ts.length≤30:=by
    have:=a8r (ws:=ws) (ss:=ss) (md:=md) (mr:=mr) (R:=R) (b:=x)
    rw [← hts]; simp; lia
   cases ts with
   | nil =>
    simp [show eqF (.lst []) (.lst [])=some true from by simp [eqF,eqD,fD,a0j,a4i,D.eqv,D.eqvs]]
    refine next ⟨some (.lst []),?_⟩
    have hoN:o=none:=by
     cases o with
     | none=>rfl
     | some p =>
      obtain ⟨r,e2,g1,g2,g3,g4,_⟩:=a8w (p:=p) (B:=fun j=>if j=x then some p else B j) hxn hB2 (by simp)
      have g4:B (nxt ws.length r)=some (pc (a0x ws ss) ws.length r,r):=by
       have:¬ nxt ws.length r=x:=by lia
       simpa [this] using g4
      exact absurd (sum_in _ _ g1 g2 g3 g4) (by simp)
    subst hoN
    have e9:R=fun j=>if x≤j then a6g (if j=x then none else B j) else none:=by
     rw [hR]
     funext j
     by_cases z:j=x
     ·subst z; rw [if_neg (by lia)]; simp [a6g]
     ·by_cases z2:x + 1≤j
      ·simp [z2,show x≤j by lia,z]
      ·simp [z2,show ¬ x≤j by lia]
    rw [e9]
   | cons t tr =>
    have hne:eqF (.lst ((t :: tr).map .int)) (.lst [])=some false:=by
     obtain ⟨ds,h2⟩:∃ ds,a4i (fD 39) (tr.map FV.int)=some ds:=by
      clear hts sum_in in_sum hv1
      induction tr with
      | nil=>exact ⟨_,rfl⟩
      | cons y s ih=>obtain ⟨ds,h2⟩:=ih; exact ⟨.int y :: ds,by show ((some (D.int y)).bind fun z=>(a4i (fD 39) (s.map FV.int)).map (z :: ·))=_; rw [h2]; rfl⟩
     have h3:fD 40 (.lst ((t :: tr).map .int))=some (.lst (.int t :: ds)):=by
      show (((some (D.int t)).bind fun z=>(a4i (fD 39) (tr.map FV.int)).map (z :: ·)).map D.lst)=_
      rw [h2]; rfl
     show ((fD 40 (.lst ((t :: tr).map .int))).bind fun x=>(fD 40 (.lst [])).bind fun y=>some (D.eqv x y))=_
     rw [h3]; simp [fD,a4i,D.eqv,D.eqvs]
    rw [hne]
    have hmin:wp (d2r ((t :: tr).map .int))=fun Q=>Q (.int (a1c t tr)):=by
     funext Q; simp only [d2r,a3g,Option.bind_some]; rfl
    simp only [a4s,Bool.not_false,if_true,tr_b,c4m,d1d,c6l,lk_z,lk_s,d0x,li_l]
    rw [hmin]
    simp
    rw [d0j (j:=x) rfl (by simp [a3v]; lia)]
    have ho2:a6g o=some (a1c t tr):=by
     obtain ⟨e0,q0,g1,g2,g3,g4,g5⟩:=in_sum _ (a9z tr t)
     cases o with
     | none=>exact absurd (hB e0 g1 g2) (by rw [g4]; exact fun z=>ho (x :: q0.2) rfl ⟨by rw [z.2.1]; exact g1,by rw [z.2.1]; exact g3,z.2.2.1⟩)
     | some p =>
      have hB3:∀ e,x≤e→e≤ws.length→Bst (okM ws ss md mr) (a0x ws ss) ws.length e ((fun j=>if j=x then some p else B j) e):=hB2
      obtain ⟨r,e2,f1,f2,f3,f4,f5⟩:=a8w (p:=p) (B:=fun j=>if j=x then some p else B j) hxn hB3 (by simp)
      have f4:B (nxt ws.length r)=some (pc (a0x ws ss) ws.length r,r):=by
       have:¬ nxt ws.length r=x:=by lia
       simpa [this] using f4
      have l1:=sum_in _ _ f1 f2 f3 f4
      have g4':(fun j=>if j=x then some p else B j) e0=some q0:=by
       have:¬ e0=x:=by lia
       simpa [this] using g4
      have l2:=b9l (p:=p) (B:=fun j=>if j=x then some p else B j) hB3 (by simp) g1 g2 g3 g4'
      have l3:=b7n l2
      have l4:a1c t tr≤a0x ws ss x (nxt ws.length r) + pc (a0x ws ss) ws.length r:=by
       rcases List.mem_cons.mp l1 with z | z
       ·rw [z]; exact (a5p tr t).1
       ·exact (a5p tr t).2 _ z
      show some p.1=some (a1c t tr)
      congr 1
      have l3:p.1≤a0x ws ss x e0 + q0.1:=l3
      lia
    exact next ⟨_,by rw [set_eq _ (by rw [ho2]; rfl)]⟩
 ·rintro L ⟨B,i,a,b,c,e,rfl,hi,hB⟩
  have hi0:i=0:=by simp at hi; lia
  subst hi0
  simp only [Nat.zero_le,if_true]
  simp
  rw [a3i (j:=0) (i:=0) (Nat.zero_le _) rfl]
  have b0:=hB 0 (Γi _) (by lia)
  cases hb0:B 0 with
  | none =>
   rw [hb0] at b0
   simp [a6g,a5x]
   exact q none b0
  | some p0 =>
   rw [hb0] at b0
   simp [a6g,a5x,big]
   refine while_by (I:=fun m L=>∃ (pre:List Nat) (at':Nat) (p:PT) (a b c:Option FV),L=[some (a3z ws ss),some (c1x md mr),some (.int ws.length),some (.lst (a3v (fun j=>a6g (B j)) ws.length)),a,b,some (.lst ((pre++[at']).map fun i:Nat=>.int i)),c]∧m=ws.length - at'∧at'≤ws.length∧B at'=some p∧pre++p.2=p0.2∧pre.length≤at') ?_ (m:=ws.length) ⟨[],0,p0,_,_,_,rfl,rfl,by lia,hb0,rfl,Γi _⟩
   rintro m L K ⟨pre,at',p,a,b,c,rfl,hm,hat,hp,hpre,hpl⟩ k
   rw [List.map_append,List.map_cons,List.map_nil]
   simp
   rw [a6e]
   simp
   refine ite2 (fun hlt=>?_) (fun hge=>?_)
   ·rw [a6e]
    refine b8h d h hlt ?_
    simp
    refine ⟨a7z _ (fun _=>by simp) _,?_⟩
    refine ⟨by have:=a8r (ws:=ws) (ss:=ss) (md:=md) (mr:=mr) (R:=fun j=>a6g (B j)) (b:=at'); simp [big]; lia,?_⟩
    refine a1j (f:=fun i:Nat=>FV.int i) (g:=fun i:Nat=>FV.int i) (p:=fun e=>decide (a0x ws ss at' e + ((a6g (B e)).getD 0)=p.1)) _ [] (fun e he K2 N k1 k2=>?_) ?_
    ·obtain ⟨h2,h3,h4,h5⟩:=(a4n hlt).mp he
     simp
     refine a8f (d + 2) h hlt h2 rfl ?_
     simp
     rw [a3i h3 rfl]
     obtain ⟨t,ht⟩:=Option.isSome_iff_exists.mp h4
     have ht:a6g (B e)=some t:=ht
     simp only [ht,Option.getD_some] at k1 k2
     rw [ht]
     simp [a5x]
     rw [a3i hat rfl,hp]
     simp [a5x,a6g]
     refine ite2 (fun z=>k1 (by simpa using z)) (fun z=>k2 (by simpa using z))
    ·simp
     generalize hys:(a2r ws ss md mr (fun j=>a6g (B j)) at').filter (fun e=>decide (a0x ws ss at' e + ((a6g (B e)).getD 0)=p.1))=ys
     have hB0:∀ e,at'≤e→e≤ws.length→Bst (okM ws ss md mr) (a0x ws ss) ws.length e (B e):=fun e h2 h3=>hB e (Nat.zero_le _) h3
     obtain ⟨r,e2,g1,g2,g3,g4,g5⟩:=a8w hlt hB0 hp
     have mem:∀ e,e∈ys↔at' < e∧e≤ws.length∧okM ws ss md mr at' e=true∧∃ q,B e=some q∧a0x ws ss at' e + q.1=p.1:=fun e=>by
      rw [← hys,List.mem_filter,a4n hlt]
      constructor
      ·rintro ⟨⟨h2,h3,h4,h5⟩,h6⟩
       cases hBe:B e with
       | none=>rw [hBe] at h4; cases h4
       | some q=>rw [hBe] at h6; exact ⟨h2,h3,h5,q,rfl,of_decide_eq_true h6⟩
      ·rintro ⟨h2,h3,h4,q,h5,h6⟩
       exact ⟨⟨h2,h3,by rw [h5]; rfl,h4⟩,by rw [h5]; exact decide_eq_true h6⟩
     have nx:=c2k hlt hB0 hp e2
     obtain ⟨y0,z,yr,ey,⟨yw,ez⟩,en⟩:=b6m (n:=ws.length) (e:=nxt ws.length r) (xs:=ys) (by rw [← hys]; exact List.Pairwise.filter _ c6e) (fun x hx=>((mem x).mp hx).2.1) ((mem _).mpr ⟨g1,g2,g3,_,g4,g5.symm⟩)
      (fun hn'=>by obtain ⟨h2,h3,h4,q,h5,h6⟩:=(mem _).mp hn'; exact (nx _ q h2 h3 h4 h5 h6).1 rfl)
      (fun hne x hx=>by obtain ⟨h2,h3,h4,q,h5,h6⟩:=(mem _).mp hx; exact (nx _ q h2 h3 h4 h5 h6).2 hne)
     have fin:∀ v,v=FV.int (nxt ws.length r)→K [some (a3z ws ss),some (c1x md mr),some (.int ws.length),some (.lst (a3v (fun j=>a6g (B j)) ws.length)),a,some (.lst (ys.map fun i:Nat=>.int i)),some (.lst (pre.map (fun i:Nat=>.int i)++([.int at']++[v]))),some (.int at')]:=fun v hv=>by
      subst hv
      refine k _ _ (show ws.length - nxt ws.length r < m by lia) ⟨pre++[at'],nxt ws.length r,_,a,some (.lst (ys.map fun i:Nat=>.int i)),some (.int at'),by simp,rfl,g2,g4,?_,by simp; lia⟩
      rw [← hpre,e2]; simp
     have hlast:∀ Q:FV→Prop,wp (atF (ys.map fun i:Nat=>FV.int i) (-1)) Q↔Q (.int z):=fun Q=>by
      rw [ez,List.map_append]; exact a6e _ _ _
     have hfirst:∀ Q:FV→Prop,wp (atF (ys.map fun i:Nat=>FV.int i) 0) Q↔Q (.int y0):=fun Q=>by
      rw [ey,List.map_cons]; exact at_0 _ _ _
     rw [hfirst]
     simp [big]
     rw [hlast]
     simp
     have hsz:pre.length + 1 < 100000:=by lia
     by_cases hz:z=ws.length
     ·subst hz
      rw [if_pos rfl] at en
      simp [hsz]
      exact fin _ (by rw [← en])
     ·have:¬ (z:Int)=(ws.length:Int):=by lia
      rw [if_neg hz] at en
      simp [this,hsz]
      exact fin _ (by rw [← en])
   ·have hae:at'=ws.length:=by lia
    subst hae
    have hpe:p=(0,[]):=by
     have b1:=hB ws.length (by lia) (Γi _)
     rw [hp] at b1
     exact Option.some.inj (b1.uniq a8x)
    subst hpe
    rw [a3i (j:=0) (i:=0) (Nat.zero_le _) rfl,hb0]
    simp [a5x,a6g,c6t,big]
    have:pre=p0.2:=by simpa using hpre
    subst this
    exact q (some p0) b0
theorem c0b (d:Nat) {ws ss:List Int} (h:Rwo ws ss) {m:Nat} (hm:m≤1000) {Q:FV×FV→Prop} (q:∀ o,Bst (okM ws ss (some (m:Int)) none) (a0x ws ss) ws.length 0 o→Q (d1c o,.non)):callW tb (d + 3) 1 [a3z ws ss,.int m] Q:=by
 have hn:=h.hn
 refine a0w (fd:=fd1) rfl rfl ?_
 simp [fd1,bd1,a1l]
 refine ⟨a0n (by lia) (by lia),?_⟩
 rw [a7k]
 refine ⟨by simp [big]; lia,?_⟩
 refine a1s (f:=fun i:Nat=>FV.int i) (g:=fun i:Nat=>FV.int ((min (i + m + 1) ws.length:Nat):Int)) (List.range ws.length) [] (fun i hi K k=>?_) ?_
 ·simp
  have e:(if (ws.length:Int) < (i:Int) + m + 1 then (ws.length:Int) else (i:Int) + m + 1)=((min (i + m + 1) ws.length:Nat):Int):=by split <;> lia
  rw [e]; exact k
 ·rw [List.nil_append,show (List.range ws.length).map (fun i:Nat=>FV.int ((min (i + m + 1) ws.length:Nat):Int))=((List.range ws.length).map fun i=>min (i + m + 1) ws.length).map fun i:Nat=>FV.int i by simp]
  refine c1h (d + 1) h (by simp) (fun e he=>?_) fun o ho=>q o (b9m (fun a e h1 h2=>?_) ho)
  ·obtain ⟨i,_,rfl⟩:=List.mem_map.mp he
   exact Nat.min_le_right _ _
  ·have:((List.range ws.length).map fun i=>min (i + m + 1) ws.length).getD a 0=min (a + m + 1) ws.length:=by simp [List.getD,show a < ws.length by lia]
   rw [this]
   simp only [okM,leO,Bool.and_true]
   exact decide_eq_decide.mpr ⟨fun z=>by lia,fun z=>by lia⟩
theorem c2n {ok:Nat→Nat→Bool} {n:Nat} (h:∀ i,i < n→ok i (i + 1)=true):∀ t,t≤n→vp ok n (List.range' (n - t) t)∧nxt n (List.range' (n - t) t)=n - t
 | 0,_=>⟨trivial,by simp [nxt]⟩
 | t + 1,ht=>by
  obtain ⟨a,b⟩:=c2n h t (by lia)
  rw [show n - (t + 1)=n - t - 1 by lia,List.range'_succ,show n - t - 1 + 1=n - t by lia]
  refine ⟨⟨by rw [b]; lia,?_,a⟩,rfl⟩
  rw [b]
  have:=h (n - t - 1) (by lia)
  rwa [show n - t - 1 + 1=n - t by lia] at this
theorem b8s {ws ss:List Int} {m:Int} (hm:0≤m) {o:Option PT} (h:Bst (okM ws ss (some m) none) (a0x ws ss) ws.length 0 o):∃ p,o=some p:=by
 cases o with
 | some p=>exact ⟨p,rfl⟩
 | none =>
  have:=c2n (ok:=okM ws ss (some m) none) (n:=ws.length) (fun i _=>by simp only [okM,leO,Bool.and_true]; exact decide_eq_true (by lia)) ws.length (Γi _)
  rw [Nat.sub_self] at this
  exact absurd this.1 (h _ this.2)
theorem c0d {ws ss:List Int} (h:Rwo ws ss) {b e:Nat} (hb:b < ws.length) (he:b < e):1≤a0x ws ss b e∧a0x ws ss b e≤2000000000 * ((e:Int) - b):=by
 have h1:=b5w (xs:=(ss.drop b).take (e - 1 - b)) fun x hx=>by
  have:=h.hs x (List.mem_of_mem_drop (List.mem_of_mem_take hx))
  lia
 have h2:=b8b h.hw hb
 have h3:((ss.drop b).take (e - 1 - b)).length≤e - 1 - b:=by simp; lia
 unfold a0x
 lia
theorem c9g {ok:Nat→Nat→Bool} {ws ss:List Int} (h:Rwo ws ss):∀ {ks:List Nat},vp ok ws.length ks→0≤pc (a0x ws ss) ws.length ks∧pc (a0x ws ss) ws.length ks≤2000000000 * ((ws.length:Int) - nxt ws.length ks)
 | [],_=>by simp [pc,nxt]
 | k :: r,hk=>by
  have h1:=c9g h hk.2.2
  have h2:=c0d h ((b1b hk).1 k (by simp)) hk.1
  show 0≤a0x ws ss k (nxt ws.length r) + pc (a0x ws ss) ws.length r∧a0x ws ss k (nxt ws.length r) + pc (a0x ws ss) ws.length r≤2000000000 * ((ws.length:Int) - k)
  lia
theorem d2c {ok:Nat→Nat→Bool} {ws ss:List Int} (h:Rwo ws ss) {i:Nat} {p:PT} (hb:Bst ok (a0x ws ss) ws.length i (some p)):0≤p.1∧p.1≤60000000000∧p.2.length≤30∧∀ k∈p.2,k < 30:=by
 have hn:=h.hn
 obtain ⟨b1,b2,b3,_⟩:=hb
 have hl:=b5n b3
 have hv:=(b1b b3).1
 have hc:=c9g h b3
 rw [← b1] at hc
 exact ⟨hc.1,by lia,by lia,fun k hk=>by have:=hv k hk; lia⟩
theorem c6g {ws ss:List Int} (h:Rwo ws ss):Vl 4000 2 (a3z ws ss):=by
 have hn:=h.hn
 have hl:=h.hl
 have one:∀ xs:List Int,Szs xs→xs.length≤30→Vl 1260 1 (.tup (xs.map .int)):=fun xs hx hl=>by
  refine Vl.tup (k:=41) (p:=0) (m:=30) ?_ (by simpa using hl)
  intro y hy
  obtain ⟨i,hi,rfl⟩:=List.mem_map.mp hy
  have:=hx i hi
  exact Vl.int (by lia) (by lia)
 refine (Vl.tup (k:=1260) (p:=1) (m:=2) ?_ (by simp)).mono (by decide) (by decide)
 intro y hy
 simp only [List.mem_cons,List.not_mem_nil,or_false] at hy
 rcases hy with rfl | rfl
 ·exact one ws h.hw h.hn
 ·exact one ss h.hs (by lia)
noncomputable def mx (xs:List Int):Int:=a1v (xs.headD 0) xs.tail
theorem b9y (ks:List Nat) (n:Nat):a2d (ks.map fun i:Nat=>FV.int i) ((ks.map fun i:Nat=>FV.int i).tail++[.int n])=(a3l ks n).map fun p=>FV.tup [.int p.1,.int p.2]:=by
 have:(ks.map fun i:Nat=>FV.int i).tail++[.int (n:Int)]=(ks.drop 1++[n]).map fun i:Nat=>FV.int i:=by simp
 rw [this,b2n,a3l]
theorem cut1 (xs:List FV):b0k xs (some 1) none=xs.drop 1:=by simpa using c2d xs 1
theorem c2m (d:Nat) {n:Nat} (h1:1≤n) (h2:n≤9) {Q:FV×FV→Prop} (q:Q (.lst ((AK (n - 1)).map c3q),.non)):callW tb (d + 1) 14 [.int n] Q:=by
 refine a0w (fd:=d8b) rfl rfl ?_
 simp [d8b,d9g,big]
 refine ⟨⟨by decide,a0n (by lia) (by lia)⟩,?_⟩
 refine a2o (I:=fun j L=>∃ a,L=[some (.int n),some (.lst ((AK (j - 1)).map c3q)),a]) (n - 1) 1 _ ⟨none,rfl⟩ ?_ ?_
 ·rintro j L K hj1 hj2 ⟨a,rfl⟩ k
  have hl:(AK (j - 1)).length≤256:=by
   rw [b9u]
   exact Nat.pow_le_pow_right (by decide) (show j - 1≤8 by lia)
  simp
  refine ⟨by simp [big]; lia,?_⟩
  refine a1s (f:=c3q) (g:=fun ks=>c3q (ks++[j])) (AK (j - 1)) [] (fun ks hks K2 k2=>?_) ?_
  ·have:=(b2a _ ks hks).2.2.2
   simp [c3q,big] at k2 ⊢
   exact ⟨by lia,k2⟩
  ·simp [big]
   refine ⟨by lia,?_⟩
   refine k _ ⟨some (.int j),?_⟩
   obtain ⟨i,rfl⟩:∃ i,j=i + 1:=⟨j - 1,by lia⟩
   simp [AK,Function.comp_def]
 ·rintro L ⟨a,rfl⟩
  simp
  exact q
theorem c6k (ks:List Nat) (lo hi:Option Int) (Q:FV→Prop):wp (a4d (c3q ks) lo hi) Q↔Q (.tup (b0k (ks.map fun i:Nat=>FV.int i) lo hi)):=Iff.rfl
noncomputable def Tld (ws ss:List Int) (T:Nat→PT):Prop:=∀ i,i < ws.length→Bst (okM ws ss (some (i:Int)) none) (a0x ws ss) ws.length 0 (some (T i))
theorem c4b (ws ss:List Int):∃ T,Tld ws ss T:=by
 have:∀ i:Nat,∃ p:PT,Bst (okM ws ss (some (i:Int)) none) (a0x ws ss) ws.length 0 (some p):=fun i=>by
  obtain ⟨o,ho⟩:=c2j (okM ws ss (some (i:Int)) none) (a0x ws ss) ws.length
  obtain ⟨p,rfl⟩:=b8s (by lia) ho
  exact ⟨p,ho⟩
 obtain ⟨T,hT⟩:=Classical.axiomOfChoice this
 exact ⟨T,fun i _=>hT i⟩
noncomputable def gd (f:Nat→Int) (i:Nat):Bool:=(List.range i).all fun j=>decide (f i < f j)
theorem gd_iff {f:Nat→Int} {i:Nat}:gd f i=true↔∀ j,j < i→f i < f j:=by simp [gd]
noncomputable def nbt (f:Nat→Int) (n:Nat):List Nat:=(List.range n).filter (gd f)
theorem a4g (f:Nat→Int) (n:Nat):nbt f (n + 1)=if gd f n=true then nbt f n++[n] else nbt f n:=by
 unfold nbt
 rw [List.range_succ,List.filter_append]
 by_cases h:gd f n=true
 ·rw [if_pos h]; simp [h]
 ·rw [if_neg h]; simp [h]
theorem a8c (f:Nat→Int):∀ n,∃ r l,nbt f (n + 1)=r++[l]∧l < n + 1∧∀ j,j < n + 1→f l≤f j
 | 0=>by
  refine ⟨[],0,by simp [nbt,gd],by lia,fun j hj=>?_⟩
  have:j=0:=by lia
  subst this
  exact Int.le_refl _
 | n + 1=>by
  obtain ⟨r,l,h1,h2,h3⟩:=a8c f n
  rw [a4g,h1]
  by_cases h:gd f (n + 1)=true
  ·refine ⟨r++[l],n + 1,by rw [if_pos h],by lia,fun j hj=>?_⟩
   by_cases e:j=n + 1
   ·subst e; exact Int.le_refl _
   ·exact Int.le_of_lt (gd_iff.mp h j (by lia))
  ·refine ⟨r,l,by rw [if_neg h],by lia,fun j hj=>?_⟩
   by_cases e:j=n + 1
   ·subst e
    refine Int.not_lt.mp fun z=>h (gd_iff.mpr fun j hj=>?_)
    have:=h3 j hj
    lia
   ·exact h3 j (by lia)
theorem c5w {f:Nat→Int} {n l:Nat} {r:List Nat} (h1:nbt f n=r++[l]):gd f n=true↔f n < f l:=by
 cases n with
 | zero=>simp [nbt] at h1
 | succ n =>
  obtain ⟨r',l',g1,g2,g3⟩:=a8c f n
  rw [g1] at h1
  have e:l'=l:=by
   have:=congrArg List.getLast? h1
   simpa using this
  subst e
  exact ⟨fun h=>gd_iff.mp h l' g2,fun h=>gd_iff.mpr fun j hj=>by have:=g3 j hj; lia⟩
theorem b2q (f:Nat→Int) (n:Nat):(nbt f n=[]∧gd f n=true) ∨ ∃ r l,nbt f n=r++[l]∧(gd f n=true↔f n < f l):=by
 cases n with
 | zero=>exact .inl ⟨by simp [nbt],by simp [gd]⟩
 | succ n =>
  obtain ⟨r,l,h1,h2,h3⟩:=a8c f n
  exact .inr ⟨r,l,h1,c5w h1⟩
theorem a8b (f:Nat→Int) (n:Nat):(nbt f n).length≤n:=by
 have:=List.length_filter_le (gd f) (List.range n)
 simpa [nbt] using this
noncomputable def b0i (f:Nat→Int) (i:Nat):FV:=.tup [.int i,.int (f i)]
noncomputable def c7m (f:Nat→Int) (n:Nat):FV:=.lst ((nbt f n).map (b0i f))
theorem c9t (d:Nat) {ws ss:List Int} (h:Rwo ws ss) {T:Nat→PT} (hT:Tld ws ss T) {Q:FV×FV→Prop} (q:Q (c7m (fun i=>(T i).1) ws.length,.non)):callW tb (d + 4) 3 [a3z ws ss] Q:=by
 have hn:=h.hn
 refine a0w (fd:=fd3) rfl rfl ?_
 simp [fd3,bd3,a1l]
 refine ⟨a0n (by lia) (by lia),?_⟩
 obtain ⟨f,hf⟩:∃ f,f=fun i=>(T i).1:=⟨_,rfl⟩
 refine a2o (I:=fun t L=>∃ a b,L=[some (a3z ws ss),some (.lst ((nbt f t).map (b0i f))),a,b]) ws.length 0 _ ⟨none,none,by simp [nbt]⟩ ?_ ?_
 ·rintro t L K - ht ⟨a,b,rfl⟩ k
  simp
  refine c0b d h (by lia) fun o ho=>?_
  cases ho.uniq (hT t (by lia))
  simp [d1c,b4u]
  have hl:=a8b f t
  have hft:(T t).1=f t:=by rw [hf]
  rw [hft]
  have fin:gd f t=true→2≤big∧(nbt f t).length < big∧K [some (a3z ws ss),some (.lst ((nbt f t).map (b0i f)++[.tup [.int t,.int (f t)]])),some (.int t),some (.int (f t))]:=fun hg =>
   ⟨by decide,by simp only [big]; lia,k _ ⟨_,_,by rw [a4g,if_pos hg,List.map_append]; rfl⟩⟩
  have non:gd f t=false→K [some (a3z ws ss),some (.lst ((nbt f t).map (b0i f))),some (.int t),some (.int (f t))]:=fun hg =>
   k _ ⟨_,_,by rw [a4g,if_neg (by rw [hg]; exact Γk)]⟩
  rcases b2q f t with ⟨h1,h2⟩ | ⟨r,l,h1,h2⟩
  ·rw [if_pos h1]; exact fin h2
  ·rw [if_neg (by rw [h1]; simp)]
   have e:wp (atF ((nbt f t).map (b0i f)) (-1))=wp (some (b0i f l)):=by
    funext Q2
    rw [h1,List.map_append]
    exact propext (a6e _ _ _)
   rw [e]
   simp [b0i]
   refine ite2 (fun h3=>fin (h2.mpr h3)) (fun h3=>non ?_)
   cases z:gd f t with
   | false=>rfl
   | true=>exact absurd (h2.mp z) h3
 ·rintro L ⟨a,b,rfl⟩
  simp
  rw [hf]; exact q
theorem c3t {α:Type} (g:α→D) (h:∀ x,dep (g x)≤1):∀ xs:List α,b1w (xs.map g)≤1
 | []=>by simp [b1w]
 | x :: r=>by
  have:=h x; have:=c3t g h r
  simp only [List.map_cons,b1w]; lia
theorem c6d (f:Nat→Int) (xs:List Nat) (R:Bool→Prop):wp (eqF (.lst (xs.map (b0i f))) (.lst [])) R↔R (decide (xs=[])):=by
 have e:FV.lst (xs.map (b0i f))=dF (.lst (xs.map fun i:Nat=>D.tup [.int i,.int (f i)])):=by
  simp [dF,a8u,b0i,Function.comp_def,dFs]
 have hd:=c3t (fun i:Nat=>D.tup [.int i,.int (f i)]) (fun i=>by simp [dep,b1w]) xs
 have e2:eqF (.lst (xs.map (b0i f))) (.lst [])=some (decide (xs=[])):=by
  rw [e]
  show ((fD 40 (dF _)).bind fun x=>(fD 40 (.lst [])).bind fun y=>some (D.eqv x y))=_
  rw [b8f _ 40 (by simp only [dep]; lia)]
  cases xs <;> simp [fD,a4i,D.eqv,D.eqvs]
 rw [e2]; exact Iff.rfl
theorem d1m (d:Nat) {ws ss:List Int} (h:Rwo ws ss) (h1:1≤ws.length) {T:Nat→PT} (hT:Tld ws ss T) {Q:FV×FV→Prop} (q:Q (c7m (fun i=>(T i).1) ws.length,.non)):callW tb (d + 5) 15 [a3z ws ss] Q:=by
 have hn:=h.hn
 refine a0w (fd:=d8a) rfl rfl ?_
 simp [d8a,d9f,a1l]
 refine ⟨a0n (by lia) (by lia),?_⟩
 obtain ⟨f,hf⟩:∃ f,f=fun i=>(T i).1:=⟨_,rfl⟩
 refine a2o (I:=fun t L=>∃ a b,L=[some (a3z ws ss),some (.lst ((nbt f t).map (b0i f))),a,b]) ws.length 0 _ ⟨none,none,by simp [nbt]⟩ ?_ ?_
 ·rintro t L K - ht ⟨a,b,rfl⟩ k
  simp
  refine ⟨by decide,?_⟩
  rw [show FV.tup [FV.int (t:Int),FV.non]=c1x (some (t:Int)) none from rfl]
  refine c6y d h h1 (some (t:Int)) none fun o ho=>?_
  cases ho.uniq (hT t (by lia))
  simp [d1c,b4u]
  rw [c6d]
  have hl:=a8b f t
  have hft:(T t).1=f t:=by rw [hf]
  rw [hft]
  have fin:gd f t=true→2≤big∧(nbt f t).length < big∧K [some (a3z ws ss),some (.lst ((nbt f t).map (b0i f)++[.tup [.int t,.int (f t)]])),some (.int t),some (.int (f t))]:=fun hg =>
   ⟨by decide,by simp only [big]; lia,k _ ⟨_,_,by rw [a4g,if_pos hg,List.map_append]; rfl⟩⟩
  have non:gd f t=false→K [some (a3z ws ss),some (.lst ((nbt f t).map (b0i f))),some (.int t),some (.int (f t))]:=fun hg =>
   k _ ⟨_,_,by rw [a4g,if_neg (by rw [hg]; exact Γk)]⟩
  rcases b2q f t with ⟨h1,h2⟩ | ⟨r,l,h1,h2⟩
  ·simp only [h1,decide_true,if_true] at fin ⊢; exact fin h2
  ·rw [if_neg (by rw [h1]; simp)]
   have e:wp (atF ((nbt f t).map (b0i f)) (-1))=wp (some (b0i f l)):=by
    funext Q2
    rw [h1,List.map_append]
    exact propext (a6e _ _ _)
   rw [e]
   simp [b0i]
   refine ite2 (fun h3=>fin (h2.mpr h3)) (fun h3=>non ?_)
   cases z:gd f t with
   | false=>rfl
   | true=>exact absurd (h2.mp z) h3
 ·rintro L ⟨a,b,rfl⟩
  simp
  rw [hf]; exact q
noncomputable def dp (n:Nat) (ks:List Nat):Int:=mx ((a3l ks n).map fun p=>(p.2:Int) - p.1 - 1)
theorem c9v {xs:List Int} (h:xs≠[]):mx xs∈xs:=by
 cases xs with
 | nil=>exact absurd rfl h
 | cons x r=>exact b2r r x
theorem d6b {xs:List Int} {x:Int} (h:x∈xs):x≤mx xs:=by
 cases xs with
 | nil=>cases h
 | cons y r =>
  rcases List.mem_cons.mp h with rfl | h
  ·exact (b1j r x).1
  ·exact (b1j r y).2 x h
theorem a7v {vs:List FV} {ks:List (List Int)} {k:List Int} {v:FV}:(a3q ks vs k v).1=if k∈ks then ks else ks++[k]:=by
 unfold a3q; split <;> rfl
theorem d1b (a b c d:Int) (R:Bool→Prop):wp (eqF (.tup [.int a,.int b]) (.tup [.int c,.int d])) R↔R (decide (a=c∧b=d)):=by
 have e:eqF (.tup [.int a,.int b]) (.tup [.int c,.int d])=some (decide (a=c∧b=d)):=by
  have:=d0z (a:=.tup [.int a,.int b]) (b:=.tup [.int c,.int d]) (by simp [dep,b1w]) (by simp [dep,b1w])
  simp only [dF,dFs] at this
  rw [this]
  simp only [D.eqv,D.eqvs,Option.some.injEq]
  rw [Bool.eq_iff_iff]; simp
 rw [e]; exact Iff.rfl
noncomputable def btB (x y:List Int):Bool:=!decide (x=y) && decide (x.getD 0 0≤y.getD 0 0) && decide (x.getD 1 0≤y.getD 1 0)
theorem c2l (d:Nat) {x y:List Int} (hx:∃ a b,x=[a,b]) (hy:∃ a b,y=[a,b]) {Q:FV×FV→Prop} (q:Q (.bl (btB x y),.non)):callW tb (d + 1) 17 [a7a x,a7a y] Q:=by
 obtain ⟨a,b,rfl⟩:=hx
 obtain ⟨a',b',rfl⟩:=hy
 refine a0w (fd:=d7y) rfl rfl ?_
 simp [d7y,d3p,a7a]
 rw [d1b]
 simp [btB] at q
 by_cases h1:a=a'∧b=b'
 ·rw [if_pos (decide_eq_true h1)]
  have:decide (a=a')=true∧decide (b=b')=true:=⟨decide_eq_true h1.1,decide_eq_true h1.2⟩
  rw [this.1,this.2] at q
  rw [decide_eq_true h1]
  simpa using q
 ·rw [if_neg (by simpa using h1)]
  have e1:(!decide (a=a') || !decide (b=b'))=true:=by
   rw [← Bool.not_and,Bool.not_eq_true',← Bool.decide_and]
   exact decide_eq_false h1
  rw [e1,Bool.true_and] at q
  by_cases h2:a≤a'
  ·rw [if_pos h2]
   rw [decide_eq_true h2,Bool.true_and] at q
   exact q
  ·rw [if_neg h2]
   rw [decide_eq_false h2,Bool.false_and] at q
   rw [decide_eq_false h2]
   exact q
theorem c0t {α β:Type} (f:α→β) {us ys:List β} (p:ys.Perm us):∀ xs:List α,us=xs.map f→∃ zs:List α,zs.Perm xs∧ys=zs.map f:=by
 induction p with
 | nil=>intro xs e; exact ⟨xs,.refl _,e⟩
 | cons x p ih =>
  intro xs e
  cases xs with
  | nil=>simp at e
  | cons a r =>
   simp only [List.map_cons,List.cons.injEq] at e
   obtain ⟨e1,e2⟩:=e
   obtain ⟨zs,h,hz⟩:=ih r e2
   exact ⟨a :: zs,h.cons a,by simp [hz,e1]⟩
 | swap x y l =>
  intro xs e
  match xs,e with
  | a :: b :: r,e =>
   simp only [List.map_cons,List.cons.injEq] at e
   obtain ⟨e1,e2,e3⟩:=e
   exact ⟨b :: a :: r,.swap ..,by simp [e1,e2,e3]⟩
  | [a],e=>simp at e
  | [],e=>simp at e
 | trans p q ih1 ih2 =>
  intro xs e
  obtain ⟨zs,h,hz⟩:=ih2 xs e
  obtain ⟨ws,h',hw⟩:=ih1 zs hz
  exact ⟨ws,h'.trans h,hw⟩
section
variable {ws ss:List Int} {T:Nat→PT} {n:Nat}
theorem d1o {ks:List Nat} (hks:ks∈AK n) (i:Nat):dp (n + 1) ks≤i↔vp (okM ws ss (some (i:Int)) none) (n + 1) ks:=by
 obtain ⟨⟨r,er⟩,hs,hk,_⟩:=b2a n ks hks
 have hok:=a7q hs (fun x hx=>Nat.lt_succ_of_le (hk x hx))
 have hne:(a3l ks (n + 1)).map (fun p=>(p.2:Int) - p.1 - 1)≠[]:=by rw [er]; simp [a3l]
 rw [b5m]
 constructor
 ·intro h p hp
  refine ⟨(hok p hp).2.1,?_⟩
  have:=d6b (List.mem_map_of_mem (f:=fun p:Nat×Nat=>(p.2:Int) - p.1 - 1) hp)
  unfold dp at h
  simp only [okM,leO,Bool.and_true,decide_eq_true_eq]
  lia
 ·intro h
  obtain ⟨p,hp,e⟩:=List.mem_map.mp (c9v hne)
  have:=(h p hp).2
  simp only [okM,leO,Bool.and_true,decide_eq_true_eq] at this
  unfold dp
  lia
theorem c3r {ks:List Nat} (hks:ks∈AK n):0≤dp (n + 1) ks∧dp (n + 1) ks≤n:=by
 obtain ⟨⟨r,er⟩,hs,hk,_⟩:=b2a n ks hks
 have hok:=a7q hs (fun x hx=>Nat.lt_succ_of_le (hk x hx))
 have hne:(a3l ks (n + 1)).map (fun p=>(p.2:Int) - p.1 - 1)≠[]:=by rw [er]; simp [a3l]
 obtain ⟨p,hp,e⟩:=List.mem_map.mp (c9v hne)
 obtain ⟨_,g1,g2,_⟩:=hok p hp
 unfold dp
 lia
theorem d9q (hn:ws.length=n + 1) (hT:Tld ws ss T) {i:Nat} (hi:i < n + 1) {ks:List Nat} (hks:ks∈AK n) (h:dp (n + 1) ks≤i):(T i).1≤pc (a0x ws ss) (n + 1) ks:=by
 have b:=hT i (by lia)
 rw [hn] at b
 obtain ⟨⟨r,er⟩,_⟩:=b2a n ks hks
 exact b7n (b.2.2.2 ks (by rw [er]; rfl) ((d1o hks i).mp h))
theorem d9r (hn:ws.length=n + 1) (hT:Tld ws ss T) {i:Nat} (hi:i < n + 1):(T i).2∈AK n∧(T i).1=pc (a0x ws ss) (n + 1) (T i).2∧dp (n + 1) (T i).2≤i:=by
 have b:=hT i (by lia)
 rw [hn] at b
 obtain ⟨b1,b2,b3,_⟩:=b
 obtain ⟨v1,v2,_⟩:=b1b b3
 have hin:(T i).2∈AK n:=by
  cases e:(T i).2 with
  | nil=>rw [e] at b2; simp [nxt] at b2
  | cons k r =>
   rw [e] at b2 v1 v2
   cases (show k=0 from b2)
   exact b9v n r v2 fun x hx=>by have:=v1 x (Γh _ hx); lia
 exact ⟨hin,b1,(d1o hin i).mpr b3⟩
theorem c9u (hn:ws.length=n + 1) (hT:Tld ws ss T) {kk:List (List Int)} (hmem:∀ k,k∈kk↔∃ ks∈AK n,k=[dp (n + 1) ks,pc (a0x ws ss) (n + 1) ks]) (k:List Int) :
  (k∈kk∧(kk.any fun k'=>btB k' k)=false)↔∃ i∈nbt (fun i=>(T i).1) (n + 1),k=[(i:Int),(T i).1]:=by
 constructor
 ·rintro ⟨hk,hb⟩
  obtain ⟨ks,hks,rfl⟩:=(hmem k).mp hk
  obtain ⟨g0,g1⟩:=c3r hks
  obtain ⟨i,hi⟩:∃ i:Nat,dp (n + 1) ks=i:=⟨(dp (n + 1) ks).toNat,by lia⟩
  have hin:i < n + 1:=by lia
  have nobeat:∀ ks'∈AK n,dp (n + 1) ks'≤dp (n + 1) ks→pc (a0x ws ss) (n + 1) ks'≤pc (a0x ws ss) (n + 1) ks→dp (n + 1) ks'=dp (n + 1) ks∧pc (a0x ws ss) (n + 1) ks'=pc (a0x ws ss) (n + 1) ks:=fun ks' h' h1 h2=>by
   have hf:=List.any_eq_false.mp hb [dp (n + 1) ks',pc (a0x ws ss) (n + 1) ks'] ((hmem _).mpr ⟨ks',h',rfl⟩)
   by_cases e:[dp (n + 1) ks',pc (a0x ws ss) (n + 1) ks']=[dp (n + 1) ks,pc (a0x ws ss) (n + 1) ks]
   ·simpa using e
   ·refine absurd ?_ hf
    unfold btB
    rw [decide_eq_false e]
    simp [h1,h2]
  obtain ⟨t1,t2,t3⟩:=d9r hn hT hin
  have hle:=d9q hn hT hin hks (by lia)
  have e:=nobeat _ t1 (by lia) (by lia)
  have hTi:(T i).1=pc (a0x ws ss) (n + 1) ks:=by lia
  refine ⟨i,List.mem_filter.mpr ⟨List.mem_range.mpr hin,gd_iff.mpr fun j hj=>?_⟩,by rw [hi,hTi]⟩
  obtain ⟨s1,s2,s3⟩:=d9r hn hT (show j < n + 1 by lia)
  refine Int.not_le.mp fun z=>?_
  have:=nobeat _ s1 (by lia) (by lia)
  lia
 ·rintro ⟨i,hi,rfl⟩
  obtain ⟨hin,hg⟩:=List.mem_filter.mp hi
  have hin:=List.mem_range.mp hin
  have hg:=gd_iff.mp hg
  obtain ⟨t1,t2,t3⟩:=d9r hn hT hin
  have low:∀ ks∈AK n,dp (n + 1) ks≤i→pc (a0x ws ss) (n + 1) ks≤(T i).1→dp (n + 1) ks=i:=fun ks hks h1 h2=>by
   obtain ⟨g0,g1⟩:=c3r hks
   obtain ⟨j,hj⟩:∃ j:Nat,dp (n + 1) ks=j:=⟨(dp (n + 1) ks).toNat,by lia⟩
   by_cases e:j=i
   ·lia
   ·have a1:=d9q hn hT (show j < n + 1 by lia) hks (by lia)
    have a2:=hg j (by lia)
    lia
  refine ⟨(hmem _).mpr ⟨(T i).2,t1,by rw [low _ t1 t3 (by lia),← t2]⟩,List.any_eq_false.mpr fun k' hk' hb=>?_⟩
  obtain ⟨ks,hks,rfl⟩:=(hmem k').mp hk'
  simp [btB] at hb
  obtain ⟨⟨b1,b2⟩,b3⟩:=hb
  have a1:=low _ hks b2 b3
  have a2:=d9q hn hT hin hks (by lia)
  rcases b1 with b1 | b1
  ·exact b1 a1
  ·exact b1 (by lia)
end
theorem c0y (d:Nat) {ws ss:List Int} (h:Rwo ws ss) (h1:1≤ws.length) (h2:ws.length≤9) {T:Nat→PT} (hT:Tld ws ss T) {Q:FV×FV→Prop} (q:Q (c7m (fun i=>(T i).1) ws.length,.non)):callW tb (d + 2) 16 [a3z ws ss] Q:=by
 obtain ⟨n,hn⟩:∃ n,ws.length=n + 1:=⟨ws.length - 1,by lia⟩
 refine a0w (fd:=d7z) rfl rfl ?_
 simp [d7z,d9e,a1l]
 refine c2m d h1 h2 ?_
 simp
 rw [hn,Nat.add_sub_cancel]
 have hak:(AK n).length≤256:=by
  rw [b9u]
  exact Nat.pow_le_pow_right (by decide) (show n≤8 by lia)
 refine a5i (f:=c3q) (I:=fun ds L=>∃ kk vs a b c e,L=[some (a3z ws ss),some (.dct kk vs),a,b,c,e]∧kk.Nodup∧kk.length≤ds.length∧∀ k,k∈kk↔∃ ks∈ds,k=[dp (n + 1) ks,pc (a0x ws ss) (n + 1) ks]) (AK n) (AK n) [] _ rfl ⟨[],[],none,none,none,none,rfl,List.nodup_nil,Γi _,by simp⟩ ?_ ?_
 ·rintro ds ks r L K e ⟨kk,vs,a,b,c,e',rfl,hnd,hkl,hmem⟩ k
  have hks:ks∈AK n:=by rw [e]; simp
  have hdl:ds.length≤256:=by have:=congrArg List.length e; simp at this; lia
  obtain ⟨⟨r',er⟩,hs,hk,hkl2⟩:=b2a n ks hks
  have hok:=a7q hs (fun x hx=>Nat.lt_succ_of_le (hk x hx))
  have hsl:(a3l ks (n + 1)).length=ks.length:=by rw [er]; simp [a3l]
  simp [c6k,a1l]
  rw [cut1]
  simp [c3q]
  rw [hn,b9y]
  refine ⟨by simp only [big]; lia,?_⟩
  refine ⟨by simp only [big]; lia,?_⟩
  refine ⟨by lia,?_⟩
  refine ⟨by simp only [big,List.length_map]; lia,?_⟩
  refine a1s (f:=fun p:Nat×Nat=>FV.tup [.int p.1,.int p.2]) (g:=fun p=>.int ((p.2:Int) - p.1 - 1)) (a3l ks (n + 1)) [] (fun p hp K2 k2=>?_) ?_
  ·simp
   exact k2
  ·obtain ⟨x0,xr,hx⟩:∃ x0 xr,(a3l ks (n + 1)).map (fun p=>(p.2:Int) - p.1 - 1)=x0 :: xr:=by
    cases z:(a3l ks (n + 1)).map fun p=>(p.2:Int) - p.1 - 1 with
    | nil =>
     have:=congrArg List.length z
     rw [List.length_map,hsl,er] at this
     simp at this
    | cons a b=>exact ⟨a,b,rfl⟩
   have hdp:dp (n + 1) ks=a1v x0 xr:=by unfold dp; rw [hx]; rfl
   rw [List.nil_append,show (a3l ks (n + 1)).map (fun p=>FV.int ((p.2:Int) - p.1 - 1))=((a3l ks (n + 1)).map fun p=>(p.2:Int) - p.1 - 1).map .int by simp,a3g,a4s]
   refine ⟨x0,xr,hx,?_⟩
   rw [← hdp]
   simp
   refine ⟨by simp only [big]; lia,?_⟩
   refine a1s (f:=fun p:Nat×Nat=>FV.tup [.int p.1,.int p.2]) (g:=fun p=>.int (a0x ws ss p.1 p.2)) (a3l ks (n + 1)) [] (fun p hp K2 k2=>?_) ?_
   ·obtain ⟨g1,g2,g3,_⟩:=hok p hp
    have:=hk _ g1
    simp
    exact a8f d h (by lia) g2 rfl k2
   ·have hbd:∀ x∈(a3l ks (n + 1)).map (fun p=>a0x ws ss p.1 p.2),0≤x∧x≤100000000000:=fun x hx=>by
     obtain ⟨p,hp,rfl⟩:=List.mem_map.mp hx
     obtain ⟨g1,g2,g3,_⟩:=hok p hp
     have:=hk _ g1
     have:=c4h h (show p.1 < ws.length by lia) (e:=p.2)
     lia
    rw [List.nil_append,show (a3l ks (n + 1)).map (fun p=>FV.int (a0x ws ss p.1 p.2))=((a3l ks (n + 1)).map fun p=>a0x ws ss p.1 p.2).map .int by simp]
    refine c4f (by rw [List.length_map]; lia) hbd ?_
    rw [← b6w]
    simp [big]
    refine ⟨by lia,?_⟩
    refine k _ ⟨_,_,_,_,_,_,rfl,?_,?_,?_⟩
    ·rw [a7v]
     split
     ·exact hnd
     ·rename_i hni
      exact List.nodup_append.mpr ⟨hnd,by simp,fun a ha b hb=>by simp at hb; subst hb; exact fun z=>hni (z ▸ ha)⟩
    ·rw [a7v]
     split <;> simp <;> lia
    ·intro k'
     rw [a7v]
     split
     ·rename_i hin
      rw [hmem]
      constructor
      ·rintro ⟨x,hx,e5⟩; exact ⟨x,List.mem_append_left _ hx,e5⟩
      ·rintro ⟨x,hx,e5⟩
       rcases List.mem_append.mp hx with hx | hx
       ·exact ⟨x,hx,e5⟩
       ·simp at hx; subst hx
        rw [e5]; exact (hmem _).mp hin
     ·rw [List.mem_append,hmem]
      constructor
      ·rintro (⟨x,hx,e⟩ | hk')
       ·exact ⟨x,List.mem_append_left _ hx,e⟩
       ·exact ⟨ks,by simp,by simpa using hk'⟩
      ·rintro ⟨x,hx,e5⟩
       rcases List.mem_append.mp hx with hx | hx
       ·exact .inl ⟨x,hx,e5⟩
       ·simp at hx; subst hx
        exact .inr (by simpa using e5)
 ·rintro L ⟨kk,vs,a,b,c,e,rfl,hnd,hkl,hmem⟩
  simp
  intro o
  refine ⟨by simp only [big]; lia,?_⟩
  have two:∀ k∈kk,∃ a b,k=[a,b]:=fun k hk=>by
   obtain ⟨ks,_,rfl⟩:=(hmem k).mp hk
   exact ⟨_,_,rfl⟩
  refine a1j (f:=a7a) (g:=a7a) (p:=fun k=>!(kk.any fun k'=>btB k' k)) kk [] (fun x hx K N hK hN=>?_) ?_
  ·simp
   refine ⟨by simp only [big]; lia,?_⟩
   refine a1s (f:=a7a) (g:=fun k'=>.bl (btB k' x)) kk [] (fun k' hk' K2 k2=>?_) ?_
   ·simp
    exact c2l d (two k' hk') (two x hx) k2
   ·rw [List.nil_append,a4q,a4s]
    refine ite2 (fun hm=>hN ?_) (fun hm=>hK ?_)
    ·have:(kk.any fun k'=>btB k' x)=true:=by
      obtain ⟨k',a1,a2⟩:=List.mem_map.mp hm
      exact List.any_eq_true.mpr ⟨k',a1,a2⟩
     rw [this]; rfl
    ·have:(kk.any fun k'=>btB k' x)=false:=by
      cases z:kk.any fun k'=>btB k' x with
      | false=>rfl
      | true =>
       obtain ⟨k',a1,a2⟩:=List.any_eq_true.mp z
       exact absurd (List.mem_map.mpr ⟨k',a1,a2⟩) hm
     rw [this]; rfl
  ·rw [List.nil_append]
   have hfl:=List.length_filter_le (fun k=>!(kk.any fun k'=>btB k' k)) kk
   have hall:=c9u hn hT hmem
   have hfm:∀ k,k∈kk.filter (fun k=>!(kk.any fun k'=>btB k' k))↔k∈(nbt (fun i=>(T i).1) (n + 1)).map fun i:Nat=>[(i:Int),(T i).1]:=fun k=>by
    rw [List.mem_filter,List.mem_map]
    have:=hall k
    constructor
    ·rintro ⟨a1,a2⟩
     obtain ⟨i,b1,b2⟩:=this.mp ⟨a1,by simpa using a2⟩
     exact ⟨i,b1,b2.symm⟩
    ·rintro ⟨i,b1,b2⟩
     obtain ⟨a1,a2⟩:=this.mpr ⟨i,b1,b2.symm⟩
     exact ⟨a1,by rw [a2]; rfl⟩
   have hnd2:(kk.filter (fun k=>!(kk.any fun k'=>btB k' k))).Nodup:=hnd.sublist List.filter_sublist
   generalize kk.filter (fun k=>!(kk.any fun k'=>btB k' k))=ks2 at hfl hfm hnd2 ⊢
   have hup:((nbt (fun i=>(T i).1) (n + 1)).map fun i:Nat=>[(i:Int),(T i).1]).Pairwise fun x y=>lexLt y x=false∧x≠y:=by
    refine List.pairwise_map.mpr ((List.Pairwise.filter _ List.pairwise_lt_range).imp fun {a b} hab=>?_)
    refine ⟨?_,fun z=>by simp at z; lia⟩
    show (if (b:Int)=a then _ else decide ((b:Int) < a))=false
    rw [if_neg (by lia)]
    exact decide_eq_false (by lia)
   refine ⟨?_,by rw [List.length_map]; simp only [big]; lia,fun ys hp hs=>?_⟩
   ·have tw:∀ l:List (List Int),(∀ k∈l,∃ a b,k=[a,b])→a1z (l.map a7a)=true:=by
     intro l
     induction l with
     | nil=>intro _; rfl
     | cons x r ih =>
      intro hl
      obtain ⟨a,b,rfl⟩:=hl x Γn
      show (true && a1z (r.map a7a))=true
      rw [ih fun k hk=>hl k (Γh _ hk)]; rfl
    refine tw _ fun k hk=>?_
    obtain ⟨i,_,rfl⟩:=List.mem_map.mp ((hfm k).mp hk)
    exact ⟨_,_,rfl⟩
   ·obtain ⟨zs,pz,rfl⟩:=c0t a7a hp _ rfl
    have fk:∀ k,c1t (a7a k)=k:=fun k=>by simp [c1t,a7a,a3g]
    have hs2:zs.Pairwise fun x y=>lexLt y x=false:=(List.pairwise_map.mp hs).imp fun {a b} h=>by simpa [fk] using h
    have nd2:((nbt (fun i=>(T i).1) (n + 1)).map fun i:Nat=>[(i:Int),(T i).1]).Nodup:=hup.imp fun {a b} h=>h.2
    have p2:zs.Perm ((nbt (fun i=>(T i).1) (n + 1)).map fun i:Nat=>[(i:Int),(T i).1]):=pz.trans ((List.perm_ext_iff_of_nodup hnd2 nd2).mpr hfm)
    have tw:∀ k∈zs,∃ a b,k=[a,b]:=fun k hk=>by
     obtain ⟨i,_,rfl⟩:=List.mem_map.mp (p2.mem_iff.mp hk)
     exact ⟨_,_,rfl⟩
    have e:=p2.eq_of_pairwise (fun a b ha hb h3 h4=>by
     obtain ⟨a1,a2,rfl⟩:=tw a ha
     obtain ⟨b1,b2,rfl⟩:=tw b (p2.mem_iff.mpr hb)
     simp only [lexLt] at h3 h4
     split at h3
     ·rename_i e1
      rw [if_pos e1.symm] at h4
      split at h3
      ·rename_i e2; rw [e1,e2]
      ·rename_i e2
       rw [if_neg (fun z=>e2 z.symm)] at h4
       have:=of_decide_eq_false h3; have:=of_decide_eq_false h4; lia
     ·rename_i e1
      rw [if_neg (fun z=>e1 z.symm)] at h4
      have:=of_decide_eq_false h3; have:=of_decide_eq_false h4; lia) hs2 (hup.imp fun {a b} h=>h.1)
    subst e
    rw [hn] at q
    rw [List.map_map]
    exact q
theorem c6j {ws ss:List Int} (R:Rwo ws ss) {T:Nat→PT} (hT:Tld ws ss T):Vl 8000 2 (c7m (fun i=>(T i).1) ws.length):=by
 have hl:=a8b (fun i=>(T i).1) ws.length
 have hn:=R.hn
 refine (Vl.lst (k:=100) (p:=1) (m:=30) ?_ (by rw [List.length_map]; lia)).mono (by decide) (by decide)
 intro x hx
 obtain ⟨i,hi,rfl⟩:=List.mem_map.mp hx
 have hin:=List.mem_range.mp (List.mem_filter.mp hi).1
 obtain ⟨h1,h2,_⟩:=d2c R (hT i hin)
 refine (Vl.tup (k:=41) (p:=0) (m:=2) ?_ (by simp)).mono (by decide) (by decide)
 intro y hy
 simp only [List.mem_cons,List.not_mem_nil,or_false] at hy
 rcases hy with rfl | rfl
 ·exact Vl.int (by lia) (by lia)
 ·exact Vl.int (by lia) (by lia)
theorem law_val (ns:List Int):callW tb 14 18 [.scr ns] fun z=>z.1=.bl true:=by
 refine a0w (fd:=d7x) rfl rfl ?_
 simp [d7x,d9d]
 refine ⟨by simp [a0q]; split <;> lia,?_⟩
 refine a2o (I:=fun _ L=>∃ a b c d e f g,L=[some (.scr ns),a,b,c,d,e,f,g]) _ 0 _ ⟨_,_,_,_,_,_,_,rfl⟩ ?_ ?_
 ·rintro k L K - - ⟨a,b,c,d,e,f,g,rfl⟩ kk
  simp
  refine c5p 12 ns k fun v1 y l1=>?_
  simp
  refine c8f 9 l1 (by lia) (by lia) (by decide) (by decide) fun ws ss v2 w1 w2 hsl hw hs l2=>?_
  have R:Rwo ws ss:=⟨hw,hs,hsl,w2⟩
  rw [show FV.tup [.tup (ws.map .int),.tup (ss.map .int)]=a3z ws ss from rfl]
  obtain ⟨y,ey,hy⟩:=c7v (c6g R) (by decide) (by lia)
  obtain ⟨T,hT⟩:=c4b ws ss
  have vl:=c6j R hT
  simp [ey]
  refine d1m 8 R w1 hT ?_
  simp [a1l]
  refine ite2 (fun h9=>c0y 11 R w1 (by lia) hT ((c6c vl (by decide) _).mpr ⟨rfl,?_⟩)) (fun _=>?_)
  all_goals
   refine ⟨by decide,?_⟩
   refine a2o (I:=fun _ L=>∃ c d,L=[some (FV.scr ns),some (FV.int k),some v2,some (a3z ws ss),some y,some (c7m (fun i=>(T i).1) ws.length),c,d]) 2 0 _ ⟨_,_,rfl⟩ ?_ ?_
   ·rintro t L K2 - - ⟨c,d,rfl⟩ k2
    simp
    refine c9t 9 R hT ?_
    have hl:=a8b (fun i=>(T i).1) ws.length
    simp
    refine c4l (p:=2) (k:=8000) 10 vl (by decide) (by decide) ?_
    simp [c7m,big]
    exact ⟨by lia,k2 _ ⟨_,_,rfl⟩⟩
   ·rintro L ⟨c,d,rfl⟩
    simp [ey,hy]
    exact kk _ ⟨_,_,_,_,_,_,_,rfl⟩
 ·rintro L ⟨a,b,c,d,e,f,g,rfl⟩
  simp
end Kq
end
set_option maxRecDepth 100000
set_option maxHeartbeats 4000000
section
namespace Kq
open PySem PySem.Spec PyProof.Rows L2 PySem.W
noncomputable def top (i:Nat):Stmt:=PySem.Challenge.pw_keepwhole_k35_pairs_not_beaten.main.body.getD i (.Pass ⟨0,0,0,0⟩)
noncomputable def d0:Df:=⟨"stretch_size",top 1,["row","first","end"],["row","first","end","wholes","steps"],[]⟩
noncomputable def d1:Df:=⟨"within_deep",top 3,["row","most"],["row","most","many"],[]⟩
noncomputable def d2:Df:=⟨"least_kept",top 4,["row","ends"],["row","ends","many","best","first","found","end","takes","kept"],[.imm,.imm,.imm,.own,.imm,.own]⟩
noncomputable def d3:Df:=⟨"not_beaten",top 5,["row"],["row","pairs","bound","takes"],[.imm,.own]⟩
noncomputable def d4:Df:=⟨"_law_mix",top 7,["_law_cell","_law_k"],["_law_cell","_law_k","_law_m"],[]⟩
noncomputable def d5:Df:=⟨"_law_left",top 8,["_law_script","_law_k"],["_law_script","_law_k","_law_cell"],[]⟩
noncomputable def d6:Df:=⟨"_law_pick",top 9,["_law_left_here","_law_many"],["_law_left_here","_law_many","_law_digit"],[.own]⟩
noncomputable def d7:Df:=⟨"_law_size",top 10,["_law_left_here","_law_great"],["_law_left_here","_law_great","_law_way_drawn"],[.own]⟩
noncomputable def d8:Df:=⟨"_law_row",top 11,["_law_left_here","_law_most"],["_law_left_here","_law_most","_law_many","_law_great","_law_wholes"],[.own]⟩
noncomputable def d9:Df:=⟨"_law_same",top 12,["_law_found","_law_due_here"],["_law_found","_law_due_here"],[]⟩
noncomputable def d10:Df:=⟨"_law_stretch",top 13,["_law_row_here","_law_begin","_law_end"],["_law_row_here","_law_begin","_law_end"],[]⟩
noncomputable def d11:Df:=⟨"_law_may",top 14,["_law_row_here","_law_begin","_law_end","_law_may_here"],["_law_row_here","_law_begin","_law_end","_law_may_here"],[]⟩
noncomputable def d12:Df:=⟨"_law_ends",top 15,["_law_row_here","_law_rooms","_law_begin","_law_may_here"],["_law_row_here","_law_rooms","_law_begin","_law_may_here","_law_some"],[]⟩
noncomputable def d13:Df:=⟨"_law_best",top 16,["_law_row_here","_law_may_here"],["_law_row_here","_law_may_here","_law_many","_law_rooms","_law_begin","_law_some","_law_kept","_law_at"],[.imm,.imm,.imm,.own,.imm,.imm,.own]⟩
noncomputable def d14:Df:=⟨"_law_all_kept",top 17,["_law_many"],["_law_many","_law_found","_law_make"],[]⟩
noncomputable def d15:Df:=⟨"_law_due",top 18,["_law_row_here"],["_law_row_here","_law_found","_law_far","_law_least"],[.imm,.own]⟩
noncomputable def d16:Df:=⟨"_law_of_all",top 19,["_law_row_here"],["_law_row_here","_law_some","_law_kept","_law_ends_here","_law_pairs","_law_deepest"],[.imm,.own]⟩
noncomputable def d17:Df:=⟨"_law_beats",top 20,["_law_one","_law_other"],["_law_one","_law_other"],[]⟩
noncomputable def d18:Df:=⟨"law",top 21,["_law_script"],["_law_script","_law_k","_law_left_here","_law_row_here","_law_seen","_law_due_here","_law_turn","_law_found"],[.imm,.imm,.own,.imm,.imm,.imm,.imm,.own]⟩
noncomputable def fns:List Str:=[Γe "stretch_size",Γe "within_deep",Γe "least_kept",Γe "not_beaten",Γe "_law_mix",Γe "_law_left",Γe "_law_pick",Γe "_law_size",Γe "_law_row",Γe "_law_same",Γe "_law_stretch",Γe "_law_may",Γe "_law_ends",Γe "_law_best",Γe "_law_all_kept",Γe "_law_due",Γe "_law_of_all",Γe "_law_beats",Γe "law"]
abbrev DB (d:Df) (fr:Bool) (b:CW→SW):Prop:=∀ (X:Cx) (call:CW) (n:Nat),Good X (d.cc fns) n (spK tb call)→FSs X (d.cc fns) fr (a1w d.st) (b call)
local macro_rules | `(tactic| ac_rfl)=>do
 let g:=Lean.mkIdent `G
 let mut ts:Array (Lean.TSyntax ``Lean.Parser.Tactic.tacticSeq):=#[]
 for r in ("§fe_var 12210;d0w 00010;d8i 03110;fa_nil 00010;a1a 02010;fr_var 11110;c3o 01010;fe_ix 03110;fe_add 02010;fs_ret 01010;fs_set 14310;d7h 11110;fs_nil 00010;fs_if 03010;fe_ixN 13210;d7u 16510;fe_len 13210;CompOk.mk 05110;fe_tup 01010;d3h 18710;fe_isi 15410;d2z 12110;fe_sub 02010;d6s 00010;d6t 14310;fe_lst 01010;d0v 01010;fe_mul 02010;fe_bl 00010;fe_and 02010;d3j 03110;d6y 01010;d6w 02110;fe_one 01010;fe_eq 12010;d7f 00010;ff_lst 01010;fe_app 15410;fb_lt 12010;fe_mod 02010;fb_ne 12010;fw_or1 01010;fw_or 02010;d6r 01010;fe_sl 03010;fb_not 01010;fs_ix 15310;fb_gt 02010;fb_eq 12010;d6q 01010;fw_and 02010;d3d 13210;d7g 11010;fe_le 12010;fe_non 00010;d8h 13210;d7k 16510;d7l 13210;d7o 15310;d6x 15310;d6u 12210;fe_if 03010;fe_pow 02010;fe_abs 13210;d3f 13210;d7t 02010;fb_isN 01010;d8g 01010;d3c 16510;d6z 00010;d3e 13210;d3b 02010;fb_in2 13010;fe_dgN 13210;d7n 13210;d7s 14310;fe_ge 02010;d7r 16510;fe_all 13210;fe_not 01010;fe_isN 01010;fe_or 02010;ff_add 02010;d7m 13210;fs_whl 02010;fe_slN 13110;fb_eqN 12110;d3a 00010;d7q 13210;d7j 15310;d7p 13210;fe_sum 13210;fe_any 13210;d3g 13210;fe_ne 12010;d3i 16510;c7l 13310;fs_tup 14210;fah_of 01010;d6v 01010;fr_of 01010;fb_val 02110;fb_w 01010;d3c 16511;d7j 15311;d7k 16511;fi_rng 13200;fi_seq 01000;d7b 15300;d7c 13200;fi_zip 15300;d7e 15300;d7d 12200;d2y 12200;d0w 00000;fe_bl 00000;fe_non 00000".drop 1).toString.splitOn ";" do
  let [n,c]:=r.splitOn " " | continue
  let [a,k,s,w,e]:=c.toList.map fun x=>x.toNat - 48 | continue
  let f:=Lean.mkIdent n.toName
  let mut as:Array Lean.Term:=if a=1 then #[g] else #[]
  for _ in [0:k] do as:=as.push (← `(?_))
  let mut t ← if as.isEmpty then `(tactic| exact $f) else `(tactic| refine $f $as*)
  if w=1 then t ← `(tactic| with_reducible $t:tactic)
  if e=1 then t ← `(tactic| ((with_reducible refine a6n ?_); $t:tactic))
  for _ in [0:s] do t ← `(tactic| (($t:tactic); first | decide +kernel | rfl))
  ts:=ts.push (← `(Lean.Parser.Tactic.tacticSeq| $t:tactic))
 ts:=ts.push (← `(Lean.Parser.Tactic.tacticSeq| first | decide +kernel))
 `(tactic| repeat' first $[| $ts]*)
local macro_rules | `(tactic| ac_nf)=>do
 let g:=Lean.mkIdent `G
 `(tactic| (intro _ $g:ident; ac_rfl))
local macro_rules | `(tactic| eq_refl)=>do
 let g:=Lean.mkIdent `G
 `(tactic| (intro $g:ident; ac_rfl))
local macro_rules | `(tactic| exists $e)=>`(tactic| (refine $e; ac_rfl))
local macro_rules | `(tactic| exists $e,$g:ident)=>`(tactic| (intro X call n $g:ident; refine $e; ac_rfl))
theorem db0:DB d0 false bd0:=by
 exists a1a ?_ ?_,G
theorem db1:DB d1 false bd1:=by
 exists a1a ?_ ?_,G
 exists a6n (a2f G (own:=["first"]) (md':=[]) ?_)
 ac_nf
 ac_nf
 ac_nf
theorem db2:DB d2 false bd2:=by
 exists a1a ?_ ?_,G
 exists a4l G (md':=[.imm,.imm,.imm,.own,.imm,.own]) ?_ ?_ ?_ ?_
 eq_refl
 exists a4l G (md':=[.imm,.imm,.imm,.own,.imm,.own]) ?_ ?_ ?_ ?_
 eq_refl
theorem db3:DB d3 true bd3:=by
 exists a1a ?_ ?_,G
 exists a4l G (md':=[.imm,.own]) ?_ ?_ ?_ ?_
 eq_refl
theorem db4:DB d4 false bd4:=by
 exists a1a ?_ ?_,G
theorem db5:DB d5 true bd5:=by
 exists a1a ?_ ?_,G
theorem db6:DB d6 false bd6:=by
 exists a1a ?_ ?_,G
theorem db7:DB d7 false bd7:=by
 exists a1a ?_ ?_,G
theorem db8:DB d8 false bd8:=by
 exists a1a ?_ ?_,G
 exists a6n (a2f G (own:=["_law_k"]) (md':=[.own]) ?_)
 ac_nf
 ac_nf
 ac_nf
 exists a6n (a2f G (own:=["_law_k"]) (md':=[.own]) ?_)
 ac_nf
 ac_nf
 ac_nf
theorem db9:DB d9 false bd9:=by
 exists a1a ?_ ?_,G
 exists a6n (a2f G (own:=["_law_one","_law_other"]) (md':=[]) ?_)
 ac_nf
 ac_nf
 ac_nf
theorem db10:DB d10 false d3q:=by
 delta d3q
 exists c3o ?_,G
theorem db11:DB d11 false d9j:=by
 exists a1a ?_ ?_,G
theorem db12:DB d12 true d9i:=by
 exists a1a ?_ ?_,G
 exists b1s G (own:=["_law_end"]) (md':=[]) ?_ ?_ ?_
 ac_nf
 ac_nf
 ac_nf
 exists a2f G (own:=["_law_end"]) (md':=[]) ?_
 ac_nf
 ac_nf
 ac_nf
theorem db13:DB d13 false d9h:=by
 exists a1a ?_ ?_,G
 exists a4l G (md':=[.imm,.imm,.imm,.own,.imm,.imm,.own]) ?_ ?_ ?_ ?_
 eq_refl
 exists b1s G (own:=["_law_end"]) (md':=[.imm,.imm,.imm,.own,.imm,.imm,.own]) ?_ ?_ ?_
 ac_nf
 ac_nf
 ac_nf
 exists b1s G (own:=["_law_end"]) (md':=[.imm,.imm,.imm,.own,.imm,.imm,.own]) ?_ ?_ ?_
 ac_nf
 ac_nf
 ac_nf
theorem db14:DB d14 false d9g:=by
 exists a1a ?_ ?_,G
 exists a4l G (md':=[]) ?_ ?_ ?_ ?_
 eq_refl
 exists a6n (a2f G (own:=["_law_kept"]) (md':=[]) ?_)
 ac_nf
 ac_nf
 ac_nf
theorem db15:DB d15 true d9f:=by
 exists a1a ?_ ?_,G
 exists a4l G (md':=[.imm,.own]) ?_ ?_ ?_ ?_
 eq_refl
theorem db16:DB d16 false d9e:=by
 exists a1a ?_ ?_,G
 exists a4l G (md':=[.imm,.own]) ?_ ?_ ?_ ?_
 eq_refl
 exists a6n (a2f G (own:=["_law_begin","_law_end"]) (md':=[.imm,.own]) ?_)
 ac_nf
 ac_nf
 ac_nf
 exists a6n (a2f G (own:=["_law_begin","_law_end"]) (md':=[.imm,.own]) ?_)
 ac_nf
 ac_nf
 ac_nf
 exists a6n (a2f G (own:=["_law_one"]) (md':=[.imm,.frz]) ?_)
 ac_nf
 ac_nf
 exists a6n (a2f G (own:=["_law_other"]) (md':=[.imm,.frz]) ?_)
 ac_nf
 ac_nf
 ac_nf
 ac_nf
theorem db17:DB d17 false d3p:=by
 delta d3p
 exists c3o ?_,G
theorem db18:DB d18 false d9d:=by
 exists a1a ?_ ?_,G
 exists a4l G (md':=[.imm,.imm,.own,.imm,.imm,.imm,.imm,.own]) ?_ ?_ ?_ ?_
 eq_refl
 exists a4l G (md':=[.imm,.imm,.own,.imm,.imm,.imm,.imm,.own]) ?_ ?_ ?_ ?_
 eq_refl
noncomputable def rc (d:Df):DefRec:=⟨Γe d.name,a5c d.st,a1w d.st,a0l d.st,d1r d.st⟩
noncomputable def recs:List DefRec:=[rc d0,rc d1,rc d2,rc d3,rc d4,rc d5,rc d6,rc d7,rc d8,rc d9,rc d10,rc d11,rc d12,rc d13,rc d14,rc d15,rc d16,rc d17,rc d18]
noncomputable def view:Program:=c7n PySem.Challenge.pw_keepwhole_k35_pairs_not_beaten
theorem recs_eq:recs=recsOf view:=by kernel_rfl!
noncomputable def PD (K:Frag) (mg:Str→Option Value) (i:Nat) (x:Str):Prop:=∃ df fd fa fdd,tb[i]?=some fd∧Df.ok df fd.np fd.ns fd.io=true∧(∀ X call n,Good X (df.cc fns) n (spK tb call)→FSs X (df.cc fns) fd.fr (a1w df.st) (fd.body call))∧Fun K (Γe df.name) (Γe df.name) df.st fa fdd∧mg x=some (.ref fa)∧Binds K fdd df.ps []
local macro_rules | `(tactic| exists $d,$b,$j,$u)=>`(tactic| (refine And.intro (have ⟨fa,fd,m,F⟩:=DIn.fn (by assumption) ((by assumption:∀ d∈recs,DIn _ _ d) (rc $d) (List.mem_of_getElem? (i:=$j) rfl)); ⟨$d,_,fa,fd,rfl,by decide +kernel,$b,F,m,F.binds fun _ _ _ _ _ _ us hl=>$u (P:=fun us=>bindArgs _ ⟨us,[]⟩=pure (List.zip _ us)) hl (by intros; first | kernel_rfl! | rfl)⟩) ?_))
theorem d8k {K:Frag} {h:Heap} {mg:Str→Option Value} (A:AllIn K h) (D:∀ d∈recs,DIn K mg d):EachI (PD K mg) 0 fns:=by
 exists d0,db0,0,us3
 exists d1,db1,1,us2
 exists d2,db2,2,us2
 exists d3,db3,3,us1
 exists d4,db4,4,us2
 exists d5,db5,5,us2
 exists d6,db6,6,us2
 exists d7,db7,7,us2
 exists d8,db8,8,us2
 exists d9,db9,9,us2
 exists d10,db10,10,us3
 exists d11,db11,11,us4
 exists d12,db12,12,us4
 exists d13,db13,13,us2
 exists d14,db14,14,us1
 exists d15,db15,15,us1
 exists d16,db16,16,us1
 exists d17,db17,17,us2
 exists d18,db18,18,us1
 trivial
theorem law_fn (w:World) (K:Frag) (mg:Str→Option Value) (fa:Addr) (h:Heap) (A:AllIn K h) (D:∀ d∈recs,DIn K mg d) (blt:∀ b∈bltNames,mg (Γe b)=none) (hm:mg (Γe "law")=some (.ref fa)) :
  ∃ fd:FuncData,(∀ (s:Shared) (u:Value),BindsTo s fd ⟨[u],[]⟩ [(Γe "_law_script",u)])∧∀ base:Heap,FnOk PySem.Challenge.pw_keepwhole_k35_pairs_not_beaten w K mg base CX0 14 fa fd [Γe "_law_script"] (spT K tb (callW tb 14) 18):=by
 obtain ⟨fa2,fd,m,F⟩:=DIn.fn A (D (rc d18) (List.mem_of_getElem? (i:=18) rfl))
 have e:=hm.symm.trans m
 cases e
 have E:∀ (f:Nat) (x:Str),fns[f]?=some x→PD K mg f x:=fun f x hx=>by
  have:=EachI.get (d8k A D) f x hx
  rwa [Nat.zero_add] at this
 refine ⟨fd,?_,fun base=>b8c (df:=d18) F rfl (by nofun) db18 (b9r blt E 13) blt⟩
 obtain ⟨oc,od,kV,doc,pm,an,cdv,ct,osl,rfl,lk,hcd⟩:=F.ex
 exact fun s v=>.of_eq rfl
end Kq
end
set_option maxHeartbeats 0
section
open PySem PySem.W PyProof.Rows
theorem Kq.said : PySem.Challenge.rw_keepwhole_k35_pairs_not_beaten.wellSaid = true := by nofun
theorem Kq.left : LeftO PySem.Challenge.rw_keepwhole_k35_pairs_not_beaten.prog Kq.view [] (fun s => xlAt Kq.view [] s && recOk (RowW.records PySem.Challenge.rw_keepwhole_k35_pairs_not_beaten.row.toRowW) s) (fun _ => ()) (fun _ => ()) 3000 := by
  intro w
  kernel_rfl!
theorem Kq.freeAll : (Kq.bltNames.all fun b => Kq.freeIn Kq.view (looseW Kq.view []) (Str.ofString b)) = true := by nofun
theorem Kq.hdef : defOf Kq.view PySem.Challenge.rw_keepwhole_k35_pairs_not_beaten.name = some (Kq.rc Kq.d18, []) := by kernel_rfl!
theorem Kq.hp : PySem.Challenge.rw_keepwhole_k35_pairs_not_beaten.prog.theDef PySem.Challenge.rw_keepwhole_k35_pairs_not_beaten.name = some ((Kq.rc Kq.d18).params, (Kq.rc Kq.d18).body, (Kq.rc Kq.d18).scope) := by kernel_rfl!
theorem Kq.okq : (chainsOk Kq.view && opensWell PySem.Challenge.rw_keepwhole_k35_pairs_not_beaten.prog && (frees PySem.Challenge.rw_keepwhole_k35_pairs_not_beaten.row.toRowW && PySem.Challenge.rw_keepwhole_k35_pairs_not_beaten.row.within.isEmpty)) = true := by nofun
theorem Kq.prom : PySem.Challenge.rw_keepwhole_k35_pairs_not_beaten.row.toRowW.promised := ⟨[.list []], by nofun, by nofun⟩
theorem PySem.Challenge.cw_keepwhole_k35_pairs_not_beaten_holds : PySem.Challenge.rw_keepwhole_k35_pairs_not_beaten.Holds :=
  Kq.row_holds Kq.said Kq.left Kq.hdef Kq.hp rfl rfl Kq.okq ⟨rfl, rfl, rfl, rfl, rfl, by nofun⟩ Kq.prom (Kq.walk2 (n := 63) (k := 14) (ds := Kq.recs) (x := Str.ofString "_law_script") (sp := fun K => Kq.spT K Kq.tb (Kq.callW Kq.tb 14) 18) rfl (by decide) rfl ⟨rfl, by decide, by decide, rfl⟩ Kq.recs_eq Kq.freeAll Kq.law_fn fun _ _ a ns hl hO hS => Kq.law_sp rfl rfl rfl hO hS (Kq.law_val ns))
end
