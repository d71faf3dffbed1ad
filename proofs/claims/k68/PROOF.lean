import PyProof.Rows.All
import Wide.All
import OpenK.AllK
import Wide.FinOn
import Lean
import PyProof.EqAt
import PyProof.EqKinds
import PyProof.TupleCall
import PyProof.DictCompW
import PyProof.Rows.Range3
import KE.KRevIter
import PyProof.AutoRange
import PyProof.FactsAll.range_2
import PyProof.Rows.CallKwBuiltin
import PyProof.ListRange
import PyProof.TupleOfGen
import PyProof.P3Eq
import PyProof.Rows.RowHeap
import PyProof.CollectIter
import PyProof.WalksMore
import PyProof.AutoSeq1
import KE.KListMore
import PyProof.AttrMissHeap
import KE.KDictOf
import KE.KSortTup
import PyProof.Rows.SortWalk
import PyProof.SumWalkG
import PyProof.DictWalks
import KE.KDictSum
import PySem.Challenge.RW_keepwhole_k68_whole_reads_beside_all_lay
open PySem renaming wpAny_bind → Γa
open PySem renaming wpAny_pure → Γb
open PySem.Heap renaming get?_push_of_some → Γc
open PySem.W renaming Frag → Γd
open PySem.Str renaming ofString → Γe
open PySem.Heap renaming get?_update_other → Γf
open PySem renaming wpAny_holding → Γg
open List renaming mem_cons_of_mem → Γh
open Nat renaming le_refl → Γi
open List renaming replicate → Γj
open Bool renaming false_ne_true → Γk
open PySem.Heap renaming lt_size → Γl
open PySem.Heap renaming get?_push_size → Γm
open List renaming mem_cons_self → Γn
open Nat renaming ne_of_lt → Γo
open Bool renaming false_eq_true → Γp
local macro_rules | `(tactic| nofun) => `(tactic| decide +kernel)
set_option Elab.async false
set_option linter.all false
set_option maxRecDepth 100000
section
namespace L2
open PySem PySem.Spec PyProof.Rows
abbrev Key:=Sum Int Str
def b5s:Key→Value→Bool
 | .inl k,v=>Value.isInt k v
 | .inr x,v=>Value.isStrOf x v
def keyH (w:World):Key→Int
 | .inl k=>hashInt k
 | .inr x=>hashStr w x
theorem a0z:∀ {k:Key} {v:Value},b5s k v=true→(∃ i t,k=Sum.inl i∧v=Value.int i t) ∨ (∃ x t,k=Sum.inr x∧v=Value.str x t)
 | .inl i,v,h=>by
  obtain ⟨t,e⟩:=Value.isInt_shape (k:=i) (v:=v) h
  exact .inl ⟨i,t,rfl,e⟩
 | .inr x,v,h=>by
  obtain ⟨t,e⟩:=Value.isStrOf_shape (x:=x) (v:=v) h
  exact .inr ⟨x,t,rfl,e⟩
theorem b8y (i:Int) (t:Tok):b5s (.inl i) (.int i t)=true:=by simp [b5s,Value.isInt]
theorem b8x (x:Str) (t:Tok):b5s (.inr x) (.str x t)=true:=by simp [b5s,Value.isStrOf]
theorem d1w (a b:Int):decide ((Sum.inl a:Key)=Sum.inl b)=(a == b):=by
 by_cases e:a=b
 ·subst e; simp
 ·have h:¬ (Sum.inl a:Key)=Sum.inl b:=fun q=>e (Sum.inl.inj q)
  rw [decide_eq_false h]
  exact (beq_eq_false_iff_ne.mpr e).symm
theorem d1t (a b:Str):decide ((Sum.inr a:Key)=Sum.inr b)=decide (a=b):=by
 by_cases e:a=b
 ·subst e; simp
 ·have h:¬ (Sum.inr a:Key)=Sum.inr b:=fun q=>e (Sum.inr.inj q)
  rw [decide_eq_false h,decide_eq_false e]
theorem d1v (a:Int) (b:Str):decide ((Sum.inl a:Key)=Sum.inr b)=false:=decide_eq_false (fun q=>nomatch q)
theorem d1u (a:Str) (b:Int):decide ((Sum.inr a:Key)=Sum.inl b)=false:=decide_eq_false (fun q=>nomatch q)
def a0t (prog:Program) (w:World):PySem.KeyKind prog w Key where
 is:=b5s
 hash:=keyH w
 inj:=fun v a b ha hb=>by
  rcases a0z ha with ⟨i,t,rfl,rfl⟩ | ⟨x,t,rfl,rfl⟩
  ·rcases a0z hb with ⟨j,u,rfl,e⟩ | ⟨y,u,rfl,e⟩
   ·injection e with e1 _; rw [e1]
   ·exact nomatch e
  ·rcases a0z hb with ⟨j,u,rfl,e⟩ | ⟨y,u,rfl,e⟩
   ·exact nomatch e
   ·injection e with e1 _; rw [e1]
 byValue:=fun k v h=>by
  rcases a0z h with ⟨i,t,rfl,rfl⟩ | ⟨x,t,rfl,rfl⟩ <;> rfl
 pyHash:=fun hv h=>by
  rcases a0z hv with ⟨i,t,rfl,rfl⟩ | ⟨x,t,rfl,rfl⟩
  ·exact wpAny_pyHash_int h
  ·exact wpAny_pyHash_str h
 eqBool:=fun hu hv h=>by
  rcases a0z hu with ⟨i,t,rfl,rfl⟩ | ⟨x,t,rfl,rfl⟩
  ·rcases a0z hv with ⟨j,u,rfl,rfl⟩ | ⟨y,u,rfl,rfl⟩
   ·rw [d1w] at h; exact wpAny_eqBool_int h
   ·rw [d1v] at h; exact SeqAt.EqAt.int_str i t y u _ _ _ _ h
  ·rcases a0z hv with ⟨j,u,rfl,rfl⟩ | ⟨y,u,rfl,rfl⟩
   ·rw [d1u] at h; exact SeqAt.EqAt.str_int x t j u _ _ _ _ h
   ·rw [d1t] at h; exact wpAny_eqBool_str h
 «strs»:=fun k x t v h=>by
  rcases a0z h with ⟨i,u,rfl,e⟩ | ⟨y,u,rfl,e⟩
  ·exact nomatch e
  ·injection e with e1 _
   subst e1
   cases v <;> rfl
theorem b2x (prog:Program) (w:World) (i:Int) (t:Tok):(a0t prog w).is (.inl i) (.int i t)=true:=b8y i t
theorem b2w (prog:Program) (w:World) (x:Str) (t:Tok):(a0t prog w).is (.inr x) (.str x t)=true:=b8x x t
end L2
namespace L2
open PySem PySem.Spec PyProof.Rows
inductive V where
 | non | bl (b:Bool) | int (i:Int) | str (x:Str) | byt (b:Array UInt8) | flt (b:UInt64) | ref (a:Addr) | ty (n:String)
 deriving DecidableEq
def RelV:V→Value→Prop
 | .non,u=>u=Value.none
 | .bl b,u=>u=Value.bool b
 | .int i,u=>∃ t,u=Value.int i t
 | .str x,u=>∃ t,u=Value.str x t
 | .byt b,u=>∃ t,u=Value.bytes b t
 | .flt b,u=>∃ t,u=Value.float b t
 | .ref a,u=>u=Value.ref a
 | .ty n,u=>u=Value.type n
abbrev Vals:List V→List Value→Prop:=Paired RelV
theorem Vals.length {xs:List V} {us:List Value} (r:Vals xs us):xs.length=us.length:=Paired.length r
theorem Vals.get:∀ {xs:List V} {us:List Value} {i:Nat} {x:V},Vals xs us→xs[i]?=some x→∃ u,us[i]?=some u∧RelV x u
 | _,_,_,_,.nil,e=>by simp at e
 | _,_,0,_,.cons r _,e=>by simp at e; subst e; exact ⟨_,rfl,r⟩
 | _,_,i + 1,x,.cons _ t,e=>by
  obtain ⟨u,h1,h2⟩:=Vals.get (i:=i) (x:=x) t (by simpa using e)
  exact ⟨u,by simpa using h1,h2⟩
theorem Vals.set {x:V} {u:Value} (r:RelV x u):∀ {xs:List V} {us:List Value} (i:Nat),Vals xs us→Vals (xs.set i x) (us.set i u)
 | _,_,_,.nil=>.nil
 | _,_,0,.cons _ t=>.cons r t
 | _,_,i + 1,.cons q t=>.cons q (Vals.set r i t)
theorem Vals.append:∀ {xs ys:List V} {us ws:List Value},Vals xs us→Vals ys ws→Vals (xs++ys) (us++ws)
 | _,_,_,_,.nil,s=>s
 | _,_,_,_,.cons r t,s=>.cons r (Vals.append t s)
theorem Vals.take:∀ {xs:List V} {us:List Value} (n:Nat),Vals xs us→Vals (xs.take n) (us.take n)
 | _,_,0,_=>.nil
 | _,_,_ + 1,.nil=>.nil
 | _,_,n + 1,.cons r t=>.cons r (Vals.take n t)
theorem Vals.drop:∀ {xs:List V} {us:List Value} (n:Nat),Vals xs us→Vals (xs.drop n) (us.drop n)
 | _,_,0,r=>r
 | _,_,_ + 1,.nil=>.nil
 | _,_,n + 1,.cons _ t=>Vals.drop n t
def RelO:Option V→Option Value→Prop
 | some v,some u=>RelV v u
 | none,none=>True
 | _,_=>False
def KV {κ:Type}:List (κ×V)→List (κ×Value)→Prop:=Paired fun (p:κ×V) (q:κ×Value)=>p.1=q.1∧RelV p.2 q.2
def kV:Key→V
 | .inl i=>.int i
 | .inr x=>.str x
inductive HO where
 | lst (xs:List V)
 | tup (xs:List V)
 | dK (kvs:List (Key×V)) | dT (kvs:List (List Key×V))
 | set (S:Int→Bool) (n:Nat)
 | ins (C dx:Addr) (fs:List (Str×V))
 | own (x:Addr)
 | xd (fs:List (Str×V))
 | met (f x:Addr)
 | rng (lo hi:Int)
 | frz (o:Obj) (u:HO)
 | tbl (ps:Array Value)
 | ext (φ:Heap→Prop)
abbrev Hp:=Addr→Option HO
def upd (H:Hp) (a:Addr) (o:HO):Hp:=fun b=>if b=a then some o else H b
theorem a0f {H:Hp} {a:Addr} {o:HO}:upd H a o a=some o:=by unfold upd; rw [if_pos rfl]
theorem a0e {H:Hp} {a b:Addr} {o:HO} (h:b≠a):upd H a o b=H b:=by unfold upd; rw [if_neg h]
theorem d1n {H:Hp} {a b:Addr} {o u:HO} (h:H a=some o) (h':H b=some u) (d:o≠u):a≠b:=by
 intro e; subst e; rw [h] at h'; exact d (Option.some.inj h')
theorem a0w {H:Hp} {a b:Addr} {o:HO} (h:H a=some o) (h':H b=none):a≠b:=by
 intro e; subst e; rw [h] at h'; cases h'
section
variable (P:Program) (w:World)
def ObjOk (H:Hp) (h:Heap) (a:Addr):HO→Prop
 | .lst xs=>xs.length≤sizeLine∧∃ (its:List Value) (n:Nat),Vals xs its∧h.get? a=some { cls:=.type "list",data:=.seq its.toArray n }
 | .tup xs=>xs.length≤sizeLine∧∃ its:List Value,Vals xs its∧IsTup h a its.toArray
 | .dK kvs=>kvs.length≤sizeLine∧(a == sysModules)=false∧∃ vs,KV kvs vs∧h.DictOf (a0t P w) a vs
 | .dT kvs=>kvs.length≤sizeLine∧(a == sysModules)=false∧∃ xs:List (List Key×Addr×Value),
   Paired (fun (p:List Key×V) (q:List Key×Addr×Value)=>p.1=q.1∧H q.2.1=some (.tup (p.1.map kV))∧RelV p.2 q.2.2) kvs xs ∧
   ∃ o es ep,h.get? a=some o∧o.ExactDict∧o.data=.dict es ep∧es.toList=xs.map (entryOfKey (tupleKind (a0t P w)))∧(xs.map (·.1)).Nodup
 | .set S n=>h.SetOf (intKind P w) a S n
 | .ins C dx fs=>H dx=some (.own a)∧fs.length≤1000∧dx≠a∧h.get? a=some (PySem.W.instObj C dx) ∧
   ∃ mA,h.Ns1 dx mA∧(∀ f,RelO (fs.lookup f) (mA f))∧PySem.Within mA (fs.map (·.1))
 | .own _=>∃ o,h.get? a=some o
 | .xd fs=>∃ mA,h.Ns1 a mA∧∀ f,RelO (fs.lookup f) (mA f)
 | .rng lo hi=>∃ t u v,h.get? a=some { cls:=.type "range",data:=.fields #[.int lo t,.int hi u,.int 1 v] }
 | .frz o u=>h.get? a=some o∧ObjOk H h a u
 | .tbl ps=>h.get? a=some { cls:=.none,data:=.fields ps }
 | .met f x=>h.get? a=some (PySem.W.methodObj (.ref f) (.ref x))
 | .ext φ=>φ h∧(∃ o,h.get? a=some o)∧∀ h1 h2:Heap,φ h1→(∀ o,h1.get? a=some o→h2.get? a=some o)→φ h2
def HOk (H:Hp) (h:Heap):Prop:=∀ a o,H a=some o→ObjOk P w H h a o
end
section
variable {P:Program} {w:World} {H H':Hp} {h h':Heap} {a:Addr} {o:HO}
theorem ObjOk.lt (x:ObjOk P w H h a o):a < h.objs.size:=by
 cases o with
 | lst xs=>obtain ⟨_,_,_,_,e⟩:=x; exact Γl e
 | tup xs=>obtain ⟨_,_,_,p⟩:=x; exact p.lt
 | dK kvs=>obtain ⟨_,_,_,_,o,_,_,e,_⟩:=x; exact Γl e
 | dT kvs=>obtain ⟨_,_,_,_,o,_,_,e,_⟩:=x; exact Γl e
 | set S n=>obtain ⟨o,_,_,_,e,_⟩:=x; exact Γl e
 | ins C dx fs=>obtain ⟨_,_,_,e,_⟩:=x; exact Γl e
 | own y=>obtain ⟨_,e⟩:=x; exact Γl e
 | xd fs=>obtain ⟨_,⟨_,_,_,e,_⟩,_⟩:=x; exact Γl e
 | rng lo hi=>obtain ⟨_,_,_,e⟩:=x; exact Γl e
 | frz ob u=>obtain ⟨e,_⟩:=x; exact Γl e
 | tbl ps=>exact Γl (show h.get? a=some _ from x)
 | met f y=>exact Γl (show h.get? a=some _ from x)
 | ext φ=>obtain ⟨_,⟨_,e⟩,_⟩:=x; exact Γl e
theorem Paired.mapP {α β:Type} {F G:α→β→Prop}:∀ {l₁:List α} {l₂:List β},Paired F l₁ l₂→(∀ a b,F a b→G a b)→Paired G l₁ l₂
 | _,_,.nil,_=>.nil
 | _,_,.cons r t,f=>.cons (f _ _ r) (Paired.mapP t f)
theorem ObjOk.stay (x:ObjOk P w H h a o) (k:∀ b u,(b=a ∨ H b=some (.own a))→h.get? b=some u→h'.get? b=some u)
  (ho:∀ b,H b=some (.own a)→H' b=some (.own a)) (ht:∀ b xs,H b=some (.tup xs)→H' b=some (.tup xs)):ObjOk P w H' h' a o:=by
 induction o with
 | lst xs=>obtain ⟨z,its,n,r,e⟩:=x; exact ⟨z,its,n,r,k _ _ (.inl rfl) e⟩
 | tup xs=>obtain ⟨z,its,r,ob,e,c⟩:=x; exact ⟨z,its,r,ob,k _ _ (.inl rfl) e,c⟩
 | dK kvs=>obtain ⟨z,y,vs,r,ob,es,ep,e,c⟩:=x; exact ⟨z,y,vs,r,ob,es,ep,k _ _ (.inl rfl) e,c⟩
 | dT kvs =>
  obtain ⟨z,y,xs,r,ob,es,ep,e,c⟩:=x
  exact ⟨z,y,xs,Paired.mapP r fun p q z=>⟨z.1,ht _ _ z.2.1,z.2.2⟩,ob,es,ep,k _ _ (.inl rfl) e,c⟩
 | set S n=>obtain ⟨ob,es,ep,t,e,c⟩:=x; exact ⟨ob,es,ep,t,k _ _ (.inl rfl) e,c⟩
 | ins C dx fs =>
  obtain ⟨d,z,ne,e,mA,⟨od,es,ep,e2,c⟩,r⟩:=x
  exact ⟨ho _ d,z,ne,k _ _ (.inl rfl) e,mA,⟨od,es,ep,k _ _ (.inr d) e2,c⟩,r⟩
 | own y=>obtain ⟨ob,e⟩:=x; exact ⟨ob,k _ _ (.inl rfl) e⟩
 | xd fs=>obtain ⟨mA,⟨od,es,ep,e,c⟩,r⟩:=x; exact ⟨mA,⟨od,es,ep,k _ _ (.inl rfl) e,c⟩,r⟩
 | rng lo hi=>obtain ⟨t,u,v,e⟩:=x; exact ⟨t,u,v,k _ _ (.inl rfl) e⟩
 | frz ob u ih=>obtain ⟨e,q⟩:=x; exact ⟨k _ _ (.inl rfl) e,ih q⟩
 | tbl ps =>
  have e:h.get? a=some { cls:=.none,data:=.fields ps }:=x
  show h'.get? a=some { cls:=.none,data:=.fields ps }
  exact k a _ (.inl rfl) e
 | met f y =>
  have e:h.get? a=some (PySem.W.methodObj (.ref f) (.ref y)):=x
  show h'.get? a=some (PySem.W.methodObj (.ref f) (.ref y))
  exact k a _ (.inl rfl) e
 | ext φ=>obtain ⟨p,⟨o,e⟩,st⟩:=x; exact ⟨st _ _ p fun o q=>k _ _ (.inl rfl) q,⟨o,k _ _ (.inl rfl) e⟩,st⟩
theorem HOk.lt (x:HOk P w H h) (e:H a=some o):a < h.objs.size:=(x a o e).lt
theorem HOk.fresh (x:HOk P w H h) (e:h.objs.size≤a):H a=none:=by
 cases q:H a with
 | none=>rfl
 | some u=>exact absurd (Nat.lt_of_lt_of_le (x.lt q) e) (Nat.lt_irrefl _)
theorem HOk.kept (x:HOk P w H h) (k:∀ b u,h.get? b=some u→h'.get? b=some u):HOk P w H h':=fun a o e =>
 (x a o e).stay (fun b u _ q=>k b u q) (fun _ q=>q) fun _ _ q=>q
theorem HOk.laid (x:HOk P w H h) (k:∀ b u,h.get? b=some u→h'.get? b=some u) (hp:h.objs.size≤a) (new:ObjOk P w (upd H a o) h' a o):HOk P w (upd H a o) h':=fun b u e=>by
 have hn:=x.fresh hp
 by_cases hb:b=a
 ·subst hb; rw [a0f] at e; cases e; exact new
 ·rw [a0e hb] at e
  exact (x b u e).stay (fun c v _ q=>k c v q) (fun c q=>by rw [a0e (a0w q hn)]; exact q) fun c xs q=>by rw [a0e (a0w q hn)]; exact q
end
def Rd (H:Hp) (a:Addr) (u:HO):Prop:=H a=some u ∨ ∃ o,H a=some (.frz o u)
theorem Rd.ok {P:Program} {w:World} {H:Hp} {h:Heap} {a:Addr} {u:HO} (r:Rd H a u) (x:HOk P w H h):ObjOk P w H h a u:=by
 rcases r with r | ⟨o,r⟩
 ·exact x a u r
 ·obtain ⟨_,q⟩:=x a _ r
  exact q
def Mut:Option HO→Prop
 | some (.lst _)=>True
 | some (.dK _)=>True
 | some (.dT _)=>True
 | some (.set _ _)=>True
 | some (.ins _ _ _)=>True
 | some (.ext _)=>True
 | _=>False
section
variable {P:Program} {w:World} {H:Hp} {h h':Heap} {x e:Addr} {o':HO}
theorem HOk.write (ok:HOk P w H h) (mu:Mut (H x)) (he:e=x ∨ H e=some (.own x)) (k:∀ b u,b≠e→h.get? b=some u→h'.get? b=some u) (heo:∃ u,h'.get? e=some u)
  (new:ObjOk P w (upd H x o') h' x o'):HOk P w (upd H x o') h':=fun b u q=>by
 have nown:∀ c y,H c=some (.own y)→c≠x:=fun c y r z=>by subst z; rw [r] at mu; exact mu
 have ntup:∀ c xs,H c=some (.tup xs)→c≠x:=fun c xs r z=>by subst z; rw [r] at mu; exact mu
 by_cases hb:b=x
 ·subst hb; rw [a0f] at q; cases q; exact new
 ·rw [a0e hb] at q
  by_cases hbe:b=e
  ·have q':H b=some (.own x):=by
    rcases he with z | z
    ·exact absurd (hbe.trans z) hb
    ·rw [hbe]; exact z
   rw [q] at q'; cases q'
   obtain ⟨v,hv⟩:=heo
   exact ⟨v,by rw [hbe]; exact hv⟩
  ·refine (ok b u q).stay (fun c v hc r=>k c v ?_ r) (fun c r=>by rw [a0e (nown c b r)]; exact r) fun c xs r=>by rw [a0e (ntup c xs r)]; exact r
   rcases hc with rfl | hc
   ·exact hbe
   ·rintro rfl
    rcases he with z | z
    ·exact nown c b hc z
    ·rw [hc] at z; cases z; exact hb rfl
end
structure Un (fs ex:List Addr) (H H':Hp) (h h':Heap):Prop where
 keep:∀ b o,h.get? b=some o→H b=none→b ∉ fs→b ∉ ex→h'.get? b=some o
 slot:∀ b o,h.get? b=some o→H b=none→b∈fs→b ∉ ex→∃ sl,h'.get? b=some { o with slots:=sl }
 free:∀ b o,h.get? b=some o→H b=none→b ∉ ex→H' b=none
 there:∀ b o,h.get? b=some o→b ∉ ex→∃ o',h'.get? b=some o'
 tups:∀ b xs,H b=some (.tup xs)→H' b=some (.tup xs)
 frzs:∀ b o u,H b=some (.frz o u)→H' b=some (.frz o u)
 tbls:∀ b ps,H b=some (.tbl ps)→∃ more,H' b=some (.tbl (ps++more))
section
variable {fs fs' ex ex':List Addr} {H H1 H2:Hp} {h h1 h2 h':Heap} {a x e:Addr} {o:HO}
theorem Un.any (u:Un fs ex H H1 h h1) {b:Addr} {ob:Obj} (q:h.get? b=some ob) (n:H b=none) (hx:b ∉ ex):∃ sl,h1.get? b=some { ob with slots:=sl }:=by
 by_cases hb:b∈fs
 ·exact u.slot b ob q n hb hx
 ·exact ⟨ob.slots,u.keep b ob q n hb hx⟩
theorem Un.trans (a:Un fs ex H H1 h h1) (b:Un fs ex H1 H2 h1 h2):Un fs ex H H2 h h2 where
 keep:=fun c ob q n hc hx=>b.keep c ob (a.keep c ob q n hc hx) (a.free c ob q n hx) hc hx
 slot:=fun c ob q n hc hx=>by
  obtain ⟨sl,e1⟩:=a.slot c ob q n hc hx
  obtain ⟨sl',e2⟩:=b.slot c _ e1 (a.free c ob q n hx) hc hx
  exact ⟨sl',e2⟩
 free:=fun c ob q n hx=>by
  obtain ⟨o',e1⟩:=a.there c ob q hx
  exact b.free c o' e1 (a.free c ob q n hx) hx
 there:=fun c ob q hx=>by
  obtain ⟨o',e1⟩:=a.there c ob q hx
  exact b.there c o' e1 hx
 tups:=fun c xs q=>b.tups c xs (a.tups c xs q)
 frzs:=fun c ob xs q=>b.frzs c ob xs (a.frzs c ob xs q)
 tbls:=fun c ps q=>by
  obtain ⟨m1,e1⟩:=a.tbls c ps q
  obtain ⟨m2,e2⟩:=b.tbls c _ e1
  exact ⟨m1++m2,by rw [e2,Array.append_assoc]⟩
theorem Un.kept (k:∀ b u,h.get? b=some u→h'.get? b=some u):Un fs ex H H h h' :=
 ⟨fun b ob q _ _ _=>k b ob q,fun b ob q _ _ _=>⟨ob.slots,k b ob q⟩,fun _ _ _ n _=>n,fun b ob q _=>⟨ob,k b ob q⟩,fun _ _ q=>q,fun _ _ _ q=>q,fun _ ps q=>⟨#[],by rw [q]; simp⟩⟩
theorem Un.refl:Un fs ex H H h h:=Un.kept fun _ _ q=>q
theorem Un.laid (k:∀ b u,h.get? b=some u→h'.get? b=some u) (hp:h.objs.size≤a) (hn:H a=none):Un fs ex H (upd H a o) h h' where
 keep:=fun b u q _ _ _=>k b u q
 slot:=fun b u q _ _ _=>⟨u.slots,k b u q⟩
 free:=fun b u q n _=>by rw [a0e (Γo (Nat.lt_of_lt_of_le (Γl q) hp))]; exact n
 there:=fun b u q _=>⟨u,k b u q⟩
 tups:=fun b xs q=>by rw [a0e (a0w q hn)]; exact q
 frzs:=fun b u xs q=>by rw [a0e (a0w q hn)]; exact q
 tbls:=fun b ps q=>⟨#[],by rw [a0e (a0w q hn),q]; simp⟩
theorem Un.write (mu:Mut (H x)) (he:e=x ∨ H e=some (.own x)) (k:∀ b u,b≠e→h.get? b=some u→h'.get? b=some u) (heo:∃ u,h'.get? e=some u):Un fs ex H (upd H x o) h h':=by
 have hx:∀ b,H b=none→b≠x:=fun b n z=>by subst z; rw [n] at mu; exact mu
 have hb:∀ b,H b=none→b≠e:=fun b n z=>by
  subst z
  rcases he with r | r
  ·exact hx b n r
  ·rw [n] at r; cases r
 have hm:∀ b u,H b=some u→¬ Mut (some u)→b≠x:=fun b u q nm z=>by subst z; rw [q] at mu; exact nm mu
 refine ⟨fun b u q n _ _=>k b u (hb b n) q,fun b u q n _ _=>⟨u.slots,k b u (hb b n) q⟩,fun b u q n _=>by rw [a0e (hx b n)]; exact n,fun b u q _=>?_,
  fun b xs q=>by rw [a0e (hm b _ q fun z=>z)]; exact q,fun b u xs q=>by rw [a0e (hm b _ q fun z=>z)]; exact q,fun b ps q=>⟨#[],by rw [a0e (hm b _ q fun z=>z),q]; simp⟩⟩
 by_cases hbe:b=e
 ·subst hbe; exact heo
 ·exact ⟨u,k b u hbe q⟩
end
def trk (h:Heap) (H:Hp):List Addr:=(List.range h.objs.size).filter fun a=>(H a).isSome
def c3e (h:Heap) (H:Hp):Heap:=PySem.W.hideAll h (trk h H)
theorem b9n (h:Heap) (H:Hp):(c3e h H).objs.size=h.objs.size:=PySem.W.hideAll_size _ _
theorem c3d {h:Heap} {H:Hp} {b:Addr} {o:Obj} (e:h.get? b=some o) (n:H b=none):(c3e h H).get? b=some o :=
 PySem.W.hideAll_get _ e fun hm=>by
  have q:(H b).isSome=true:=(List.mem_filter.mp hm).2
  rw [n] at q; simp at q
theorem c7i {h:Heap} {H:Hp} {b:Addr} {o:Obj} (e:(c3e h H).get? b=some o):h.get? b=some o∧H b=none:=by
 have e':h.get? b=some o:=PySem.W.of_hideAll (trk h H) e
 refine ⟨e',?_⟩
 cases q:H b with
 | none=>rfl
 | some x =>
  have hm:b∈trk h H:=List.mem_filter.mpr ⟨List.mem_range.mpr (Γl e'),by simp [q]⟩
  have z:(c3e h H).get? b=none:=PySem.W.hideAll_none (trk h H) hm
  rw [z] at e; cases e
def c8x (g h:Heap) (L:Addr):List (Addr×Obj):=(List.range h.objs.size).filterMap fun a=>if a=L ∨ (g.get? a).isSome=true then none else (h.get? a).map fun o=>(a,o)
def rest (g h:Heap) (L d:Addr):List (Addr×Obj):=(c8x g h L).filter fun p=>decide (p.1≠d)
end L2
namespace L2
open PySem PySem.Spec PyProof.Rows
structure Mod (K:Γd) (mg:Str→Option Value) (base:Heap):Prop where
 kin:K.In base
 glob:base.Ns mainGlobals mg
 blt:∃ mb,base.Ns builtinsNs mb∧∀ x:Str,x≠"__name__"→mb x=bootBuiltins x
 nolimit:base.NoLimit
structure Cx where
 prog:Program
 w:World
 K:Γd
 mg:Str→Option Value
 base:Heap
 A:Around
 N:List Str
 s₀:Shared
 H₀:Hp
 env:Env
 outer:List Env
 stack:List Env
 ex:List Addr
 fn:Str→Bool
 calm:Bool
 pn:List (Addr×Obj)
 xe:Value→Shared→Prop
def frs (l:List Env):List Addr:=l.filterMap (·.frame)
abbrev Cx.fs (X:Cx):List Addr:=frs X.outer
def Vis (sc:Scope) (x:Str):Prop:=sc.names.lookup x=some .local ∨ sc.names.lookup x=some .cell ∨ sc.names.lookup x=some .free
def Loc (sc:Scope) (x:Str):Prop:=sc.names.lookup x=some .local ∨ sc.names.lookup x=some .cell
def Look (env:Env) (h:Heap) (m:Str→Option Value) (x:Str) (u:Value):Prop :=
 (env.kindOf x=some .local∧m x=some u) ∨ ((env.kindOf x=some .cell ∨ env.kindOf x=some .free)∧∃ c,env.cells.lookup x=some c∧h.IsCell c (some u))
structure Cx.Ok (X:Cx):Prop where
 mod:Mod X.K X.mg X.base
 kind:X.env.scope.kind=.function
 glob:X.env.globals=mainGlobals
 blt:X.env.builtins=builtinsNs
 above:X.s₀.heap.objs.size≤X.env.locals
 inj:∀ x y c,X.env.cells.lookup x=some c→X.env.cells.lookup y=some c→x=y
 has:∀ x,(X.env.kindOf x=some .cell ∨ X.env.kindOf x=some .free)→∃ c,X.env.cells.lookup x=some c
 cab:∀ x c,X.fn x=true→X.env.cells.lookup x=some c→X.s₀.heap.objs.size≤c
 hd:X.calm=true→X.A.handled=none
 frames:X.A.frames=some X.stack
 stk:X.stack=X.outer ∨ (X.stack=X.env :: X.outer∧X.env.frame=some X.env.locals)
 exf:∀ b∈X.ex,b≠X.env.locals∧∀ x c,X.env.cells.lookup x=some c→c≠b
 bs:∀ b o,X.base.get? b=some o→X.s₀.heap.get? b=some o∧X.H₀ b=none
 bsz:X.base.objs.size≤X.s₀.heap.objs.size
 noex:∀ b o,X.base.get? b=some o→b ∉ X.ex
 exfs:∀ b∈X.ex,b ∉ X.fs
 funs:X.s₀.heap.FunFrames X.base X.outer
 frf:∀ b∈X.fs,X.H₀ b=none
structure Inv (X:Cx) (pins:List (Addr×Obj)) (σ:List (Option V)) (H:Hp) (s:Shared):Prop where
 ok:X.Ok
 os:s.os=X.s₀.os
 bare:AllBare s.gens
 base:Un X.fs X.ex X.H₀ H X.s₀.heap s.heap
 loc:∃ m,s.heap.Ns X.env.locals m∧∀ (i:Nat) (x:Str) (v:V),X.N[i]?=some x→σ[i]?=some (some v)→Vis X.env.scope x→∃ u,RelV v u∧Look X.env s.heap m x u
 cell:∀ x c,X.env.cells.lookup x=some c→∃ v,s.heap.IsCell c v
 free:H X.env.locals=none
 freeC:∀ x c,X.env.cells.lookup x=some c→H c=none
 pin:∀ p∈X.pn++pins,s.heap.get? p.1=some p.2∧H p.1=none∧p.1≠X.env.locals∧p.1 ∉ X.fs∧∀ v,p.2.data≠.cell v
 hok:HOk X.prog X.w H s.heap
 len:σ.length=X.N.length
section
variable {X:Cx} {pins:List (Addr×Obj)} {σ:List (Option V)} {H H':Hp} {s:Shared} {h':Heap}
theorem Cx.Ok.nofr (ok:X.Ok) {b:Addr} {o:Obj} (e:X.base.get? b=some o):b ∉ X.fs:=fun hb=>by
 have:=(ok.funs.mem hb).1
 rw [e] at this; cases this
theorem Inv.bs (I:Inv X pins σ H s):∀ b o,X.base.get? b=some o→s.heap.get? b=some o∧H b=none:=fun b o e =>
 ⟨I.base.keep b o (I.ok.bs b o e).1 (I.ok.bs b o e).2 (I.ok.nofr e) (I.ok.noex b o e),I.base.free b o (I.ok.bs b o e).1 (I.ok.bs b o e).2 (I.ok.noex b o e)⟩
theorem Inv.bk (I:Inv X pins σ H s):∀ b o,X.base.get? b=some o→s.heap.get? b=some o:=fun b o e=>(I.bs b o e).1
theorem Inv.mod (I:Inv X pins σ H s):Mod X.K X.mg X.base:=I.ok.mod
theorem Inv.kIn (I:Inv X pins σ H s):X.K.In s.heap:=I.ok.mod.kin.keeps I.bk
theorem Inv.nolimit (I:Inv X pins σ H s):s.heap.NoLimit:=I.ok.mod.nolimit.keeps I.bk
theorem Inv.lt (I:Inv X pins σ H s):X.env.locals < s.heap.objs.size:=let ⟨_,hn,_⟩:=I.loc; hn.lt
theorem Inv.sz (I:Inv X pins σ H s):X.s₀.heap.objs.size≤s.heap.objs.size:=Nat.le_trans I.ok.above (Nat.le_of_lt I.lt)
theorem Inv.nofs (I:Inv X pins σ H s) {a:Addr} (h:s.heap.objs.size≤a):a ∉ X.fs:=fun hb=>by
 obtain ⟨_,o,ho,_⟩:=I.ok.funs.mem hb
 exact absurd (Nat.lt_of_lt_of_le (Γl ho) (Nat.le_trans I.sz h)) (Nat.lt_irrefl _)
theorem Inv.cne (I:Inv X pins σ H s):∀ x c,X.env.cells.lookup x=some c→c≠X.env.locals:=fun x c e z=>by
 obtain ⟨v,o,ho,hd⟩:=I.cell x c e
 obtain ⟨m,⟨o',es,ep,ho',hd',_⟩,_⟩:=I.loc
 rw [z,ho'] at ho; cases ho; rw [hd'] at hd; cases hd
theorem Inv.funs (I:Inv X pins σ H s):s.heap.FunFrames X.base X.outer:=by
 have all:∀ (l:List Env),(∀ b∈frs l,b∈X.fs)→X.s₀.heap.FunFrames X.base l→s.heap.FunFrames X.base l:=by
  intro l
  induction l with
  | nil=>intro _ _; trivial
  | cons env r ih =>
   intro hs hl
   obtain ⟨hk,⟨L,o,hf,hn,ho,hd⟩,hr⟩:=hl
   have hL:L∈X.fs:=hs L (by unfold frs; rw [List.filterMap_cons,hf]; exact Γn)
   obtain ⟨sl,e⟩:=I.base.slot L o ho (I.ok.frf L hL) hL fun z=>I.ok.exfs L z hL
   exact ⟨hk,⟨L,_,hf,hn,e,hd⟩,ih (fun b hb=>hs b (by unfold frs; rw [List.filterMap_cons,hf]; exact Γh _ hb)) hr⟩
 exact all X.outer (fun _ hb=>hb) I.ok.funs
theorem Inv.stack (I:Inv X pins σ H s):s.heap.FunFrames X.base X.stack:=by
 rcases I.ok.stk with e | ⟨e,hf⟩
 ·rw [e]; exact I.funs
 ·rw [e]
  obtain ⟨m,hn,_⟩:=I.loc
  refine .cons (by rw [I.ok.kind]; decide) hf hn ?_ I.funs
  exact Heap.get?_none_of_le (Nat.le_trans I.ok.bsz I.ok.above)
theorem Inv.stkSub (I:Inv X pins σ H s):∀ b∈frs X.stack,b∈X.env.locals :: X.fs:=fun b hb=>by
 rcases I.ok.stk with e | ⟨e,hf⟩
 ·rw [e] at hb; exact Γh _ hb
 ·rw [e] at hb
  unfold frs at hb
  rw [List.filterMap_cons,hf] at hb
  exact hb
theorem Inv.stkFree (I:Inv X pins σ H s):∀ b∈frs X.stack,H b=none:=fun b hb=>by
 rcases List.mem_cons.mp (I.stkSub b hb) with e | hb
 ·rw [e]; exact I.free
 ·obtain ⟨_,o,ho,_⟩:=I.ok.funs.mem hb
  exact I.base.free b o ho (I.ok.frf b hb) fun z=>I.ok.exfs b z hb
theorem Inv.step {g':Array GenState} {t':Nat} {d':Drawn} {ch:List Addr} (I:Inv X pins σ H s)
  (hch:∀ b∈ch,(b∈X.ex ∨ X.s₀.heap.objs.size≤b)∧b≠X.env.locals∧(∀ x c,X.env.cells.lookup x=some c→c≠b)∧∀ p∈X.pn++pins,p.1≠b)
  (keep:∀ b o,b≠X.env.locals→b ∉ X.fs→b ∉ ch→s.heap.get? b=some o→H b=none→h'.get? b=some o)
  (slot:∀ b o,b≠X.env.locals→b∈X.fs→b ∉ ch→s.heap.get? b=some o→H b=none→∃ sl,h'.get? b=some { o with slots:=sl }) (free:∀ b o,b ∉ ch→s.heap.get? b=some o→H b=none→H' b=none)
  (there:∀ b o,b ∉ ch→s.heap.get? b=some o→∃ o',h'.get? b=some o')
  (tups:∀ b xs,H b=some (.tup xs)→H' b=some (.tup xs)) (frzs:∀ b o u,H b=some (.frz o u)→H' b=some (.frz o u)) (tbls:∀ b ps,H b=some (.tbl ps)→∃ more,H' b=some (.tbl (ps++more)))
  (ns:∀ m,s.heap.Ns X.env.locals m→h'.Ns X.env.locals m) (hok:HOk X.prog X.w H' h') (hg:AllBare g') :
  Inv X pins σ H' { s with heap:=h',gens:=g',drawn:=d',toks:=t' }:=by
 have neL:∀ b o,X.s₀.heap.get? b=some o→b≠X.env.locals:=fun b o e=>Γo (Nat.lt_of_lt_of_le (Γl e) I.ok.above)
 have neC:∀ b o,X.s₀.heap.get? b=some o→b ∉ X.ex→b ∉ ch:=fun b o e hx hb=>by
  rcases (hch b hb).1 with z | z
  ·exact hx z
  ·exact absurd (Nat.lt_of_lt_of_le (Γl e) z) (Nat.lt_irrefl _)
 have cellK:∀ x c,X.env.cells.lookup x=some c→∀ v,s.heap.IsCell c v→h'.IsCell c v:=fun x c e v ⟨o,ho,hd⟩=>by
  have nch:c ∉ ch:=fun z=>(hch c z).2.2.1 x c e rfl
  by_cases hc:c∈X.fs
  ·obtain ⟨sl,q⟩:=slot c o (I.cne x c e) hc nch ho (I.freeC x c e)
   exact ⟨_,q,hd⟩
  ·exact ⟨o,keep c o (I.cne x c e) hc nch ho (I.freeC x c e),hd⟩
 refine ⟨I.ok,I.os,hg,⟨fun b o e n hb hx=>?_,fun b o e n hb hx=>?_,fun b o e n hx=>?_,fun b o e hx=>?_,fun b xs e=>tups b xs (I.base.tups b xs e),fun b o xs e=>frzs b o xs (I.base.frzs b o xs e),fun b ps e=>?_⟩,?_,fun x c e=>?_,?_,fun x c e=>?_,fun p hp=>?_,hok,I.len⟩
 ·exact keep b o (neL b o e) hb (neC b o e hx) (I.base.keep b o e n hb hx) (I.base.free b o e n hx)
 ·obtain ⟨sl,e1⟩:=I.base.slot b o e n hb hx
  obtain ⟨sl',e2⟩:=slot b _ (neL b o e) hb (neC b o e hx) e1 (I.base.free b o e n hx)
  exact ⟨sl',e2⟩
 ·obtain ⟨o',e1⟩:=I.base.there b o e hx
  exact free b o' (neC b o e hx) e1 (I.base.free b o e n hx)
 ·obtain ⟨o',e1⟩:=I.base.there b o e hx
  exact there b o' (neC b o e hx) e1
 ·obtain ⟨m1,e1⟩:=I.base.tbls b ps e
  obtain ⟨m2,e2⟩:=tbls b _ e1
  exact ⟨m1++m2,by rw [e2,Array.append_assoc]⟩
 ·obtain ⟨m,hn,hl⟩:=I.loc
  refine ⟨m,ns m hn,fun i x v e1 e2 e3=>?_⟩
  obtain ⟨u,r,l⟩:=hl i x v e1 e2 e3
  refine ⟨u,r,?_⟩
  rcases l with l | ⟨k,c,e,z⟩
  ·exact .inl l
  ·exact .inr ⟨k,c,e,cellK x c e _ z⟩
 ·obtain ⟨v,z⟩:=I.cell x c e
  exact ⟨v,cellK x c e v z⟩
 ·obtain ⟨m,⟨o,_,_,ho,_⟩,_⟩:=I.loc
  exact free _ o (fun z=>(hch _ z).2.1 rfl) ho I.free
 ·obtain ⟨v,o,ho,hd⟩:=I.cell x c e
  exact free c o (fun z=>(hch c z).2.2.1 x c e rfl) ho (I.freeC x c e)
 ·obtain ⟨e,n,ne,nf,d⟩:=I.pin p hp
  have nch:p.1 ∉ ch:=fun z=>(hch p.1 z).2.2.2 p hp rfl
  exact ⟨keep p.1 p.2 ne nf nch e n,free p.1 p.2 nch e n,ne,nf,d⟩
theorem Inv.un {t':Nat} (I:Inv X pins σ H s) (u:Un X.fs [] H H' s.heap h') (hok:HOk X.prog X.w H' h'):Inv X pins σ H' { s with heap:=h',toks:=t' }:=by
 obtain ⟨m,⟨o,es,ep,ho,r⟩,_⟩:=id I.loc
 obtain ⟨sl,hL⟩:=u.any ho I.free (by simp)
 exact I.step (g':=s.gens) (d':=s.drawn) (ch:=[]) (fun _ z=>nomatch z) (fun b o _ hb _ e n=>u.keep b o e n hb (by simp)) (fun b o _ hb _ e n=>u.slot b o e n hb (by simp)) (fun b o _ e n=>u.free b o e n (by simp)) (fun b o _ e=>u.there b o e (by simp)) u.tups u.frzs u.tbls (fun m' hm=>by
  obtain ⟨o',es',ep',ho',r'⟩:=hm
  rw [ho] at ho'; cases ho'
  exact ⟨_,es',ep',hL,r'⟩) hok I.bare
theorem Inv.call {g':Array GenState} {t':Nat} {d':Drawn} {ch:List Addr} (I:Inv X pins σ H s) (u:Un (frs X.stack) ch H H' s.heap h') (hok:HOk X.prog X.w H' h') (hg:AllBare g')
  (hch:∀ b∈ch,(b∈X.ex ∨ X.s₀.heap.objs.size≤b)∧b≠X.env.locals∧(∀ x c,X.env.cells.lookup x=some c→c≠b)∧∀ p∈X.pn++pins,p.1≠b) :
  Inv X pins σ H' { s with heap:=h',gens:=g',drawn:=d',toks:=t' }:=by
 obtain ⟨m,⟨o,es,ep,ho,r⟩,_⟩:=id I.loc
 obtain ⟨sl,hL⟩:=u.any ho I.free fun z=>(hch _ z).2.1 rfl
 exact I.step (ch:=ch) hch (fun b o hL hb hc e n=>u.keep b o e n (fun z=>(List.mem_cons.mp (I.stkSub b z)).elim hL hb) hc) (fun b o _ _ hc e n=>u.any e n hc) (fun b o hc e n=>u.free b o e n hc) (fun b o hc e=>u.there b o e hc) u.tups u.frzs u.tbls (fun m' hm=>by
  obtain ⟨o',es',ep',ho',r'⟩:=hm
  rw [ho] at ho'; cases ho'
  exact ⟨_,es',ep',hL,r'⟩) hok hg
theorem Inv.turned {t':Nat} {it:Addr} (I:Inv X pins σ H s) (k:∀ b o,b≠it→s.heap.get? b=some o→h'.get? b=some o) (hn:H it=none) (hL:it≠X.env.locals)
  (h1:it∈X.ex ∨ X.s₀.heap.objs.size≤it) (h2:∀ x c,X.env.cells.lookup x=some c→c≠it) (h3:∀ p∈X.pn++pins,p.1≠it):Inv X pins σ H { s with heap:=h',toks:=t' }:=by
 have nit:∀ b u,H b=some u→b≠it:=fun b u e z=>by rw [z,hn] at e; cases e
 refine I.step (g':=s.gens) (d':=s.drawn) (ch:=[it]) (fun b hb=>?_) (fun b o _ _ hc e _=>k b o (fun z=>hc (by simp [z])) e) (fun b o _ _ hc e _=>⟨o.slots,k b o (fun z=>hc (by simp [z])) e⟩) (fun _ _ _ _ n=>n)
  (fun b o hc e=>⟨o,k b o (fun z=>hc (by simp [z])) e⟩) (fun _ _ e=>e) (fun _ _ _ e=>e) (fun b ps e=>⟨#[],by rw [e]; simp⟩) (fun m hm=>?_) (fun b u e=>?_) I.bare
 ·have e:b=it:=by simpa using hb
  subst e
  exact ⟨h1,hL,h2,h3⟩
 ·obtain ⟨o,es,ep,ho,r⟩:=hm
  exact ⟨o,es,ep,k _ o (Ne.symm hL) ho,r⟩
 ·refine (I.hok b u e).stay (fun c v hc q=>k c v ?_ q) (fun _ q=>q) fun _ _ q=>q
  rcases hc with z | z
  ·rw [z]; exact nit b u e
  ·exact nit c _ z
theorem Inv.tok (I:Inv X pins σ H s) (t:Nat):Inv X pins σ H { s with toks:=t }:=I.un (h':=s.heap) (t':=t) Un.refl I.hok
theorem Inv.kept {t':Nat} (I:Inv X pins σ H s) (k:∀ b u,s.heap.get? b=some u→h'.get? b=some u):Inv X pins σ H { s with heap:=h',toks:=t' }:=I.un (Un.kept k) (I.hok.kept k)
theorem Inv.laid {a:Addr} {o:HO} {t':Nat} (I:Inv X pins σ H s) (k:∀ b u,s.heap.get? b=some u→h'.get? b=some u) (hp:s.heap.objs.size≤a) (new:ObjOk X.prog X.w (upd H a o) h' a o) :
  Inv X pins σ (upd H a o) { s with heap:=h',toks:=t' }:=I.un (Un.laid k hp (I.hok.fresh hp)) (I.hok.laid k hp new)
theorem Inv.write {x e:Addr} {o:HO} {t':Nat} (I:Inv X pins σ H s) (mu:Mut (H x)) (he:e=x ∨ H e=some (.own x)) (k:∀ b u,b≠e→s.heap.get? b=some u→h'.get? b=some u) (heo:∃ u,h'.get? e=some u)
  (new:ObjOk X.prog X.w (upd H x o) h' x o):Inv X pins σ (upd H x o) { s with heap:=h',toks:=t' }:=I.un (Un.write mu he k heo) (I.hok.write mu he k heo new)
theorem Inv.weak {σ':List (Option V)} (I:Inv X pins σ H s) (hl:σ'.length=σ.length) (w:∀ (i:Nat) v,σ'[i]?=some (some v)→σ[i]?=some (some v)):Inv X pins σ' H s :=
 ⟨I.ok,I.os,I.bare,I.base,let ⟨m,hn,hl'⟩:=I.loc; ⟨m,hn,fun i x v e1 e2 e3=>hl' i x v e1 (w i v e2) e3⟩,I.cell,I.free,I.freeC,I.pin,I.hok,hl.trans I.len⟩
theorem Inv.pins_of {pins':List (Addr×Obj)} (I:Inv X pins σ H s) (h:∀ p∈pins',s.heap.get? p.1=some p.2∧H p.1=none∧p.1≠X.env.locals∧p.1 ∉ X.fs∧∀ v,p.2.data≠.cell v):Inv X pins' σ H s :=
 ⟨I.ok,I.os,I.bare,I.base,I.loc,I.cell,I.free,I.freeC,fun p hp=>(List.mem_append.mp hp).elim (fun z=>I.pin p (List.mem_append_left _ z)) (h p),I.hok,I.len⟩
theorem b4c {N:List Str} (hN:N.Nodup) {i j:Nat} {x:Str} (a:N[i]?=some x) (b:N[j]?=some x):i=j:=by
 obtain ⟨h1,e1⟩:=List.getElem?_eq_some_iff.mp a
 obtain ⟨h2,e2⟩:=List.getElem?_eq_some_iff.mp b
 exact (List.getElem_inj hN).mp (e1.trans e2.symm)
theorem a6n {M:Model} {A:Around} {E:Value→Shared→Prop} {i:Nat} {x:Str} {v:V} {u:Value} {Q:Unit→Shared→Prop} (I:Inv X pins σ H s) (hN:X.N.Nodup) (hi:X.N[i]?=some x) (hx:Loc X.env.scope x) (r:RelV v u)
  (h:∀ s',Inv X pins (σ.set i (some v)) H s'→(∃ a,Heap.SameBut a s.heap s'.heap∧(a=X.env.locals ∨ X.env.cells.lookup x=some a))→Q () s') (hf:X.fn x=true ∨ X.env.scope.names.lookup x=some .local:=by first | exact .inl rfl | exact .inr rfl | assumption):wpAny M A (storeName X.env x u) Q E s:=by
 obtain ⟨m,hn,hl⟩:=id I.loc
 have hcls:(X.env.scope.kind == .class || (X.env.scope.kind == .module && X.env.locals != X.env.globals))=false:=by rw [I.ok.kind]; rfl
 have hiσ:i < σ.length:=by rw [I.len]; exact (List.getElem?_eq_some_iff.mp hi).1
 have cne:=I.cne
 have tracked:∀ {a:Addr} {h':Heap},(∃ o,s.heap.get? a=some o∧H a=none)→Heap.SameBut a s.heap h'→HOk X.prog X.w H h':=fun {a h'} ha hs b ob e=>by
  obtain ⟨_,_,hfree⟩:=ha
  refine (I.hok b ob e).stay (fun c w' hc q=>(hs.2 c ?_).trans q) (fun _ q=>q) fun _ _ q=>q
  rintro rfl
  rcases hc with rfl | hc
  ·rw [hfree] at e; cases e
  ·rw [hfree] at hc; cases hc
 rcases hx with hk | hk
 ·refine wpAny_storeName_local hk hn (fun h' hn' hs=>?_) hcls
  obtain ⟨oL,_,_,hoL,_⟩:=id hn
  refine h _ ⟨I.ok,I.os,I.bare,⟨fun b o e n hb hx=>?_,fun b o e n hb hx=>?_,I.base.free,fun b o e hx=>?_,I.base.tups,I.base.frzs,I.base.tbls⟩,⟨_,hn',fun j y v' e1 e2 e3=>?_⟩,fun y c e=>?_,I.free,I.freeC,fun p hp=>?_,tracked ⟨oL,hoL,I.free⟩ hs,by simpa using I.len⟩ ⟨_,hs,.inl rfl⟩
  ·exact (hs.2 b (Γo (Nat.lt_of_lt_of_le (Γl e) I.ok.above))).trans (I.base.keep b o e n hb hx)
  ·obtain ⟨sl,e1⟩:=I.base.slot b o e n hb hx
   exact ⟨sl,(hs.2 b (Γo (Nat.lt_of_lt_of_le (Γl e) I.ok.above))).trans e1⟩
  ·obtain ⟨o',e1⟩:=I.base.there b o e hx
   exact ⟨o',(hs.2 b (Γo (Nat.lt_of_lt_of_le (Γl e) I.ok.above))).trans e1⟩
  ·by_cases hj:j=i
   ·subst hj
    rw [hi] at e1; cases e1
    rw [List.getElem?_set_self hiσ] at e2
    cases e2
    exact ⟨u,r,.inl ⟨hk,by simp⟩⟩
   ·rw [List.getElem?_set_ne (Ne.symm hj)] at e2
    obtain ⟨u',r',q⟩:=hl j y v' e1 e2 e3
    refine ⟨u',r',?_⟩
    rcases q with ⟨k,e⟩ | ⟨k,c,e,z⟩
    ·refine .inl ⟨k,?_⟩
     have:y≠x:=fun e=>hj (b4c hN e1 (e ▸ hi))
     simp [this,e]
    ·exact .inr ⟨k,c,e,z.sameBut hs (cne y c e)⟩
  ·obtain ⟨w',z⟩:=I.cell y c e
   exact ⟨w',z.sameBut hs (cne y c e)⟩
  ·obtain ⟨e,n,ne,nf,d⟩:=I.pin p hp
   exact ⟨(hs.2 p.1 ne).trans e,n,ne,nf,d⟩
 ·have hfn:X.fn x=true:=by
   rcases hf with z | z
   ·exact z
   ·rw [z] at hk; cases hk
  obtain ⟨c,hc⟩:=I.ok.has x (.inl hk)
  obtain ⟨w',z⟩:=I.cell x c hc
  refine wpAny_storeName_cell I.ok.kind hk hc z (fun h' hc' hs=>?_)
  obtain ⟨oc,hoc,hocd⟩:=id z
  refine h { s with heap:=h' } ⟨I.ok,I.os,I.bare,⟨fun b o e n hb hx=>?_,fun b o e n hb hx=>?_,I.base.free,fun b o e hx=>?_,I.base.tups,I.base.frzs,I.base.tbls⟩,⟨m,hn.sameBut hs (Ne.symm (cne x c hc)),fun j y v' e1 e2 e3=>?_⟩,fun y c' e=>?_,I.free,I.freeC,fun p hp=>?_,tracked ⟨oc,hoc,I.freeC x c hc⟩ hs,by simpa using I.len⟩ ⟨c,hs,.inr hc⟩
  ·exact (hs.2 b (Γo (Nat.lt_of_lt_of_le (Γl e) (I.ok.cab x c hfn hc)))).trans (I.base.keep b o e n hb hx)
  ·obtain ⟨sl,e1⟩:=I.base.slot b o e n hb hx
   exact ⟨sl,(hs.2 b (Γo (Nat.lt_of_lt_of_le (Γl e) (I.ok.cab x c hfn hc)))).trans e1⟩
  ·obtain ⟨o',e1⟩:=I.base.there b o e hx
   exact ⟨o',(hs.2 b (Γo (Nat.lt_of_lt_of_le (Γl e) (I.ok.cab x c hfn hc)))).trans e1⟩
  ·by_cases hj:j=i
   ·subst hj
    rw [hi] at e1; cases e1
    rw [List.getElem?_set_self hiσ] at e2
    cases e2
    exact ⟨u,r,.inr ⟨.inl hk,c,hc,hc'⟩⟩
   ·rw [List.getElem?_set_ne (Ne.symm hj)] at e2
    obtain ⟨u',r',q⟩:=hl j y v' e1 e2 e3
    refine ⟨u',r',?_⟩
    rcases q with q | ⟨k,c',e,z'⟩
    ·exact .inl q
    ·refine .inr ⟨k,c',e,z'.sameBut hs ?_⟩
     rintro rfl
     exact hj (b4c hN e1 (I.ok.inj _ _ _ e hc ▸ hi))
  ·by_cases hcc:c'=c
   ·subst hcc; exact ⟨_,hc'⟩
   ·obtain ⟨w2,z2⟩:=I.cell y c' e
    exact ⟨w2,z2.sameBut hs hcc⟩
  ·obtain ⟨e,n,ne,nf,d⟩:=I.pin p hp
   refine ⟨(hs.2 p.1 ?_).trans e,n,ne,nf,d⟩
   intro q
   rw [q,hoc] at e
   have q':oc=p.2:=Option.some.inj e
   exact d w' (by rw [← q']; exact hocd)
theorem a6d {M:Model} {A:Around} {E:Value→Shared→Prop} {i:Nat} {x:Str} {v:V} {u:Value} {Q:Unit→Shared→Prop} (I:Inv X pins σ H s) (hN:X.N.Nodup) (hi:X.N[i]?=some x) (hx:Loc X.env.scope x) (r:RelV v u)
  (h:∀ s',Inv X pins (σ.set i (some v)) H s'→Q () s') (hf:X.fn x=true ∨ X.env.scope.names.lookup x=some .local:=by first | exact .inl rfl | exact .inr rfl | assumption):wpAny M A (storeName X.env x u) Q E s :=
 a6n I hN hi hx r (fun s' I' _=>h s' I') hf
theorem Inv.call' {s':Shared} {ch:List Addr} (I:Inv X pins σ H s) (ho:s'.os=s.os) (u:Un (frs X.stack) ch H H' s.heap s'.heap) (hok:HOk X.prog X.w H' s'.heap) (hg:AllBare s'.gens)
  (hch:∀ b∈ch,(b∈X.ex ∨ X.s₀.heap.objs.size≤b)∧b≠X.env.locals∧(∀ x c,X.env.cells.lookup x=some c→c≠b)∧∀ p∈X.pn++pins,p.1≠b):Inv X pins σ H' s':=by
 obtain ⟨h',g',d',t',o'⟩:=s'
 have e:o'=s.os:=ho
 subst e
 exact I.call (g':=g') (t':=t') (d':=d') u hok hg hch
end
abbrev XK:=Value→Option Addr→Hp→Prop
abbrev St:=List (Option V)
abbrev VK:=V→Hp→Prop
abbrev TE:=St→Hp→VK→Prop
abbrev TT:=St→Hp→(Bool→Hp→Prop)→Prop
abbrev TA:=St→Hp→(List V→Hp→Prop)→Prop
structure Ends where
 nx:St→Hp→Prop
 rt:VK
 bk:St→Hp→Prop:=fun _ _=>False
 ct:St→Hp→Prop:=fun _ _=>False
abbrev TS:=Ends→St→Hp→Prop
def EP (X:Cx) (pins:List (Addr×Obj)) (σ:St) (Q:VK) (u:Value) (s':Shared):Prop:=∃ v H',Inv X pins σ H' s'∧RelV v u∧Q v H'
def TP (X:Cx) (pins:List (Addr×Obj)) (σ:St) (Q:Bool→Hp→Prop) (b:Bool) (s':Shared):Prop:=∃ H',Inv X pins σ H' s'∧Q b H'
def AP (X:Cx) (pins:List (Addr×Obj)) (σ:St) (Q:List V→Hp→Prop) (us:List Value) (s':Shared):Prop:=∃ vs H',Inv X pins σ H' s'∧Vals vs us∧Q vs H'
def SP (X:Cx) (pins:List (Addr×Obj)) (D:Ends) (f:Flow) (s':Shared):Prop :=
 match f with
 | .next=>∃ σ' H',Inv X pins σ' H' s'∧D.nx σ' H'
 | .brk=>∃ σ' H',Inv X pins σ' H' s'∧D.bk σ' H'
 | .cont=>∃ σ' H',Inv X pins σ' H' s'∧D.ct σ' H'
 | .ret u=>∃ v σ' H',Inv X pins σ' H' s'∧RelV v u∧D.rt v H'
def PE (X:Cx) (e:Expr) (t:TE):Prop :=
 ∀ (pins:List (Addr×Obj)) (s:Shared) (σ:St) (H:Hp) (Q:VK),Inv X pins σ H s→t σ H Q→wpAny (model X.prog X.w) X.A (eval e X.env) (EP X pins σ Q) X.xe s
def PT (X:Cx) (e:Expr) (t:TT):Prop :=
 ∀ (pins:List (Addr×Obj)) (s:Shared) (σ:St) (H:Hp) (Q:Bool→Hp→Prop),Inv X pins σ H s→t σ H Q→wpAny (model X.prog X.w) X.A (isTrue e X.env (eval e X.env)) (TP X pins σ Q) X.xe s
def PW (X:Cx) (e:Expr) (t:TT):Prop :=
 ∀ (whole:Sem Value) (pins:List (Addr×Obj)) (s:Shared) (σ:St) (H:Hp) (Q:Bool→Hp→Prop),Inv X pins σ H s→t σ H Q→wpAny (model X.prog X.w) X.A (isTrue e X.env whole) (TP X pins σ Q) X.xe s
theorem PW.pt {X:Cx} {e:Expr} {t:TT} (h:PW X e t):PT X e t:=h _
def PA (X:Cx) (es:List Expr) (t:TA):Prop :=
 ∀ (pos:Pos) (pins:List (Addr×Obj)) (s:Shared) (σ:St) (H:Hp) (Q:List V→Hp→Prop),Inv X pins σ H s→t σ H Q→wpAny (model X.prog X.w) X.A (spliced (backTo pos (starEach es X.env))) (AP X pins σ Q) X.xe s
def PS (X:Cx) (st:Stmt) (t:TS):Prop :=
 ∀ (pins:List (Addr×Obj)) (s:Shared) (σ:St) (H:Hp) (D:Ends),Inv X pins σ H s→t D σ H→wpAny (model X.prog X.w) X.A (exec st X.env) (SP X pins D) X.xe s
def PSs (X:Cx) (st:List Stmt) (t:TS):Prop :=
 ∀ (pins:List (Addr×Obj)) (s:Shared) (σ:St) (H:Hp) (D:Ends),Inv X pins σ H s→t D σ H→wpAny (model X.prog X.w) X.A (execs st X.env) (SP X pins D) X.xe s
theorem thn {α:Type} {t:Sem α} {Q Q':α→Shared→Prop} {M:Model} {A:Around} {E:Value→Shared→Prop} {s:Shared} (h:wpAny M A t Q E s) (hQ:∀ a s,Q a s→Q' a s):wpAny M A t Q' E s:=wpAny_mono h hQ fun _ _ x=>x
end L2
namespace L2
open PySem PySem.Spec PyProof.Rows
section
variable {X:Cx}
def c9b (i:Nat):TE:=fun σ H Q=>∃ v,σ[i]?=some (some v)∧Q v H
def tC (v:V):TE:=fun _ H Q=>Q v H
theorem b7z {i:Nat} {x:Str} {pos:Pos} (hN:X.N[i]?=some x) (hv:Vis X.env.scope x) (hd:(x == ("__debug__":Str))=false:=by decide) (hcd:(x == ("__classdict__":Str))=false:=by decide):PE X (.Name x pos) (c9b i):=by
 intro pins s σ H Q I h
 obtain ⟨v,e,h⟩:=h
 obtain ⟨m,hn,hl⟩:=I.loc
 obtain ⟨u,r,l⟩:=hl i x v hN e hv
 have fin:EP X pins σ Q u s:=⟨v,H,I,r,h⟩
 rcases l with ⟨hk,hm⟩ | ⟨hk,c,hc,hcell⟩
 ·exact wpAny_Name (wpAny_loadName_local I.ok.kind hk hn hm fin) hd
 ·rcases hk with hk | hk
  ·exact wpAny_Name (wpAny_loadName_cell I.ok.kind hk hc hcell fin) hd
  ·exact wpAny_Name (wpAny_loadName_free I.ok.kind hk hc hcell fin hcd) hd
theorem d1a {i j pos}:PE X (.Constant (.int i) j pos) (tC (.int i)):=fun _ _ _ H _ I h=>wpAny_Constant_int ⟨.int i,H,I.tok _,⟨_,rfl⟩,h⟩
theorem d6i {b j pos}:PE X (.Constant (.bool b) j pos) (tC (.bl b)):=fun _ _ _ H _ I h=>Constant_bool ⟨.bl b,H,I,rfl,h⟩
theorem d0y {j pos}:PE X (.Constant .none j pos) (tC .non):=fun _ _ _ H _ I h=>Constant_none ⟨.non,H,I,rfl,h⟩
def Gl (X:Cx) (x:Str):Prop:=X.env.kindOf x=some .globalImplicit
theorem c7t {E:Value→Shared→Prop} {pins:List (Addr×Obj)} {s:Shared} {σ:St} {H:Hp} {x:Str} {u:Value} {pos:Pos} {Q:Value→Shared→Prop} (I:Inv X pins σ H s) (hg:Gl X x) (hm:X.mg x=some u) (h:Q u s)
  (hd:(x == ("__debug__":Str))=false:=by decide):wpAny (model X.prog X.w) X.A (eval (.Name x pos) X.env) Q E s :=
 Calls.Name_function_global I.ok.kind hg (Calls.loadGlobal_global (by rw [I.ok.glob]; exact I.mod.glob.keeps I.bk) hm h) hd
theorem a4r {E:Value→Shared→Prop} {pins:List (Addr×Obj)} {s:Shared} {σ:St} {H:Hp} {x:Str} {u:Value} {pos:Pos} {Q:Value→Shared→Prop} (I:Inv X pins σ H s) (hg:Gl X x) (hm:X.mg x=none) (hv:bootBuiltins x=some u) (h:Q u s)
  (hn:x≠"__name__":=by decide) (hd:(x == ("__debug__":Str))=false:=by decide):wpAny (model X.prog X.w) X.A (eval (.Name x pos) X.env) Q E s:=by
 obtain ⟨mb,h1,h2⟩:=I.mod.blt
 exact Calls.Name_function_global I.ok.kind hg (Calls.loadGlobal_builtin (by rw [I.ok.glob]; exact I.mod.glob.keeps I.bk) hm (by rw [I.ok.blt]; exact h1.keeps I.bk) ((h2 x hn).trans hv) h) hd
theorem c7b {x:Str} {v:V} {u:Value} {pos:Pos} (hg:Gl X x) (hm:X.mg x=none) (hv:bootBuiltins x=some u) (r:RelV v u) (hn:x≠"__name__":=by decide) (hd:(x == ("__debug__":Str))=false:=by decide):PE X (.Name x pos) (tC v) :=
 fun _ _ _ H _ I h=>a4r I hg hm hv ⟨v,H,I,r,h⟩ hn hd
variable {a b:Expr} {ta tb:TE} {pos:Pos}
def PC (X:Cx) (op:CmpOp) (a b:Expr) (t:TE):Prop :=
 ∀ (pins:List (Addr×Obj)) (s:Shared) (σ:St) (H:Hp) (Q:VK),Inv X pins σ H s→t σ H Q →
  wpAny (model X.prog X.w) X.A (eval a X.env) (fun v s₁=>wpAny (model X.prog X.w) X.A (eval b X.env) (fun u s₂=>wpAny (model X.prog X.w) X.A (compareOp op v u) (EP X pins σ Q) X.xe s₂) X.xe s₁) X.xe s
theorem a2e (b:Expr) {op:CmpOp} (h:op≠.In) (h2:op≠.NotIn):behindInMarks op b=false:=by
 have e1:(op == CmpOp.In)=false:=by cases op <;> first | rfl | exact absurd rfl h
 have e2:(op == CmpOp.NotIn)=false:=by cases op <;> first | rfl | exact absurd rfl h2
 cases b <;> simp [behindInMarks,e1,e2]
def tIsN (ta:TE):TE:=fun σ H Q=>ta σ H fun x H1=>Q (.bl (decide (x=.non))) H1
def d5b (ta:TE):TE:=fun σ H Q=>ta σ H fun x H1=>Q (.bl (!decide (x=.non))) H1
theorem RelV.none_iff {x:V} {v:Value} (r:RelV x v):(v == Value.none)=decide (x=.non):=by
 cases x with
 | non=>cases r; rfl
 | bl _=>cases r; rfl
 | int _=>obtain ⟨t,rfl⟩:=r; rfl
 | str _=>obtain ⟨t,rfl⟩:=r; rfl
 | byt _=>obtain ⟨t,rfl⟩:=r; rfl
 | flt _=>obtain ⟨t,rfl⟩:=r; rfl
 | ref _=>cases r; rfl
 | ty _=>cases r; rfl
theorem d1c {j pos'} (ha:PE X a ta):PC X .Is a (.Constant .none j pos') (tIsN ta):=by
 intro pins s σ H Q I h
 refine thn (ha pins s σ H _ I h) fun v s1 ⟨x,H1,I1,r1,q1⟩=>?_
 exact Constant_none (is_none_gen ⟨.bl _,H1,I1,by rw [r1.none_iff]; rfl,q1⟩)
theorem b8b {j pos'} (ha:PE X a ta):PC X .IsNot a (.Constant .none j pos') (d5b ta):=by
 intro pins s σ H Q I h
 refine thn (ha pins s σ H _ I h) fun v s1 ⟨x,H1,I1,r1,q1⟩=>?_
 exact Constant_none (isnot_none_gen ⟨.bl _,H1,I1,by rw [r1.none_iff]; rfl,q1⟩)
def tB (t:TE):TT:=fun σ H Q=>t σ H fun x H1=>∃ c,x=.bl c∧Q c H1
theorem d1b {op:CmpOp} {t:TE} (h:PC X op a b t) (h1:behindInMarks op b=false:=by first | exact a2e _ (by decide) (by decide) | rfl):PE X (.Compare a [op] [b] pos) t:=fun pins s σ H Q I hw=>wpAny_Compare1 (h pins s σ H Q I hw) h1
theorem b7t {op:CmpOp} {t:TE} (h:PC X op a b t) (h1:behindInMarks op b=false:=by first | exact a2e _ (by decide) (by decide) | rfl):PT X (.Compare a [op] [b] pos) (tB t):=by
 intro pins s σ H Q I hw
 refine wpAny_isTrue_Compare1 (thn (h pins s σ H _ I hw) fun v s1 h1=>thn h1 fun u s2 h2=>thn h2 fun c s3 ⟨x,H1,I1,r1,q1⟩=>?_) h1
 obtain ⟨d,rfl,q⟩:=q1
 cases r1
 exact wpAny_truthy_bool ⟨H1,I1,q⟩
variable {tA tB':TT} {rest:List Expr}
def tAnd (t u:TT):TT:=fun σ H Q=>t σ H fun c H1=>if c=true then u σ H1 Q else Q false H1
def tOr (t u:TT):TT:=fun σ H Q=>t σ H fun c H1=>if c=true then Q true H1 else u σ H1 Q
def tNot (t:TT):TT:=fun σ H Q=>t σ H fun c H1=>Q (!c) H1
theorem c6l (ha:PT X a tA):PW X (.BoolOp .And [a] pos) tA:=by
 intro wh pins s σ H Q I h
 refine isTrue_and (thn (ha pins s σ H Q I h) fun c s1 e=>?_)
 cases c with
 | true=>exact isTrue_and_nil e
 | false=>exact e
theorem d0j (ha:PT X a tA):PW X (.BoolOp .Or [a] pos) tA:=by
 intro wh pins s σ H Q I h
 refine isTrue_or (thn (ha pins s σ H Q I h) fun c s1 e=>?_)
 cases c with
 | false=>exact isTrue_or_nil e
 | true=>exact e
theorem d0k (ha:PT X a tA) (hb:PW X (.BoolOp .And (b :: rest) pos) tB'):PW X (.BoolOp .And (a :: b :: rest) pos) (tAnd tA tB'):=by
 intro wh pins s σ H Q I h
 refine isTrue_and (thn (ha pins s σ H _ I h) fun c s1 ⟨H1,I1,q1⟩=>?_)
 cases c with
 | true=>exact hb wh pins s1 σ H1 Q I1 q1
 | false=>exact ⟨H1,I1,q1⟩
theorem d6e (ha:PT X a tA) (hb:PW X (.BoolOp .Or (b :: rest) pos) tB'):PW X (.BoolOp .Or (a :: b :: rest) pos) (tOr tA tB'):=by
 intro wh pins s σ H Q I h
 refine isTrue_or (thn (ha pins s σ H _ I h) fun c s1 ⟨H1,I1,q1⟩=>?_)
 cases c with
 | true=>exact ⟨H1,I1,q1⟩
 | false=>exact hb wh pins s1 σ H1 Q I1 q1
theorem d0m (ha:PT X a tA):PT X (.UnaryOp .Not a pos) (tNot tA):=by
 intro pins s σ H Q I h
 exact isTrue_not (ha pins s σ H (fun c H1=>Q (!c) H1) I h)
def d5a (ta:TE):TE:=fun σ H Q=>ta σ H fun x H1=>∃ c,x=.bl c∧Q (.bl (!c)) H1
theorem d0w {op} {t:TE} (h:PE X a t):PE X (.BoolOp op [a] pos) t:=fun pins s σ H Q I hw=>BoolOp_one (h pins s σ H Q I hw)
theorem d0x (ha:PE X a ta):PE X (.UnaryOp .Not a pos) (d5a ta):=by
 intro pins s σ H Q I h
 refine UnaryOp_ (thn (ha pins s σ H _ I h) fun v s1 ⟨x,H1,I1,r1,q1⟩=>?_)
 obtain ⟨c,rfl,q1⟩:=q1
 cases r1
 exact not_of (wpAny_truthy_bool ⟨.bl (!c),H1,I1,rfl,q1⟩)
def tIf (t:TT) (ta tb:TE):TE:=fun σ H Q=>t σ H fun c H1=>if c=true then ta σ H1 Q else tb σ H1 Q
theorem c2o {c:Expr} (hc:PT X c tA) (ha:PE X a ta) (hb:PE X b tb):PE X (.IfExp c a b pos) (tIf tA ta tb):=by
 intro pins s σ H Q I h
 refine wpAny_IfExp (thn (hc pins s σ H _ I h) fun d s1 ⟨H1,I1,q1⟩=>?_)
 cases d with
 | true=>exact ha pins s1 σ H1 Q I1 q1
 | false=>exact hb pins s1 σ H1 Q I1 q1
end
end L2
namespace L2
open PySem PySem.Spec PyProof.Rows
def SqL (K:Γd) (H:Hp) (a:Addr) (xs:List V):Prop :=
 Rd H a (.lst xs) ∨
  ∃ (o:Obj) (its:Array Value) (n:Nat),K.lookup a=some o∧o.cls=.type "list"∧o.dict=none∧o.data=.seq its n∧its.size≤sizeLine∧Vals xs its.toList
def SqT (K:Γd) (H:Hp) (a:Addr) (xs:List V):Prop :=
 Rd H a (.tup xs) ∨
  ∃ (o:Obj) (its:Array Value) (n:Nat),K.lookup a=some o∧o.cls=.type "tuple"∧o.data=.seq its n∧its.size≤sizeLine∧Vals xs its.toList
def absV:Value→Option V
 | .none=>some .non
 | .bool b=>some (.bl b)
 | .int i _=>some (.int i)
 | .str x _=>some (.str x)
 | .bytes b _=>some (.byt b)
 | .float b _=>some (.flt b)
 | .ref a=>some (.ref a)
 | .type n=>some (.ty n)
 | _=>none
theorem RelV.abs {x:V} {u:Value} (r:RelV x u):absV u=some x:=by
 cases x with
 | non=>cases r; rfl
 | bl _=>cases r; rfl
 | int _=>obtain ⟨t,rfl⟩:=r; rfl
 | str _=>obtain ⟨t,rfl⟩:=r; rfl
 | byt _=>obtain ⟨t,rfl⟩:=r; rfl
 | flt _=>obtain ⟨t,rfl⟩:=r; rfl
 | ref _=>cases r; rfl
 | ty _=>cases r; rfl
theorem RelV.inj {x y:V} {u:Value} (r:RelV x u) (q:RelV y u):x=y:=Option.some.inj (r.abs.symm.trans q.abs)
theorem Vals.inj:∀ {xs ys:List V} {us:List Value},Vals xs us→Vals ys us→xs=ys
 | _,_,_,.nil,.nil=>rfl
 | _,_,_,.cons r t,.cons r' t'=>by rw [r.inj r',Vals.inj t t']
section
variable {X:Cx} {pins:List (Addr×Obj)} {σ:St} {H:Hp} {s:Shared} {a:Addr} {xs ys:List V}
theorem SqL.of {K:Γd} (h:H a=some (.lst xs)):SqL K H a xs:=.inl (.inl h)
theorem SqT.of {K:Γd} (h:H a=some (.tup xs)):SqT K H a xs:=.inl (.inl h)
theorem Inv.list (I:Inv X pins σ H s) (h:SqL X.K H a xs):∃ its:List Value,Vals xs its∧PlainL s.heap a its.toArray∧xs.length≤sizeLine:=by
 rcases h with h | ⟨o,its,n,hk,hc,hd,hs,hz,r⟩
 ·obtain ⟨z,its,n,r,e⟩:=h.ok I.hok
  exact ⟨its,r,⟨_,n,e,rfl,rfl,rfl⟩,z⟩
 ·refine ⟨its.toList,r,⟨o,n,I.kIn a o hk,hc,hd,by simpa using hs⟩,?_⟩
  have e:=r.length
  simp only [Array.length_toList] at e
  lia
theorem Inv.tuple (I:Inv X pins σ H s) (h:SqT X.K H a xs):∃ its:List Value,Vals xs its∧IsTup s.heap a its.toArray∧xs.length≤sizeLine:=by
 rcases h with h | ⟨o,its,n,hk,hc,hs,hz,r⟩
 ·obtain ⟨z,its,r,p⟩:=h.ok I.hok
  exact ⟨its,r,p,z⟩
 ·refine ⟨its.toList,r,⟨o,I.kIn a o hk,hc,n,by simpa using hs⟩,?_⟩
  have e:=r.length
  simp only [Array.length_toList] at e
  lia
theorem Inv.list_inj (I:Inv X pins σ H s) (h:SqL X.K H a xs) (h':SqL X.K H a ys):xs=ys:=by
 obtain ⟨its,r,⟨o,n,e,_,_,d⟩,_⟩:=I.list h
 obtain ⟨its',r',⟨o',n',e',_,_,d'⟩,_⟩:=I.list h'
 rw [e] at e'; cases e'
 rw [d] at d'
 injection d' with d1 _
 have:its=its':=by simpa using congrArg Array.toList d1
 subst this
 exact r.inj r'
theorem Inv.tuple_inj (I:Inv X pins σ H s) (h:SqT X.K H a xs) (h':SqT X.K H a ys):xs=ys:=by
 obtain ⟨its,r,⟨o,e,_,n,d⟩,_⟩:=I.tuple h
 obtain ⟨its',r',⟨o',e',_,n',d'⟩,_⟩:=I.tuple h'
 rw [e] at e'; cases e'
 rw [d] at d'
 injection d' with d1 _
 have:its=its':=by simpa using congrArg Array.toList d1
 subst this
 exact r.inj r'
end
abbrev Cx.wish (X:Cx) (E:Value→Shared→Prop):Cx:={ X with xe:=E }
abbrev Cx.nox (X:Cx):Cx:=X.wish fun _ _=>False
theorem Cx.Ok.wish {X:Cx} (ok:X.Ok) (E:Value→Shared→Prop):(X.wish E).Ok :=
 ⟨ok.mod,ok.kind,ok.glob,ok.blt,ok.above,ok.inj,ok.has,ok.cab,ok.hd,ok.frames,ok.stk,ok.exf,ok.bs,ok.bsz,ok.noex,ok.exfs,ok.funs,ok.frf⟩
theorem Cx.Ok.unwish {X:Cx} {E:Value→Shared→Prop} (ok:(X.wish E).Ok):X.Ok :=
 ⟨ok.mod,ok.kind,ok.glob,ok.blt,ok.above,ok.inj,ok.has,ok.cab,ok.hd,ok.frames,ok.stk,ok.exf,ok.bs,ok.bsz,ok.noex,ok.exfs,ok.funs,ok.frf⟩
section
variable {X:Cx} {pins:List (Addr×Obj)} {σ:St} {H:Hp} {s:Shared} {E:Value→Shared→Prop}
theorem Inv.wish (I:Inv X pins σ H s) (E:Value→Shared→Prop):Inv (X.wish E) pins σ H s:=⟨I.ok.wish E,I.os,I.bare,I.base,I.loc,I.cell,I.free,I.freeC,I.pin,I.hok,I.len⟩
theorem Inv.unwish (I:Inv (X.wish E) pins σ H s):Inv X pins σ H s:=⟨I.ok.unwish,I.os,I.bare,I.base,I.loc,I.cell,I.free,I.freeC,I.pin,I.hok,I.len⟩
theorem SP.unwish {D:Ends} {f:Flow} {s':Shared} (h:SP (X.wish E) pins D f s'):SP X pins D f s':=by
 cases f with
 | next=>obtain ⟨σ',H',I,q⟩:=h; exact ⟨σ',H',I.unwish,q⟩
 | brk=>obtain ⟨σ',H',I,q⟩:=h; exact ⟨σ',H',I.unwish,q⟩
 | cont=>obtain ⟨σ',H',I,q⟩:=h; exact ⟨σ',H',I.unwish,q⟩
 | ret u=>obtain ⟨v,σ',H',I,r,q⟩:=h; exact ⟨v,σ',H',I.unwish,r,q⟩
theorem PSs.nox {st:List Stmt} {t:TS} (h:PSs X.nox st t):PSs X st t:=fun pins s σ H D I hw =>
 wpAny_mono (h pins s σ H D (I.wish _) hw) (fun _ _ q=>q.unwish) fun _ _ z=>False.elim z
end
section
variable {X:Cx} {st:Stmt} {rest:List Stmt} {t u:TS} {e:Expr} {te:TE} {pos:Pos}
def d5c:TS:=fun D σ H=>D.nx σ H
def tSeq (t u:TS):TS:=fun D σ H=>t { D with nx:=u D } σ H
theorem c6o:PSs X [] d5c:=fun _ _ σ H _ I h=>wpAny_execs_nil ⟨σ,H,I,h⟩
theorem c2h (h1:PS X st t) (h2:PSs X rest u):PSs X (st :: rest) (tSeq t u):=by
 intro pins s σ H D I h
 refine wpAny_execs_cons (thn (h1 pins s σ H { D with nx:=u D } I h) fun f s1 q=>?_)
 cases f with
 | next =>
  obtain ⟨σ',H',I',q⟩:=q
  exact h2 pins s1 σ' H' D I' q
 | ret v=>exact q
 | brk=>exact q
 | cont=>exact q
theorem c6n (h1:PS X st t):PSs X [st] t:=by
 intro pins s σ H D I h
 refine wpAny_execs_cons (thn (h1 pins s σ H D I h) fun f s1 q=>?_)
 cases f with
 | next=>exact wpAny_execs_nil q
 | ret v=>exact q
 | brk=>exact q
 | cont=>exact q
theorem Inv.quiet {pins:List (Addr×Obj)} {σ:St} {H:Hp} {s:Shared} (I:Inv X pins σ H s):interactive X.env=false:=by simp [interactive,I.ok.kind]
def d5d (te:TE):TS:=fun D σ H=>te σ H fun _ H1=>D.nx σ H1
theorem c6p (he:PE X e te) (hs:swapsWith e none pos.line X.env=pure false:=by rfl):PS X (.Expr e pos) (d5d te):=by
 intro pins s σ H D I h
 exact wpAny_Expr_any (thn (he pins s σ H _ I h) fun v s1 ⟨x,H1,I1,r1,q1⟩=>⟨σ,H1,I1,q1⟩) I.quiet hs
def tRet (te:TE):TS:=fun D σ H=>te σ H D.rt
theorem b7u (he:PE X e te):PS X (.Return (some e) pos) (tRet te):=by
 intro pins s σ H D I h
 exact wpAny_Return_some (thn (he pins s σ H _ I h) fun v s1 ⟨x,H1,I1,r1,q1⟩=>⟨x,σ,H1,I1,r1,q1⟩)
def tIfS (c:TT) (t u:TS):TS:=fun D σ H=>c σ H fun b H1=>if b=true then t D σ H1 else u D σ H1
theorem d6f {c:Expr} {a b:List Stmt} {tc:TT} (hc:PT X c tc) (ha:PSs X a t) (hb:PSs X b u):PS X (.If c a b pos) (tIfS tc t u):=by
 intro pins s σ H D I h
 refine wpAny_If (thn (hc pins s σ H _ I h) fun d s1 ⟨H1,I1,q1⟩=>?_)
 cases d with
 | true=>exact ha pins s1 σ H1 D I1 q1
 | false=>exact hb pins s1 σ H1 D I1 q1
end
abbrev TG:=V→St→Hp→(St→Hp→Prop)→Prop
abbrev TGs:=List V→St→Hp→(St→Hp→Prop)→Prop
def PG (X:Cx) (target:Expr) (t:TG):Prop :=
 ∀ (pins:List (Addr×Obj)) (s:Shared) (σ:St) (H:Hp) (v:V) (u:Value) (Q:St→Hp→Prop),Inv X pins σ H s→RelV v u→t v σ H Q →
  wpAny (model X.prog X.w) X.A (assign target X.env u) (fun _ s'=>∃ σ' H',Inv X pins σ' H' s'∧Q σ' H') X.xe s
def PGs (X:Cx) (ts:List Expr) (t:TGs):Prop :=
 ∀ (pins:List (Addr×Obj)) (s:Shared) (σ:St) (H:Hp) (vs:List V) (us:List Value) (Q:St→Hp→Prop),Inv X pins σ H s→Vals vs us→t vs σ H Q →
  wpAny (model X.prog X.w) X.A (assignInOrder ((assignEach ts X.env).map (·.2)) us) (fun _ s'=>∃ σ' H',Inv X pins σ' H' s'∧Q σ' H') X.xe s
abbrev e1e:=V→V→V→Hp→(Hp→Prop)→Prop
def PSet (X:Cx) (t:e1e):Prop :=
 ∀ (pins:List (Addr×Obj)) (s:Shared) (σ:St) (H:Hp) (o i v:V) (ov iv u:Value) (Q:Hp→Prop),Inv X pins σ H s→RelV o ov→RelV i iv→RelV v u→t o i v H Q →
  wpAny (model X.prog X.w) X.A (setItem ov iv u) (fun _ s'=>∃ H',Inv X pins σ H' s'∧Q H') X.xe s
section
variable {X:Cx} {pos:Pos}
def a4v (i:Nat):TG:=fun v σ H Q=>Q (σ.set i (some v)) H
theorem c6w {i:Nat} {x:Str} (hN:X.N.Nodup) (hi:X.N[i]?=some x) (hx:Loc X.env.scope x) (hf:X.fn x=true ∨ X.env.scope.names.lookup x=some .local:=by first | exact .inl rfl | exact .inr rfl | assumption):PG X (.Name x pos) (a4v i):=by
 intro pins s σ H v u Q I r h
 exact wpAny_assign_Name (a6d I hN hi hx r (fun s' I'=>⟨_,H,I',h⟩) hf)
def d7h:TGs:=fun vs σ H Q=>vs=[]∧Q σ H
def c3h (t:TG) (u:TGs):TGs:=fun vs σ H Q=>∃ v r,vs=v :: r∧t v σ H fun σ' H'=>u r σ' H' Q
theorem c6v:PGs X [] d7h:=by
 intro pins s σ H vs us Q I r h
 obtain ⟨e,h⟩:=h
 subst e
 cases r
 exact assignInOrder_nil ⟨σ,H,I,h⟩
theorem c2m {e:Expr} {es:List Expr} {t:TG} {u:TGs} (h1:PG X e t) (h2:PGs X es u)
  (hs:(assignEach (e :: es) X.env).map (·.2)=assign e X.env :: (assignEach es X.env).map (·.2):=by rfl):PGs X (e :: es) (c3h t u):=by
 intro pins s σ H vs us Q I r h
 obtain ⟨v,vr,e1,h⟩:=h
 subst e1
 cases r with
 | cons r rr =>
  rw [hs]
  refine assignInOrder_cons (thn (h1 pins s σ H _ _ _ I r h) fun _ s1 ⟨σ1,H1,I1,q1⟩=>?_)
  exact h2 pins s1 σ1 H1 _ _ Q I1 rr q1
def d4a (K:Γd) (n:Nat) (t:TGs):TG:=fun v σ H Q=>∃ a xs,v=.ref a∧SqT K H a xs∧xs.length=n∧t xs σ H Q
theorem d0s {es:List Expr} {k:Nat} {t:TGs} {n:Nat} (hc:X.calm=true) (h:PGs X es t)
  (hn:(assignEach es X.env).length=n:=by rfl) (hst:(assignEach es X.env).findIdx? (·.1)=none:=by rfl):PG X (.Tuple es k pos) (d4a X.K n t):=by
 intro pins s σ H v u Q I r hw
 obtain ⟨a,xs,e1,hq,hl,hw⟩:=hw
 subst e1
 cases r
 obtain ⟨its,rv,ht,hz⟩:=I.tuple hq
 refine assign_Tuple_tuple (I.ok.hd hc) ht (by simp [hn,← hl,rv.length]) hst fun h' hx=>?_
 have I1:Inv X pins σ H { s with heap:=h' }:=I.kept (t':=s.toks) fun b o e=>hx b o (Γo (Γl e)) e
 exact h pins _ σ H xs _ Q I1 (by simpa using rv) hw
def gSub (to ti:TE) (t:e1e):TG:=fun v σ H Q=>to σ H fun o H1=>ti σ H1 fun i H2=>t o i v H2 fun H3=>Q σ H3
theorem d0t {o i:Expr} {to ti:TE} {t:e1e} (ho:PE X o to) (hi:PE X i ti) (hs:PSet X t)
  (ha:∀ v,assign (.Subscript o i pos) X.env v=(do
   let ov ← holding [v] (eval o X.env)
   let iv ← holding [v,ov] (eval i X.env)
   standAt pos
   holding [v,ov,iv] (setItem ov iv v)
   release [v,ov,iv] []):=by intro _; rfl):PG X (.Subscript o i pos) (gSub to ti t):=by
 intro pins s σ H v u Q I r h
 rw [ha]
 refine Γa (Γg (thn (ho pins s σ H _ I h) fun ov s1 ⟨x,H1,I1,r1,q1⟩=>?_))
 refine Γa (Γg (thn (hi pins s1 σ H1 _ I1 q1) fun iv s2 ⟨y,H2,I2,r2,q2⟩=>?_))
 refine Γa (wpAny_standAt (Γa (Γg (thn (hs pins s2 σ H2 x y v ov iv u _ I2 r1 r2 r q2) fun _ s3 ⟨H3,I3,q3⟩=>?_))))
 exact wpAny_release ⟨σ,H3,I3,q3⟩
def c1c (te:TE) (g:TG):TS:=fun D σ H=>te σ H fun x H1=>g x σ H1 D.nx
theorem b7v {tg e:Expr} {te:TE} {g:TG} (he:PE X e te) (hg:PG X tg g) (hs:swapsWithSole [tg] e pos.line X.env=pure false:=by rfl) (hw:swappedStores [tg] e X.env=pure none:=by rfl)
  (h1:(assignEach [tg] X.env).map (·.2)=[assign tg X.env]:=by rfl):PS X (.Assign [tg] e pos) (c1c te g):=by
 intro pins s σ H D I h
 refine wpAny_Assign_stores (thn (he pins s σ H _ I h) fun v s1 ⟨x,H1,I1,r1,q1⟩=>?_) hs hw
 rw [h1]
 exact thn (hg pins s1 σ H1 x v _ I1 r1 q1) fun _ s2 q=>q
theorem d0n {i:Nat} {x:Str} {e:Expr} {te:TE} {pos':Pos} (hN:X.N.Nodup) (hi:X.N[i]?=some x) (hx:Loc X.env.scope x) (he:PE X e te) (hs:swapsWith e (some (.Name x pos')) pos.line X.env=pure false:=by rfl) (hf:X.fn x=true ∨ X.env.scope.names.lookup x=some .local:=by first | exact .inl rfl | exact .inr rfl | assumption) :
  PS X (.Assign [.Name x pos'] e pos) (c1c te (a4v i)):=by
 intro pins s σ H D I h
 refine wpAny_Assign_Name (thn (he pins s σ H _ I h) fun v s1 ⟨y,H1,I1,r1,q1⟩=>?_) hs
 exact a6d I1 hN hi hx r1 (fun s2 I2=>⟨_,H1,I2,q1⟩) hf
def tPar (i j:Nat) (ta:TA):TS:=fun D σ H=>ta σ H fun vs H1=>∃ v w,vs=[v,w]∧D.nx ((σ.set i (some v)).set j (some w)) H1
theorem d0o {i j:Nat} {x y:Str} {a b:Expr} {ta:TA} {px py pt:Pos} {kt k2 pt2} (hc:X.calm=true) (hN:X.N.Nodup) (hi:X.N[i]?=some x) (hj:X.N[j]?=some y) (hij:i≠j)
  (hx:X.env.scope.names.lookup x=some .local) (hy:X.env.scope.names.lookup y=some .local) (ha:PA X [a,b] ta)
  (hw:swappedStores [.Tuple [.Name x px,.Name y py] kt pt] (.Tuple [a,b] k2 pt2) X.env=pure (some [x,y]))
  (hs:swapsWithSole [.Tuple [.Name x px,.Name y py] kt pt] (.Tuple [a,b] k2 pt2) pos.line X.env=pure false:=by rfl) :
  PS X (.Assign [.Tuple [.Name x px,.Name y py] kt pt] (.Tuple [a,b] k2 pt2) pos) (tPar i j ta):=by
 intro pins s σ H D I h
 rw [exec_Assign_arm]
 refine Γa (wpAny_standAt ?_)
 rw [hs]
 refine Γa (Γb ?_)
 rw [if_neg (by decide)]
 refine Γa (Tuple_ (thn (ha _ pins s σ H _ I h) fun us s1 ⟨vs,H1,I1,r1,q1⟩=>?_))
 obtain ⟨v,w,e1,q1⟩:=q1
 subst e1
 obtain ⟨u1,u2,rfl,rv,rw'⟩:∃ u1 u2,us=[u1,u2]∧RelV v u1∧RelV w u2:=by
  cases r1 with
  | cons p q =>
   cases q with
   | cons p' q' =>
    cases q'
    exact ⟨_,_,rfl,p,p'⟩
 refine wpAny_newObj_type ?_ (by show 2≤sizeLine; decide)
 have I2:Inv X pins σ H1 { s1 with heap:=s1.heap.push { cls:=.type "tuple",data:=.seq [u1,u2].toArray } }:=I1.kept (t':=s1.toks) fun b o e=>Γc _ e
 rw [hw]
 refine Γa (Γb ?_)
 show wpAny (model X.prog X.w) X.A (do rule "assign.swapped-stores"; let items ← unpackItems (.ref s1.heap.objs.size) 2 none; assignInOrder [fun v=>bindName X.env y v,fun v=>bindName X.env x v] items.reverse; pure Flow.next) _ _ _
 refine Γa (wpAny_rule (Γa (unpackItems_tuple (items:=#[u1,u2]) (I.ok.hd hc) (IsTup.new s1.heap _) fun h' hx'=>?_)))
 have I3:=I2.kept (h':=h') (t':=s1.toks) fun b o e=>hx' b o (Γo (Γl e)) e
 show wpAny _ _ (assignInOrder [fun v=>bindName X.env y v,fun v=>bindName X.env x v] [u2,u1] >>= fun _=>pure Flow.next) _ _ _
 refine Γa (assignInOrder_cons (wpAny_bindName (a6d I3 hN hj (.inl hy) rw' (fun s2 I4=>?_) (.inr hy))))
 refine assignInOrder_cons (wpAny_bindName (a6d I4 hN hi (.inl hx) rv (fun s3 I5=>assignInOrder_nil (Γb ?_)) (.inr hx)))
 rw [List.set_comm _ _ (Ne.symm hij)] at I5
 exact ⟨_,H1,I5,q1⟩
end
section
variable {X:Cx} {pos:Pos}
def c4i (c:TT) (tb:TS):TS:=fun D σ H=>∃ W:Nat→St→Hp→Prop,(∃ m,W m σ H)∧∀ m σ H,W m σ H →
 c σ H fun b H1=>if b=true then ∃ N:St→Hp→Prop,(∀ σ' H',N σ' H'→∃ m',m' < m∧W m' σ' H')∧tb { D with nx:=N,ct:=N,bk:=D.nx } σ H1 else D.nx σ H1
theorem c2j {c:Expr} {body:List Stmt} {tc:TT} {tb:TS} (hp:PassesOwn (model X.prog X.w) X.A X.env X.xe) (hc:PT X c tc) (hb:PSs X body tb):PS X (.While c body [] pos) (c4i tc tb):=by
 intro pins s σ H D I h
 obtain ⟨W,⟨m0,w0⟩,turn⟩:=h
 refine wpAny_While (codeAny_whileLoop (fun n s'=>∃ σ' H',Inv X pins σ' H' s'∧W n σ' H') ?_ m0 ⟨σ,H,I,w0⟩)
 rintro n s1 ⟨σ1,H1,I1,w1⟩
 refine wpAny_passesOwn hp (thn (hc pins s1 σ1 H1 _ I1 (turn n σ1 H1 w1)) fun b s2 ⟨H2,I2,q2⟩=>?_)
 cases b with
 | true =>
  obtain ⟨N,hN,q2⟩:=q2
  rw [if_pos rfl]
  refine wpAny_passesOwn hp (thn (hb pins s2 σ1 H2 _ I2 q2) fun f s3 q3=>?_)
  cases f with
  | next =>
   obtain ⟨σ3,H3,I3,n3⟩:=q3
   obtain ⟨m',hm,w3⟩:=hN σ3 H3 n3
   exact ⟨m',hm,σ3,H3,I3,w3⟩
  | cont =>
   obtain ⟨σ3,H3,I3,n3⟩:=q3
   obtain ⟨m',hm,w3⟩:=hN σ3 H3 n3
   exact ⟨m',hm,σ3,H3,I3,w3⟩
  | brk=>exact q3
  | ret v=>exact q3
 | false =>
  rw [if_neg Γk]
  exact wpAny_execs_nil ⟨σ1,H2,I2,q2⟩
end
structure It where
 go:Nat→Hp→Prop
 yld:Nat→Hp→V→Hp→Prop
 stop:Nat→Hp→Prop
def b0k (X:Cx) (pins:List (Addr×Obj)) (H:Hp) (b:Addr):Prop :=
 H b=none∧b≠X.env.locals∧b ∉ X.fs∧(b∈X.ex ∨ X.s₀.heap.objs.size≤b)∧(∀ x c,X.env.cells.lookup x=some c→c≠b)∧∀ p∈X.pn++pins,p.1≠b
theorem Inv.fpOk {X:Cx} {pins:List (Addr×Obj)} {σ:St} {H H':Hp} {s:Shared} {b:Addr} (I:Inv X pins σ H s) (hb:s.heap.objs.size≤b) (hn:H' b=none):b0k X pins H' b:=by
 refine ⟨hn,Nat.ne_of_gt (Nat.lt_of_lt_of_le I.lt hb),I.nofs hb,.inr (Nat.le_trans I.sz hb),fun x c e z=>?_,fun p hp z=>?_⟩
 ·obtain ⟨v,q⟩:=I.cell x c e
  exact absurd (Nat.lt_of_lt_of_le q.lt (by rw [z]; exact hb)) (Nat.lt_irrefl _)
 ·exact absurd (Nat.lt_of_lt_of_le (Γl (I.pin p hp).1) (by rw [z]; exact hb)) (Nat.lt_irrefl _)
structure Turn (P:Program) (w:World) (K:Γd) (tg:Expr) (J:It) (fp:List Addr) (it:Addr) (tn:Nat→Heap→Prop):Prop where
 mem:it∈fp
 obj:∀ i h,tn i h→∀ b∈fp,∃ o,h.get? b=some o∧∀ v,o.data≠.cell v
 keep:∀ i h h',tn i h→(∀ b∈fp,∀ o,h.get? b=some o→h'.get? b=some o)→tn i h'
 item:∀ (X:Cx),X.prog=P→X.w=w→X.K=K→X.calm=true→∀ (i:Nat) (pins:List (Addr×Obj)) (s:Shared) (σ:St) (H:Hp) (E:Value→Shared→Prop),Inv X pins σ H s→(∀ b∈fp,b0k X pins H b)→tn i s.heap→J.go i H →
  wpAny (model P w) X.A (pyNext (.ref it)) (fun r s1=>∃ u,r=some u ∧
   wpAny (model P w) X.A (letOwnedTupleGo tg (.ref it) u) (fun _ s2=>∃ x H',Inv X pins σ H' s2∧RelV x u∧J.yld i H x H'∧tn (i + 1) s2.heap∧∀ b∈fp,H' b=none) E s1) E s
 done:∀ (X:Cx),X.prog=P→X.w=w→X.K=K→X.calm=true→∀ (i:Nat) (pins:List (Addr×Obj)) (s:Shared) (σ:St) (H:Hp) (E:Value→Shared→Prop),Inv X pins σ H s→(∀ b∈fp,b0k X pins H b)→tn i s.heap→J.stop i H →
  wpAny (model P w) X.A (pyNext (.ref it)) (fun r s1=>r=none∧Inv X pins σ H s1) E s
 self:∀ (A:Around) (i:Nat) (s:Shared) (Q:Value→Shared→Prop) (E:Value→Shared→Prop),tn i s.heap→Q (.ref it) s→wpAny (model P w) A (pyIter (.ref it)) Q E s
abbrev TI:=St→Hp→(It→Hp→Prop)→Prop
def PIE (X:Cx) (pins:List (Addr×Obj)) (σ:St) (tg:Expr) (R:It→Hp→Prop) (itv:Value) (s2:Shared):Prop :=
 ∃ (it:Addr) (fp:List Addr) (tn:Nat→Heap→Prop) (J:It) (H':Hp),itv=.ref it∧Inv X pins σ H' s2∧Turn X.prog X.w X.K tg J fp it tn∧tn 0 s2.heap∧(∀ b∈fp,b0k X pins H' b)∧R J H'
def PI (X:Cx) (tg iter:Expr) (wi:TI):Prop :=
 ∀ (pins:List (Addr×Obj)) (s:Shared) (σ:St) (H:Hp) (R:It→Hp→Prop),Inv X pins σ H s→wi σ H R →
  wpAny (model X.prog X.w) X.A (eval iter X.env) (fun v s1=>wpAny (model X.prog X.w) X.A (pyIter v) (PIE X pins σ tg R) X.xe s1) X.xe s
theorem c3g {M : Model} {A : Around} {E : Value → Shared → Prop} {s : Shared} {tg : Expr} {it : Addr} {u : Value} {o : Obj} {n : String} {vs : Array Value} {Q : Unit → Shared → Prop} (ho : s.heap.get? it = some o) (hc : o.cls = .type n) (hd : o.data = .fields vs)
    (hn : ["enumerate", "zip", "dict_itemiterator", "dict_reverseitemiterator", "odict_iterator", "itertools.zip_longest", "itertools.pairwise"].contains n = false) (hQ : Q () s) : wpAny M A (letOwnedTupleGo tg (.ref it) u) Q E s := by
  unfold letOwnedTupleGo
  cases tg <;> first
    | exact Γb hQ
    | (cases u <;> first
        | exact Γb hQ
        | (refine Γa (wpAny_load ho ?_)
           rw [hc, hd]
           show wpAny M A (if (["enumerate", "zip", "dict_itemiterator", "dict_reverseitemiterator", "odict_iterator", "itertools.zip_longest", "itertools.pairwise"].contains n && vs[0]? == some (rawInt _)) = true then _ else _) Q E s
           rw [if_neg (by intro h; rw [hn, Bool.false_and] at h; cases h)]
           exact Γb hQ))
def Itl (K:Γd) (a:Addr):It :=
 ⟨fun i H=>∃ xs x,SqL K H a xs∧xs[i]?=some x,fun i H x H'=>H'=H∧∀ xs,SqL K H a xs→xs[i]?=some x,fun i H=>∃ xs,SqL K H a xs∧xs.length≤i⟩
def Itt (K:Γd) (a:Addr):It :=
 ⟨fun i H=>∃ xs x,SqT K H a xs∧xs[i]?=some x,fun i H x H'=>H'=H∧∀ xs,SqT K H a xs→xs[i]?=some x,fun i H=>∃ xs,SqT K H a xs∧xs.length≤i⟩
def Itr (lo:Int) (n:Nat):It:=⟨fun i _=>i < n,fun i H x H'=>H'=H∧x=.int (lo + i),fun i _=>n≤i⟩
theorem b6w {P:Program} {w:World} {K:Γd} {tg:Expr} (a it:Addr):Turn P w K tg (Itl K a) [it] it (fun i h=>h.IsListIter it a i) where
 mem:=by simp
 obj:=fun i h st b hb=>by
  have e:b=it:=by simpa using hb
  subst e
  obtain ⟨o,e,c,d⟩:=st
  exact ⟨o,e,fun v z=>by rw [d] at z; cases z⟩
 keep:=fun i h h' st k=>st.at fun o e=>k it (by simp) o e
 item:=by
  intro X hP hw hK hc i pins s σ H E I hf st hg
  subst hP hw hK
  obtain ⟨xs,x,hq,hx⟩:=hg
  obtain ⟨its,rv,p,hz⟩:=I.list hq
  obtain ⟨u,hu,ru⟩:=rv.get hx
  obtain ⟨f0,f1,f2,f3,f4,f5⟩:=hf it (by simp)
  refine wpAny_pyNext_list_item st p.isList (x:=u) (by simpa using hu) fun h' st' sb=>?_
  have I1:Inv X pins σ H { s with heap:=h' }:=I.turned (t':=s.toks) (fun b o hb e=>(sb.2 b hb).trans e) f0 f1 f3 f4 f5
  obtain ⟨o,e,c,d⟩:=id st'
  exact ⟨u,rfl,c3g (s:={ s with heap:=h' }) e c d (by decide) ⟨x,H,I1,ru,⟨rfl,fun ys hy=>by rw [I.list_inj hy hq]; exact hx⟩,st',fun b hb=>(hf b hb).1⟩⟩
 done:=by
  intro X hP hw hK hc i pins s σ H E I hf st hg
  subst hP hw hK
  obtain ⟨xs,hq,hx⟩:=hg
  obtain ⟨its,rv,p,hz⟩:=I.list hq
  obtain ⟨f0,f1,f2,f3,f4,f5⟩:=hf it (by simp)
  have hl:=rv.length
  exact wpAny_pyNext_list_end (I.ok.hd hc) st p.isList (by simp; lia) fun h' eb=>⟨rfl,I.turned (t':=s.toks) (fun b o hb e=>eb b o hb e) f0 f1 f3 f4 f5⟩
 self:=fun _ _ _ _ _ st h=>wpAny_pyIter_listiter st h
theorem b5e {P:Program} {w:World} {K:Γd} {tg:Expr} (a it:Addr):Turn P w K tg (Itt K a) [it] it (fun i h=>h.IsTupleIter it a i) where
 mem:=by simp
 obj:=fun i h st b hb=>by
  have e:b=it:=by simpa using hb
  subst e
  obtain ⟨o,e,c,d⟩:=st
  exact ⟨o,e,fun v z=>by rw [d] at z; cases z⟩
 keep:=fun i h h' st k=>st.at fun o e=>k it (by simp) o e
 item:=by
  intro X hP hw hK hc i pins s σ H E I hf st hg
  subst hP hw hK
  obtain ⟨xs,x,hq,hx⟩:=hg
  obtain ⟨its,rv,p,hz⟩:=I.tuple hq
  obtain ⟨u,hu,ru⟩:=rv.get hx
  obtain ⟨f0,f1,f2,f3,f4,f5⟩:=hf it (by simp)
  refine wpAny_pyNext_tuple_item st (show s.heap.IsTuple a its.toArray from p) (x:=u) (by simpa using hu) fun h' st' sb=>?_
  have I1:Inv X pins σ H { s with heap:=h' }:=I.turned (t':=s.toks) (fun b o hb e=>(sb.2 b hb).trans e) f0 f1 f3 f4 f5
  obtain ⟨o,e,c,d⟩:=id st'
  exact ⟨u,rfl,c3g (s:={ s with heap:=h' }) e c d (by decide) ⟨x,H,I1,ru,⟨rfl,fun ys hy=>by rw [I.tuple_inj hy hq]; exact hx⟩,st',fun b hb=>(hf b hb).1⟩⟩
 done:=by
  intro X hP hw hK hc i pins s σ H E I hf st hg
  subst hP hw hK
  obtain ⟨xs,hq,hx⟩:=hg
  obtain ⟨its,rv,p,hz⟩:=I.tuple hq
  obtain ⟨f0,f1,f2,f3,f4,f5⟩:=hf it (by simp)
  have hl:=rv.length
  exact wpAny_pyNext_tuple_end (I.ok.hd hc) st (show s.heap.IsTuple a its.toArray from p) (by simp; lia) fun h' eb=>⟨rfl,I.turned (t':=s.toks) (fun b o hb e=>eb b o hb e) f0 f1 f3 f4 f5⟩
 self:=fun _ _ _ _ _ st h=>wpAny_pyIter_tupleiter st h
theorem b5f {P:Program} {w:World} {K:Γd} {tg:Expr} (it:Addr) (lo:Int) (n:Nat):Turn P w K tg (Itr lo n) [it] it (fun i h=>IsRangeIter h it (lo + (i:Nat) * 1) ((n:Int) - (i:Nat)) 1) where
 mem:=by simp
 obj:=fun i h st b hb=>by
  have e:b=it:=by simpa using hb
  subst e
  exact ⟨_,st,fun v z=>by
   have z':Data.fields _=Data.cell v:=z
   cases z'⟩
 keep:=fun i h h' st k=>k it (by simp) _ st
 item:=by
  intro X hP hw hK hc i pins s σ H E I hf st hg
  subst hP hw hK
  obtain ⟨f0,f1,f2,f3,f4,f5⟩:=hf it (by simp)
  have W:=Walks.range (prog:=X.prog) (w:=X.w) (I.ok.hd hc) it lo 1 n
  refine W.item i s _ _ hg st fun v h' tk hv st' kk=>?_
  obtain ⟨t,rfl⟩:=hv
  have I1:Inv X pins σ H { s with heap:=h',toks:=tk }:=I.turned (fun b o hb e=>kk b o (by simpa using hb) e) f0 f1 f3 f4 f5
  refine ⟨_,rfl,c3g (s:={ s with heap:=h',toks:=tk }) (n:="range_iterator") st' rfl rfl (by decide) ⟨.int (lo + i),H,I1,⟨t,?_⟩,⟨rfl,rfl⟩,st',fun b hb=>(hf b hb).1⟩⟩
  rw [Int.mul_one]
 done:=by
  intro X hP hw hK hc i pins s σ H E I hf st hg
  subst hP hw hK
  obtain ⟨f0,f1,f2,f3,f4,f5⟩:=hf it (by simp)
  exact wpAny_pyNext_range_end (I.ok.hd hc) st (by have:n≤i:=hg; lia) fun h' eb=>⟨rfl,I.turned (t':=s.toks) (fun b o hb e=>eb b o hb e) f0 f1 f3 f4 f5⟩
 self:=fun _ _ _ _ _ st h=>wpAny_pyIter_rangeiter st h
end L2
namespace L2
open PySem PySem.Spec PyProof.Rows
section
variable {X:Cx} {tg:Expr}
theorem c2c {pins:List (Addr×Obj)} {σ:St} {H:Hp} {s:Shared} {R:It→Hp→Prop} {E:Value→Shared→Prop} {lo hi:Int} {t u v:Tok} {tk:Nat} (I:Inv X pins σ H s) (h1:-(2 ^ 62)≤lo) (h2:lo < 2 ^ 62) (h3:-(2 ^ 62)≤hi) (h4:hi < 2 ^ 62)
  (q:R (Itr lo (hi - lo).toNat) H):wpAny (model X.prog X.w) X.A (pyIter (.ref s.heap.objs.size)) (PIE X pins σ tg R) E { s with heap:=s.heap.push { cls:=.type "range",data:=.fields #[.int lo t,.int hi u,.int 1 v] },toks:=tk }:=by
 refine wpAny_pyIter_range (IsRange.new ..) (small_one h1 h2 h3 h4) ?_
 have I1:Inv X pins σ H { s with heap:=s.heap.push { cls:=.type "range",data:=.fields #[.int lo t,.int hi u,.int 1 v] },toks:=tk }:=I.kept fun b o e=>Γc _ e
 refine ⟨(s.heap.push { cls:=.type "range",data:=.fields #[.int lo t,.int hi u,.int 1 v] }).objs.size,[(s.heap.push { cls:=.type "range",data:=.fields #[.int lo t,.int hi u,.int 1 v] }).objs.size],_,_,H,rfl,
  I1.kept (t':=tk) fun b o e=>Γc _ e,b5f _ lo (hi - lo).toNat,?_,fun b hb=>?_,q⟩
 ·have e1:lo + ((0:Nat):Int) * 1=lo:=by simp
  have e2:(((hi - lo).toNat:Nat):Int) - ((0:Nat):Int)=Builtin.Range.rangeSize lo hi 1:=by rw [rangeSize_one]; split <;> lia
  show IsRangeIter _ _ (lo + ((0:Nat):Int) * 1) ((((hi - lo).toNat:Nat):Int) - ((0:Nat):Int)) 1
  rw [e1,e2]
  exact Γm _ rfl
 ·have e:b=(s.heap.push { cls:=.type "range",data:=.fields #[.int lo t,.int hi u,.int 1 v] }).objs.size:=by simpa using hb
  subst e
  exact I1.fpOk (Γi _) (I1.hok.fresh (Γi _))
def d7g (ta:TA):TI:=fun σ H R=>ta σ H fun vs H1=>∃ j:Int,vs=[.int j]∧-(2 ^ 62)≤j∧j < 2 ^ 62∧R (Itr 0 j.toNat) H1
def iRng2 (ta:TA):TI:=fun σ H R=>ta σ H fun vs H1=>∃ i j:Int,vs=[.int i,.int j]∧(-(2 ^ 62)≤i∧i < 2 ^ 62∧-(2 ^ 62)≤j∧j < 2 ^ 62)∧R (Itr i (j - i).toNat) H1
theorem b7y {a:Expr} {ta:TA} {p pos:Pos} (hg:Gl X "range") (hm:X.mg "range" = none) (ha:PA X [a] ta) (hs:starEach [a] X.env=[(false,eval a X.env)]:=by rfl):PI X tg (.Call (.Name "range" p) [a] [] pos) (d7g ta):=by
 intro pins s σ H R I h
 refine Call_ (a4r I hg hm boot_range (PyProof.Rows.callWith_type1 (thn (ha pos pins s σ H _ I h) fun us s1 ⟨vs,H1,I1,r1,q1⟩=>?_) hs rfl))
 obtain ⟨j,e,q1,q2,q⟩:=q1
 subst e
 cases r1 with
 | cons r rr =>
  cases rr
  obtain ⟨t,rfl⟩:=r
  exact call_range_1 (c2c I1 (by lia) (by lia) q1 q2 (by simpa using q))
def tFor (wi:TI) (g:TG) (tb:TS):TS:=fun D σ H=>wi σ H fun J H1=>∃ W:Nat→Nat→St→Hp→Prop,(∃ m,W 0 m σ H1)∧∀ i m σ H,W i m σ H →
 (J.stop i H∧D.nx σ H) ∨ (J.go i H∧∃ N:St→Hp→Prop,(∀ σ' H',N σ' H'→∃ m',m' < m∧W (i + 1) m' σ' H')∧∀ x H',J.yld i H x H'→g x σ H' fun σ2 H2=>tb { D with nx:=N,ct:=N,bk:=D.nx } σ2 H2)
def a4l (fp:List Addr) (h:Heap):List (Addr×Obj):=fp.filterMap fun b=>(h.get? b).map fun o=>(b,o)
theorem a1c {fp:List Addr} {h:Heap} {b:Addr} {o:Obj} (hb:b∈fp) (e:h.get? b=some o):(b,o)∈a4l fp h:=List.mem_filterMap.mpr ⟨b,hb,by rw [e]; rfl⟩
theorem b8f {fp:List Addr} {h:Heap} {p:Addr×Obj} (hp:p∈a4l fp h):p.1∈fp∧h.get? p.1=some p.2:=by
 obtain ⟨b,hb,e⟩:=List.mem_filterMap.mp hp
 cases q:h.get? b with
 | none=>rw [q] at e; cases e
 | some o =>
  rw [q] at e
  have e':(b,o)=p:=Option.some.inj e
  subst e'
  exact ⟨hb,q⟩
theorem Inv.pinned {pins:List (Addr×Obj)} {σ:St} {H:Hp} {s:Shared} {fp:List Addr} (I:Inv X pins σ H s) (hf:∀ b∈fp,b0k X pins H b) (ho:∀ b∈fp,∃ o,s.heap.get? b=some o∧∀ v,o.data≠.cell v):Inv X (pins++a4l fp s.heap) σ H s :=
 I.pins_of fun p hp=>(List.mem_append.mp hp).elim (fun z=>I.pin p (List.mem_append_right _ z)) fun z=>by
  obtain ⟨hb,e⟩:=b8f z
  obtain ⟨f0,f1,f2,_⟩:=hf p.1 hb
  obtain ⟨o,e',d⟩:=ho p.1 hb
  rw [e] at e'; cases e'
  exact ⟨e,f0,f1,f2,d⟩
theorem Inv.unpinned {pins pl:List (Addr×Obj)} {σ:St} {H:Hp} {s:Shared} (I:Inv X (pins++pl) σ H s):Inv X pins σ H s:=I.pins_of fun p hp=>I.pin p (List.mem_append_right _ (List.mem_append_left _ hp))
theorem d0p {iter:Expr} {body:List Stmt} {wi:TI} {g:TG} {tb:TS} {pos:Pos} (hp:PassesOwn (model X.prog X.w) X.A X.env X.xe) (hc:X.calm=true) (hi:PI X tg iter wi) (hg:PG X tg g) (hb:PSs X body tb)
  (hs:∀ x,foldedSetIterable iter X.env x=pure x:=by intro _; rfl):PS X (.For tg iter body [] pos) (tFor wi g tb):=by
 intro pins s σ H D I h
 refine wpAny_For (thn (hi pins s σ H _ I h) fun v s1 h1=>thn h1 fun itv s2 h2=>?_) hs
 obtain ⟨it,fp,tn,J,H2,e,I2,T,st2,f2,W,⟨m0,w0⟩,turn⟩:=h2
 subst e
 -- what stays true of the iterator's objects through the loop
 have stat:∀ {H':Hp},(∀ b∈fp,H' b=none)→∀ b∈fp,b0k X pins H' b:=fun hn b hb=>⟨hn b hb,(f2 b hb).2⟩
 refine codeAny_forLoop_any (fun n s'=>∃ i σ' H',Inv X pins σ' H' s'∧tn i s'.heap∧(∀ b∈fp,H' b=none)∧W i n σ' H') ?_ m0 ⟨0,σ,H2,I2,st2,fun b hb=>(f2 b hb).1,w0⟩
 rintro n s3 ⟨i,σ3,H3,I3,st3,fr3,w3⟩
 rcases turn i n σ3 H3 w3 with ⟨stop,qn⟩ | ⟨go,N,hN,step⟩
 ·refine wpAny_passesOwn hp (thn (T.done X rfl rfl rfl hc i pins s3 σ3 H3 X.xe I3 (stat fr3) st3 stop) fun r s4 ⟨hr,I4⟩=>?_)
  subst hr
  exact wpAny_execs_nil ⟨σ3,H3,I4,qn⟩
 ·refine wpAny_passesOwn hp (thn (T.item X rfl rfl rfl hc i pins s3 σ3 H3 X.xe I3 (stat fr3) st3 go) fun r s4 ⟨u,hr,h4⟩=>?_)
  subst hr
  refine wpAny_passesOwn hp (thn h4 fun _ s5 ⟨x,H5,I5,r5,y5,st5,fr5⟩=>?_)
  have I5':=I5.pinned (stat fr5) (T.obj _ _ st5)
  refine wpAny_passesOwn hp (thn (hg _ s5 σ3 H5 x u _ I5' r5 (step x H5 y5)) fun _ s6 ⟨σ6,H6,I6,q6⟩=>?_)
  refine wpAny_passesOwn hp (thn (hb _ s6 σ6 H6 _ I6 q6) fun f s7 q7=>?_)
  have again:∀ {σ7:St} {H7:Hp},Inv X (pins++a4l fp s5.heap) σ7 H7 s7→N σ7 H7→∃ m,m < n∧∃ i σ' H',Inv X pins σ' H' s7∧tn i s7.heap∧(∀ b∈fp,H' b=none)∧W i m σ' H':=fun {σ7 H7} I7 n7=>by
   obtain ⟨m',hm,w7⟩:=hN σ7 H7 n7
   refine ⟨m',hm,i + 1,σ7,H7,I7.unpinned,T.keep _ _ _ st5 fun b hb o e=>(I7.pin (b,o) (List.mem_append_right _ (List.mem_append_right _ (a1c hb e)))).1,fun b hb=>?_,w7⟩
   obtain ⟨o,e,d⟩:=T.obj _ _ st5 b hb
   exact (I7.pin (b,o) (List.mem_append_right _ (List.mem_append_right _ (a1c hb e)))).2.1
  cases f with
  | next=>obtain ⟨σ7,H7,I7,n7⟩:=q7; exact again I7 n7
  | cont=>obtain ⟨σ7,H7,I7,n7⟩:=q7; exact again I7 n7
  | brk=>obtain ⟨σ7,H7,I7,q7⟩:=q7; exact ⟨σ7,H7,I7.unpinned,q7⟩
  | ret v=>obtain ⟨x7,σ7,H7,I7,r7,q7⟩:=q7; exact ⟨x7,σ7,H7,I7.unpinned,r7,q7⟩
end
theorem while_by {c:TT} {tb:TS} {D:Ends} {σ:St} {H:Hp} (Pv:St→Hp→Prop) (μ:St→Hp→Nat) (h0:Pv σ H)
  (hs:∀ σ H,Pv σ H→c σ H fun b H1=>if b=true then tb { D with nx:=fun σ' H'=>Pv σ' H'∧μ σ' H' < μ σ H,ct:=fun σ' H'=>Pv σ' H'∧μ σ' H' < μ σ H,bk:=D.nx } σ H1 else D.nx σ H1)
  (mono:∀ σ H Q Q',(∀ b H1,Q b H1→Q' b H1)→c σ H Q→c σ H Q'):c4i c tb D σ H:=by
 refine ⟨fun m σ H=>m=μ σ H∧Pv σ H,⟨_,rfl,h0⟩,?_⟩
 rintro m σ H ⟨rfl,p⟩
 refine mono σ H _ _ (fun b H1 q=>?_) (hs σ H p)
 cases b with
 | true=>exact ⟨_,fun σ' H' ⟨p',l⟩=>⟨_,l,rfl,p'⟩,q⟩
 | false=>exact q
end L2
namespace L2
open PySem PySem.Spec PyProof.Rows
abbrev R2:=V→V→Hp→VK→Prop
def OpR (X:Cx) (f:Value→Value→Sem Value) (r:R2):Prop :=
 ∀ (pins:List (Addr×Obj)) (s:Shared) (σ:St) (H:Hp) (x y:V) (v u:Value) (Q:VK),Inv X pins σ H s→RelV x v→RelV y u→r x y H Q →
  wpAny (model X.prog X.w) X.A (f v u) (EP X pins σ Q) X.xe s
def a1n (X:Cx) (f:Value) (r:List V→Hp→VK→Prop):Prop :=
 ∀ (pins:List (Addr×Obj)) (s:Shared) (σ:St) (H:Hp) (xs:List V) (us:List Value) (Q:VK),Inv X pins σ H s→Vals xs us→r xs H Q →
  wpAny (model X.prog X.w) X.A (call f us) (EP X pins σ Q) X.xe s
def TruR (X:Cx) (r:V→Hp→(Bool→Hp→Prop)→Prop):Prop :=
 ∀ (pins:List (Addr×Obj)) (s:Shared) (σ:St) (H:Hp) (x:V) (v:Value) (Q:Bool→Hp→Prop),Inv X pins σ H s→RelV x v→r x H Q →
  wpAny (model X.prog X.w) X.A (truthy v) (TP X pins σ Q) X.xe s
def tOp (r:R2) (ta tb:TE):TE:=fun σ H Q=>ta σ H fun x H1=>tb σ H1 fun y H2=>r x y H2 Q
def rI (C:Int→Int→Prop) (g:Int→Int→V):R2:=fun x y H Q=>∃ i j,x=.int i∧y=.int j∧C i j∧Q (g i j) H
def rI0 (g:Int→Int→V):R2:=fun x y H Q=>∃ i j,x=.int i∧y=.int j∧Q (g i j) H
section
variable {X:Cx} {a b c:Expr} {ta tb tc:TE} {pos:Pos}
theorem e0i (ha:PE X a ta) (hb:PE X b tb) {pins:List (Addr×Obj)} {s:Shared} {σ:St} {H:Hp} {R:V→V→Hp→Prop} (I:Inv X pins σ H s)
  (h:ta σ H fun x H1=>tb σ H1 fun y H2=>R x y H2) {Q:Value→Shared→Prop} {f:Value→Value→Sem Value}
  (hf:∀ v u s2 x y H2,Inv X pins σ H2 s2→RelV x v→RelV y u→R x y H2→wpAny (model X.prog X.w) X.A (f v u) Q X.xe s2) :
  wpAny (model X.prog X.w) X.A (eval a X.env) (fun v s₁=>wpAny (model X.prog X.w) X.A (eval b X.env) (fun u s₂=>wpAny (model X.prog X.w) X.A (f v u) Q X.xe s₂) X.xe s₁) X.xe s:=by
 refine thn (ha pins s σ H _ I h) fun v s1 ⟨x,H1,I1,r1,q1⟩=>?_
 refine thn (hb pins s1 σ H1 _ I1 q1) fun u s2 ⟨y,H2,I2,r2,q2⟩=>?_
 exact hf v u s2 x y H2 I2 r1 r2 q2
theorem d0v {op:Operator} {r:R2} (ho:OpR X (binaryOp op) r) (ha:PE X a ta) (hb:PE X b tb):PE X (.BinOp a op b pos) (tOp r ta tb):=by
 intro pins s σ H Q I h
 exact wpAny_BinOp (e0i ha hb I h fun v u s2 x y H2 I2 rx ry q=>ho pins s2 σ H2 x y v u Q I2 rx ry q)
theorem opI {f:Value→Value→Sem Value} {C:Int→Int→Prop} {g:Int→Int→Int}
  (rule:∀ (i j:Int) (t u:Tok) (s:Shared) (Q:Value→Shared→Prop) (E:Value→Shared→Prop),C i j→Q (.int (g i j) s.toks) { s with toks:=s.toks + 1 }→wpAny (model X.prog X.w) X.A (f (.int i t) (.int j u)) Q E s) :
  OpR X f (rI C fun i j=>.int (g i j)):=by
 intro pins s σ H x y v u Q I rx ry h
 obtain ⟨i,j,rfl,rfl,hc,q⟩:=h
 obtain ⟨t,rfl⟩:=rx
 obtain ⟨t',rfl⟩:=ry
 exact rule i j t t' s _ _ hc ⟨.int (g i j),H,I.tok _,⟨_,rfl⟩,q⟩
theorem opI0 {f:Value→Value→Sem Value} {g:Int→Int→Int}
  (rule:∀ (i j:Int) (t u:Tok) (s:Shared) (Q:Value→Shared→Prop) (E:Value→Shared→Prop),Q (.int (g i j) s.toks) { s with toks:=s.toks + 1 }→wpAny (model X.prog X.w) X.A (f (.int i t) (.int j u)) Q E s) :
  OpR X f (rI0 fun i j=>.int (g i j)):=by
 intro pins s σ H x y v u Q I rx ry h
 obtain ⟨i,j,rfl,rfl,q⟩:=h
 obtain ⟨t,rfl⟩:=rx
 obtain ⟨t',rfl⟩:=ry
 exact rule i j t t' s _ _ ⟨.int (g i j),H,I.tok _,⟨_,rfl⟩,q⟩
theorem d6s {f:Value→Value→Sem Value} {g:Int→Int→Bool}
  (rule:∀ (i j:Int) (t u:Tok) (s:Shared) (Q:Value→Shared→Prop) (E:Value→Shared→Prop),Q (.bool (g i j)) s→wpAny (model X.prog X.w) X.A (f (.int i t) (.int j u)) Q E s) :
  OpR X f (rI0 fun i j=>.bl (g i j)):=by
 intro pins s σ H x y v u Q I rx ry h
 obtain ⟨i,j,rfl,rfl,q⟩:=h
 obtain ⟨t,rfl⟩:=rx
 obtain ⟨t',rfl⟩:=ry
 exact rule i j t t' s _ _ ⟨.bl (g i j),H,I,rfl,q⟩
def CDiv (i j:Int):Prop:=0 < j∧j < 1073741824
def CPow (i j:Int):Prop:=0≤j∧j≤1000000∧i.natAbs < 2 ^ 64
def CMul (i j:Int):Prop:=(-(2 ^ 64) < i∧i < 2 ^ 64) ∨ (-(2 ^ 64) < j∧j < 2 ^ 64)
theorem CMul.ok {i j:Int} (h:CMul i j):IntMulOk i j:=by
 rcases h with ⟨h1,h2⟩ | ⟨h1,h2⟩
 ·exact .of_left (intBits_le_64 h1 h2)
 ·exact .of_right (intBits_le_64 h1 h2)
theorem d1k:OpR X (binaryOp .Add) (rI0 fun i j=>.int (i + j)):=opI0 fun _ _ _ _ _ _ _ q=>add_int q
theorem d1d:OpR X (binaryOp .Sub) (rI0 fun i j=>.int (i - j)):=opI0 fun _ _ _ _ _ _ _ q=>sub_int q
theorem d1g:OpR X (binaryOp .Mult) (rI CMul fun i j=>.int (i * j)):=opI fun _ _ _ _ _ _ _ hc q=>mul_int q hc.ok
theorem c7g:OpR X (binaryOp .FloorDiv) (rI CDiv fun i j=>.int (i / j)):=opI fun i j _ _ _ _ _ hc q=>by
 have h1:(0:Int) < j:=hc.1
 have h2:j < 1073741824:=hc.2
 exact floordiv_int (by lia) (by rw [Int.fdiv_eq_ediv_of_nonneg i (by lia)]; exact q) (.inl (PyProof.noPylong_small (by lia)))
theorem d1h:OpR X (binaryOp .Mod) (rI (fun _ j=>0 < j) fun i j=>.int (i % j)):=opI fun i j _ _ _ _ _ hc q=>by
 have h1:(0:Int) < j:=hc
 exact mod_int' (by lia) (by rw [Int.fmod_eq_emod_of_nonneg i (by lia)]; exact q)
theorem d1f:OpR X (binaryOp .Pow) (rI CPow fun i j=>.int (i ^ j.toNat)):=opI fun _ _ _ _ _ _ _ hc q=>pow_int_small hc.1 hc.2.1 hc.2.2 q
end
def scal:V→V→Bool
 | .non,.non=>true | .non,.int _=>true | .int _,.non=>true | .non,.bl _=>true | .bl _,.non=>true | .non,.str _=>true | .str _,.non=>true
 | .int _,.int _=>true | .bl _,.bl _=>true | .str _,.str _=>true | .byt _,.byt _=>true
 | .int _,.str _=>true | .str _,.int _=>true | .bl _,.str _=>true | .str _,.bl _=>true
 | _,_=>false
def rEq:R2:=fun x y H Q=>scal x y=true∧Q (.bl (decide (x=y))) H
def rNe:R2:=fun x y H Q=>scal x y=true∧Q (.bl (!decide (x=y))) H
theorem c0e {i j:Int}:decide (V.int i=V.int j)=(i == j):=by
 rw [Bool.eq_iff_iff]
 simp
theorem c5g {i j:Bool}:decide (V.bl i=V.bl j)=(i == j):=by
 rw [Bool.eq_iff_iff]
 simp
theorem c0d {i j:Str}:decide (V.str i=V.str j)=(i == j):=by
 rw [Bool.eq_iff_iff]
 simp
theorem c0f {i j:Array UInt8}:decide (V.byt i=V.byt j)=(i.toList == j.toList):=by
 rw [Bool.eq_iff_iff]
 cases i
 cases j
 simp
section
variable {X:Cx} {a b c:Expr} {ta tb tc:TE} {pos:Pos}
theorem a0s {pins:List (Addr×Obj)} {σ:St} {H:Hp} {s:Shared} {Q:VK} {k k':Bool} (I:Inv X pins σ H s) (q:Q (.bl k) H) (e:k=k'):EP X pins σ Q (.bool k') s:=by
 subst e
 exact ⟨.bl k,H,I,rfl,q⟩
theorem d6r:OpR X (compareOp .Eq) rEq:=by
 intro pins s σ H x y v u Q I rx ry h
 obtain ⟨hs,q⟩:=h
 cases x with
 | non =>
  cases rx
  cases y with
  | non=>cases ry; exact PySem.EqNone.eq_none_none (a0s I q (by simp))
  | bl j=>cases ry; exact PySem.EqNone.eq_none_bool (a0s I q (by simp))
  | int j=>obtain ⟨t',rfl⟩:=ry; exact PySem.EqNone.eq_none_int (a0s I q (by simp))
  | str j=>obtain ⟨t',rfl⟩:=ry; exact PySem.EqNone.eq_none_str (a0s I q (by simp))
  | _=>exact absurd (show false=true from hs) Γk
 | bl i =>
  cases rx
  cases y with
  | non=>cases ry; exact PySem.EqNone.eq_bool_none (a0s I q (by simp))
  | bl j=>cases ry; exact eq_bool (a0s I q c5g)
  | str j=>obtain ⟨t',rfl⟩:=ry; exact PySem.EqMixed.eq_bool_str (a0s I q (by simp))
  | _=>exact absurd (show false=true from hs) Γk
 | int i =>
  obtain ⟨t,rfl⟩:=rx
  cases y with
  | non=>cases ry; exact PySem.EqNone.eq_int_none (a0s I q (by simp))
  | int j=>obtain ⟨t',rfl⟩:=ry; exact eq_int (a0s I q c0e)
  | str j=>obtain ⟨t',rfl⟩:=ry; exact PySem.EqMixed.eq_int_str (a0s I q (by simp))
  | _=>exact absurd (show false=true from hs) Γk
 | str i =>
  obtain ⟨t,rfl⟩:=rx
  cases y with
  | non=>cases ry; exact PySem.EqNone.eq_str_none (a0s I q (by simp))
  | bl j=>cases ry; exact PySem.EqMixed.eq_str_bool (a0s I q (by simp))
  | int j=>obtain ⟨t',rfl⟩:=ry; exact PySem.EqMixed.eq_str_int (a0s I q (by simp))
  | str j=>obtain ⟨t',rfl⟩:=ry; exact eq_str (a0s I q c0d)
  | _=>exact absurd (show false=true from hs) Γk
 | byt i =>
  obtain ⟨t,rfl⟩:=rx
  cases y with
  | byt j=>obtain ⟨t',rfl⟩:=ry; exact PySem.W.eq_bytes (a0s I q c0f)
  | _=>exact absurd (show false=true from hs) Γk
 | _=>cases y <;> exact absurd (show false=true from hs) Γk
theorem d6n:OpR X (compareOp .NotEq) rNe:=by
 intro pins s σ H x y v u Q I rx ry h
 obtain ⟨hs,q⟩:=h
 cases x with
 | non =>
  cases rx
  cases y with
  | non=>cases ry; exact PySem.EqNone.ne_none_none (a0s I q (by simp))
  | bl j=>cases ry; exact PySem.EqNone.ne_none_bool (a0s I q (by simp))
  | int j=>obtain ⟨t',rfl⟩:=ry; exact PySem.EqNone.ne_none_int (a0s I q (by simp))
  | str j=>obtain ⟨t',rfl⟩:=ry; exact PySem.EqNone.ne_none_str (a0s I q (by simp))
  | _=>exact absurd (show false=true from hs) Γk
 | bl i =>
  cases rx
  cases y with
  | non=>cases ry; exact PySem.EqNone.ne_bool_none (a0s I q (by simp))
  | bl j=>cases ry; exact ne_bool (a0s I q (congrArg not c5g))
  | str j=>obtain ⟨t',rfl⟩:=ry; exact PySem.EqMixed.ne_bool_str (a0s I q (by simp))
  | _=>exact absurd (show false=true from hs) Γk
 | int i =>
  obtain ⟨t,rfl⟩:=rx
  cases y with
  | non=>cases ry; exact PySem.EqNone.ne_int_none (a0s I q (by simp))
  | int j=>obtain ⟨t',rfl⟩:=ry; exact ne_int (a0s I q (congrArg not c0e))
  | str j=>obtain ⟨t',rfl⟩:=ry; exact PySem.EqMixed.ne_int_str (a0s I q (by simp))
  | _=>exact absurd (show false=true from hs) Γk
 | str i =>
  obtain ⟨t,rfl⟩:=rx
  cases y with
  | non=>cases ry; exact PySem.EqNone.ne_str_none (a0s I q (by simp))
  | bl j=>cases ry; exact PySem.EqMixed.ne_str_bool (a0s I q (by simp))
  | int j=>obtain ⟨t',rfl⟩:=ry; exact PySem.EqMixed.ne_str_int (a0s I q (by simp))
  | str j=>obtain ⟨t',rfl⟩:=ry; exact ne_str (a0s I q (congrArg not c0d))
  | _=>exact absurd (show false=true from hs) Γk
 | byt i =>
  obtain ⟨t,rfl⟩:=rx
  cases y with
  | byt j=>obtain ⟨t',rfl⟩:=ry; exact PySem.W.ne_bytes (a0s I q (congrArg not c0f))
  | _=>exact absurd (show false=true from hs) Γk
 | _=>cases y <;> exact absurd (show false=true from hs) Γk
theorem d6o:OpR X (compareOp .Lt) (rI0 fun i j=>.bl (decide (i < j))):=d6s fun _ _ _ _ _ _ _ q=>lt_int q
theorem d6p:OpR X (compareOp .Gt) (rI0 fun i j=>.bl (decide (j < i))):=d6s fun _ _ _ _ _ _ _ q=>gt_int q
theorem d6q:OpR X (compareOp .GtE) (rI0 fun i j=>.bl (decide (j≤i))):=d6s fun _ _ _ _ _ _ _ q=>ge_int q
def d7b:HO→Bool
 | .lst _=>true
 | .ins _ _ _=>true
 | _=>false
theorem obj_there {pins:List (Addr×Obj)} {s:Shared} {σ:St} {H:Hp} {a:Addr} {o:HO} (I:Inv X pins σ H s) (h:H a=some o) (p:d7b o=true):∃ ob,s.heap.get? a=some ob∧ob.cls≠.type "tuple":=by
 cases o with
 | lst xs =>
  obtain ⟨_,its,n,_,e⟩:xs.length≤sizeLine∧∃ (its:List Value) (n:Nat),Vals xs its∧s.heap.get? a=some { cls:=.type "list",data:=.seq its.toArray n }:=I.hok a _ h
  exact ⟨_,e,(by show Value.type "list"≠.type "tuple"; nofun)⟩
 | ins C dx fs =>
  have x:=I.hok a _ h
  obtain ⟨_,_,_,e,_⟩:=x
  exact ⟨_,e,(by show Value.ref C≠.type "tuple"; exact fun z=>by cases z)⟩
 | _=>exact absurd (show false=true from p) Γk
theorem nomark (b:Expr) {op:CmpOp} (h:op≠.In:=by decide) (h2:op≠.NotIn:=by decide):behindInMarks op b=false:=by
 have e1:(op == CmpOp.In)=false:=by cases op <;> first | rfl | exact absurd rfl h
 have e2:(op == CmpOp.NotIn)=false:=by cases op <;> first | rfl | exact absurd rfl h2
 cases b <;> simp [behindInMarks,e1,e2]
theorem c6y {op:CmpOp} {r:R2} (ho:OpR X (compareOp op) r) (ha:PE X a ta) (hb:PE X b tb) (hm:behindInMarks op b=false):PE X (.Compare a [op] [b] pos) (tOp r ta tb):=by
 intro pins s σ H Q I h
 exact wpAny_Compare1 (e0i ha hb I h fun v u s2 x y H2 I2 rx ry q=>ho pins s2 σ H2 x y v u Q I2 rx ry q) hm
def d4y (t:TE):TT:=fun σ H Q=>t σ H fun x H'=>∃ k,x=.bl k∧Q k H'
theorem c6m {op:CmpOp} {r:R2} (ho:OpR X (compareOp op) r) (ha:PE X a ta) (hb:PE X b tb) (hm:behindInMarks op b=false):PT X (.Compare a [op] [b] pos) (d4y (tOp r ta tb)):=by
 intro pins s σ H Q I h
 refine wpAny_isTrue_Compare1 (thn (ha pins s σ H _ I h) fun v s1 ⟨x,H1,I1,r1,q1⟩=>thn (hb pins s1 σ H1 _ I1 q1) fun u s2 ⟨y,H2,I2,r2,q2⟩ =>
  thn (ho pins s2 σ H2 x y v u _ I2 r1 r2 q2) fun c s3 ⟨z,H3,I3,r3,k,e,q3⟩=>?_) hm
 subst e
 cases r3
 exact wpAny_truthy_bool ⟨H3,I3,q3⟩
def d4t (K:Γd) (x:V) (H:Hp) (k:Bool):Prop :=
 match x with
 | .non=>k=false
 | .bl b=>k=b
 | .int i=>k=(i != 0)
 | .str y=>y.length≤sizeLine∧k=((y.length:Int) != 0)
 | .byt y=>y.size≤sizeLine∧k=((y.size:Int) != 0)
 | .ref p=>(∃ xs,SqL K H p xs∧k = !xs.isEmpty) ∨ (∃ xs,SqT K H p xs∧k = !xs.isEmpty) ∨ ∃ kvs,H p=some (.dK kvs)∧k = !kvs.isEmpty
 | _=>False
theorem b5t {κ:Type} {kvs:List (κ×V)} {vs:List (κ×Value)} (r:KV kvs vs):(!vs.isEmpty) = !kvs.isEmpty:=by
 cases r <;> rfl
theorem a8k {xs:List V} {its:List Value} (r:Vals xs its):(!its.toArray.isEmpty) = !xs.isEmpty:=by
 cases r <;> simp
theorem b1e:(sizeLine:Nat) < 2 ^ 63:=by rw [sizeLine_eq]; decide
theorem c4f:TruR X (fun x H Q=>∃ k,d4t X.K x H k∧Q k H):=by
 intro pins s σ H x v Q I rx h
 obtain ⟨k,e,q⟩:=h
 have hl:=b1e
 have hs:sizeLine=16777216:=sizeLine_eq
 cases x with
 | non =>
  cases rx
  have e':k=false:=e
  subst e'
  exact truthy_none ⟨H,I,q⟩
 | bl b =>
  cases rx
  have e':k=b:=e
  subst e'
  exact wpAny_truthy_bool ⟨H,I,q⟩
 | int i =>
  obtain ⟨t,rfl⟩:=rx
  have e':k=(i != 0):=e
  subst e'
  exact PySem.P.truthy_int ⟨H,I,q⟩
 | str y =>
  obtain ⟨t,rfl⟩:=rx
  obtain ⟨hy,e'⟩:y.length≤sizeLine∧k=((y.length:Int) != 0):=e
  subst e'
  exact PySem.P.truthy_str (by lia) ⟨H,I.tok _,q⟩
 | byt y =>
  obtain ⟨t,rfl⟩:=rx
  obtain ⟨hy,e'⟩:y.size≤sizeLine∧k=((y.size:Int) != 0):=e
  subst e'
  exact PySem.W.truthy_bytes (by lia) ⟨H,I.tok _,q⟩
 | ref p =>
  cases rx
  have e':(∃ xs,SqL X.K H p xs∧k = !xs.isEmpty) ∨ (∃ xs,SqT X.K H p xs∧k = !xs.isEmpty) ∨ ∃ kvs,H p=some (.dK kvs)∧k = !kvs.isEmpty:=e
  rcases e' with ⟨xs,hx,e'⟩ | ⟨xs,hx,e'⟩ | ⟨kvs,hx,e'⟩
  ·subst e'
   obtain ⟨its,r,pl,hz⟩:=I.list hx
   have hlen:=r.length
   exact wpAny_truthy_list pl.isList (by simp only [List.size_toArray]; lia) ⟨H,I.tok _,by rw [a8k r]; exact q⟩
  ·subst e'
   obtain ⟨its,r,pl,hz⟩:=I.tuple hx
   have hlen:=r.length
   exact truthy_tuple pl (by simp only [List.size_toArray]; lia) ⟨H,I.tok _,by rw [a8k r]; exact q⟩
  ·subst e'
   obtain ⟨hz,hS,vs,r,m⟩:kvs.length≤sizeLine∧(p == sysModules)=false∧∃ vs,KV kvs vs∧s.heap.DictOf (a0t X.prog X.w) p vs:=I.hok p _ hx
   have hlen:kvs.length=vs.length:=Paired.length r
   exact wpAny_truthy_dict hS m (by lia) ⟨H,I.tok _,by rw [b5t r]; exact q⟩
 | _=>exact (show False from e).elim
theorem c2g (ha:PE X a ta) (he:∀ whole,isTrue a X.env whole=(do let v ← whole; standAt a.pos; holding [v] (truthy v))) :
  PT X a (fun σ H Q=>ta σ H fun x H'=>∃ k,d4t X.K x H' k∧Q k H'):=by
 intro pins s σ H Q I h
 exact isTrue_plain (thn (ha pins s σ H _ I h) fun v s1 ⟨x,H1,I1,r1,q1⟩=>c4f pins s1 σ H1 x v Q I1 r1 q1) (he _)
theorem a3t {x:V} {us:List Value} (r:Vals [x] us):∃ u,us=[u]∧RelV x u:=by
 cases r with
 | cons r1 r2=>cases r2; exact ⟨_,rfl,r1⟩
theorem b6v {x y:V} {us:List Value} (r:Vals [x,y] us):∃ u w',us=[u,w']∧RelV x u∧RelV y w':=by
 cases r with
 | cons r1 r2 =>
  cases r2 with
  | cons r3 r4=>cases r4; exact ⟨_,_,rfl,r1,r3⟩
theorem c3v:a1n X (.builtin "abs") (fun xs H Q=>∃ i,xs=[.int i]∧Q (.int (if i < 0 then -i else i)) H):=by
 intro pins s σ H xs us Q I r h
 obtain ⟨i,rfl,q⟩:=h
 obtain ⟨u,rfl,t,rfl⟩:=a3t r
 exact call_abs_int fun u tk=>⟨.int (if i < 0 then -i else i),H,I.tok _,⟨_,rfl⟩,q⟩
theorem c0w (hc:X.calm=true):a1n X (.builtin "max") (fun xs H Q=>∃ i j,xs=[.int i,.int j]∧Q (.int (if j > i then j else i)) H):=by
 intro pins s σ H xs us Q I r h
 obtain ⟨i,j,rfl,q⟩:=h
 obtain ⟨u,w',rfl,⟨t,rfl⟩,⟨t',rfl⟩⟩:=b6v r
 refine max_two_ints (I.ok.hd hc) fun h' tk k=>⟨_,H,I.kept k,?_,q⟩
 by_cases hj:j > i
 ·rw [if_pos hj,if_pos hj]; exact ⟨_,rfl⟩
 ·rw [if_neg hj,if_neg hj]; exact ⟨_,rfl⟩
theorem c0v (hc:X.calm=true):a1n X (.builtin "min") (fun xs H Q=>∃ i j,xs=[.int i,.int j]∧Q (.int (if j < i then j else i)) H):=by
 intro pins s σ H xs us Q I r h
 obtain ⟨i,j,rfl,q⟩:=h
 obtain ⟨u,w',rfl,⟨t,rfl⟩,⟨t',rfl⟩⟩:=b6v r
 refine min_two_ints (I.ok.hd hc) fun h' tk k=>⟨_,H,I.kept k,?_,q⟩
 by_cases hj:j < i
 ·rw [if_pos hj,if_pos hj]; exact ⟨_,rfl⟩
 ·rw [if_neg hj,if_neg hj]; exact ⟨_,rfl⟩
theorem b1z:a1n X (.type "int") (fun xs H Q=>(∃ i,xs=[.int i]∧Q (.int i) H) ∨ ∃ k,xs=[.bl k]∧Q (.int (if k then 1 else 0)) H):=by
 intro pins s σ H xs us Q I r h
 rcases h with ⟨i,rfl,q⟩ | ⟨k,rfl,q⟩
 ·obtain ⟨u,rfl,t,rfl⟩:=a3t r
  exact call_int_int ⟨.int i,H,I,⟨_,rfl⟩,q⟩
 ·obtain ⟨u,rfl,r1⟩:=a3t r
  cases r1
  exact call_int_bool ⟨.int (if k then 1 else 0),H,I.tok _,⟨_,rfl⟩,q⟩
end
end L2
namespace L2
open PySem PySem.Spec PyProof.Rows
structure ObjM (h:Heap) (x dx C:Addr) (mA:Str→Option Value):Prop where
 obj:h.get? x=some (PySem.W.instObj C dx)
 ns:h.Ns1 dx mA
 ne:dx≠x
theorem b8q {h:Heap} {dx:Addr} {mA:Str→Option Value} (n:h.Ns1 dx mA):∃ od,h.get? dx=some od∧∀ name,PySem.W.lookIn name od=some (mA name):=by
 obtain ⟨o,es,ep,ho,hd,hk,_,hm⟩:=n
 refine ⟨o,ho,fun name=>?_⟩
 have e:=hm name
 unfold nsFind findBy at e
 rw [← Array.find?_toList] at e
 unfold PySem.W.lookIn
 rw [hd]
 dsimp only
 split
 ·rename_i y q
  rw [q] at e
  exact congrArg some e
 ·rename_i q
  rw [q] at e
  have a:es.toList.any (·.refKey)=false:=by
   rw [List.any_eq_false]
   intro y hy
   obtain ⟨z,t,hkey⟩:=hk y (Array.mem_toList_iff.mp hy)
   simp [DictEntry.refKey,hkey]
  have a':¬ es.toList.any (·.refKey)=true:=by rw [a]; exact Γk
  rw [if_neg a']
  exact congrArg some e
theorem ObjM.look {h:Heap} {x dx C:Addr} {mA:Str→Option Value} (I:ObjM h x dx C mA):∃ od,PySem.W.InstAt h x (PySem.W.instObj C dx) C (some od)∧∀ name,PySem.W.lookIn name od=some (mA name) :=
 let ⟨od,ho,hl⟩:=b8q I.ns
 ⟨od,⟨I.obj,rfl,rfl,ho⟩,hl⟩
section
variable {prog:Program} {w:World} {A:Around} {E:Value→Shared→Prop} {s:Shared} {K:Γd} {x dx C f:Addr} {mA:Str→Option Value} {name:Str} {v:Value}
end
theorem RelO.some_of {v:V} {o:Option Value} (r:RelO (some v) o):∃ u,o=some u∧RelV v u:=by
 cases o with
 | none=>exact (show False from r).elim
 | some u=>exact ⟨u,rfl,r⟩
section
variable {P:Program} {w:World} {H H':Hp} {h h':Heap} {a C dx:Addr} {fs fs':List (Str×V)}
theorem c7z (hok:HOk P w H h) (e:H a=some (.ins C dx fs)):∃ mA,ObjM h a dx C mA∧(∀ f,RelO (fs.lookup f) (mA f))∧PySem.Within mA (fs.map (·.1))∧fs.length≤1000∧H dx=some (.own a):=by
 obtain ⟨d,z,ne,ob,mA,n,r,q⟩:=(show ObjOk P w H h a (.ins C dx fs) from hok a _ e)
 exact ⟨mA,⟨ob,n,ne⟩,r,q,z,d⟩
end
structure Cls (K:Γd) (C:Addr):Prop where
 pg:PySem.W.plainGet K C Str.empty=true
 hd:PySem.W.hasDictIn K C=true
 po:PySem.W.plainOver K C=true
 sa:PySem.W.findIn K (.ref C) "__setattr__" = some (some (.builtin "object.__setattr__"))
theorem Cls.get {K:Γd} {C:Addr} (c:Cls K C) (f:Str):PySem.W.plainGet K C f=true:=c.pg
structure Con (K:Γd) (C:Addr) (f:Str) (v:V) (u:Value):Prop where
 at_:PySem.W.findIn K (.ref C) f=some (some u)
 rel:RelV v u
 get:PySem.W.specialIn K u "__get__" = some none
 cp:PySem.W.copiedNames.contains f=false
structure Meth (K:Γd) (C:Addr) (m:Str) (f:Addr):Prop where
 at_:PySem.W.findIn K (.ref C) m=some (some (.ref f))
 fn:PySem.W.isFn K (.ref f)=true
 kp:PySem.W.keepIn K (.ref f)=true
section
variable {X:Cx} {pins:List (Addr×Obj)} {σ:St} {H:Hp} {s:Shared} {a C dx:Addr} {fs:List (Str×V)} {f:Str} {v:V} {A:Around} {E:Value→Shared→Prop}
theorem Inv.made (I:Inv X pins σ H s):Inv X pins σ (upd (upd H s.heap.objs.size (.own (s.heap.objs.size + 1))) (s.heap.objs.size + 1) (.ins C s.heap.objs.size []))
  { s with heap:=(s.heap.push PySem.W.emptyDict).push (PySem.W.instObj C s.heap.objs.size) }:=by
 have e1:(s.heap.push PySem.W.emptyDict).get? s.heap.objs.size=some PySem.W.emptyDict:=Γm s.heap rfl
 have e2:((s.heap.push PySem.W.emptyDict).push (PySem.W.instObj C s.heap.objs.size)).get? (s.heap.objs.size + 1)=some (PySem.W.instObj C s.heap.objs.size):=by
  have:=Γm (s.heap.push PySem.W.emptyDict) (o:=PySem.W.instObj C s.heap.objs.size) rfl
  rwa [Heap.size_push] at this
 have e3:(s.heap.push PySem.W.emptyDict).Ns s.heap.objs.size (fun _=>none):=⟨PySem.W.emptyDict,#[],_,e1,rfl,(fun e he=>absurd he (by simp)),fun _=>rfl⟩
 have I1:=I.laid (a:=s.heap.objs.size) (o:=.own (s.heap.objs.size + 1)) (h':=s.heap.push PySem.W.emptyDict) (t':=s.toks) (fun b u q=>Γc _ q) (Γi _) ⟨_,e1⟩
 refine I1.laid (a:=s.heap.objs.size + 1) (o:=.ins C s.heap.objs.size []) (t':=s.toks) (fun b u q=>Γc _ q) (Nat.le_of_eq (Heap.size_push _ _)) ?_
 have ne:s.heap.objs.size≠s.heap.objs.size + 1:=Γo (Nat.lt_succ_self _)
 refine ⟨by rw [a0e ne,a0f],Nat.zero_le _,ne,e2,fun _=>none,(Heap.Ns1.of_empty e3).at fun o q=>Γc _ q,fun _=>True.intro,fun y hy=>absurd rfl hy⟩
end
section
variable {X:Cx} {o e value:Expr} {f:Str} {pos pos' tpos:Pos} {ta tv:TE}
end
section
variable {X:Cx} {pins:List (Addr×Obj)} {σ:St} {H:Hp} {s:Shared} {A:Around} {E:Value→Shared→Prop} {Q:Value→Shared→Prop} {c:Value} {b:Bool}
inductive TyOf (K:Γd) (H:Hp):V→Value→Prop where
 | non:TyOf K H .non (.type "NoneType")
 | bl (x:Bool):TyOf K H (.bl x) (.type "bool")
 | int (i:Int):TyOf K H (.int i) (.type "int")
 | str (x:Str):TyOf K H (.str x) (.type "str")
 | flt (x:UInt64):TyOf K H (.flt x) (.type "float")
 | lst {a:Addr} {xs:List V} (e:H a=some (.lst xs)):TyOf K H (.ref a) (.type "list")
 | frz {a:Addr} {o:Obj} {xs:List V} (e:H a=some (.frz o (.lst xs))):TyOf K H (.ref a) (.type "list")
 | tup {a:Addr} {xs:List V} (e:H a=some (.tup xs)):TyOf K H (.ref a) (.type "tuple")
 | dK {a:Addr} {kvs:List (Key×V)} (e:H a=some (.dK kvs)):TyOf K H (.ref a) (.type "dict")
 | dT {a:Addr} {kvs:List (List Key×V)} (e:H a=some (.dT kvs)):TyOf K H (.ref a) (.type "dict")
 | ins {a C dx:Addr} {fs:List (Str×V)} (e:H a=some (.ins C dx fs)) (cl:Cls K C) (ha:PySem.W.findIn K (.ref C) "__class__" = some (some (.builtin "object.__class__")))
   (hn:PySem.W.specialIn K (.builtin "object.__class__") "__get__" = some (some (.builtin "getset_descriptor.__get__"))) (htk:PySem.W.takesIn K (.builtin "object.__class__")=some true)
   (hm:PySem.W.mroIn K C (.type "object")=some true):TyOf K H (.ref a) (.ref C)
theorem b9h {x:V} {u t:Value} (I:Inv X pins σ H s) (rx:RelV x u) (ty:TyOf X.K H x t) (e:PySem.W.kitOne X.K t c=some b) (h:∀ tk,Q (.bool b) { s with toks:=tk }) :
  wpAny (model X.prog X.w) A (call (.builtin "isinstance") [u,c]) Q E s:=by
 cases ty with
 | non=>cases (show u=Value.none from rx); exact PySem.W.kia_one PySem.W.kitx_none I.kIn True.intro e (fun z=>nomatch z) h
 | bl y=>cases (show u=Value.bool y from rx); exact PySem.W.kia_one PySem.W.kitx_bool I.kIn True.intro e (fun z=>nomatch z) h
 | int i=>obtain ⟨t,q⟩:=(show ∃ t,u=Value.int i t from rx); cases q; exact PySem.W.kia_one PySem.W.kitx_int I.kIn True.intro e (fun z=>nomatch z) h
 | str y=>obtain ⟨t,q⟩:=(show ∃ t,u=Value.str y t from rx); cases q; exact PySem.W.kia_one PySem.W.kitx_str I.kIn True.intro e (fun z=>nomatch z) h
 | flt y=>obtain ⟨t,q⟩:=(show ∃ t,u=Value.float y t from rx); cases q; exact PySem.W.kia_one PySem.W.kitx_float I.kIn True.intro e (fun z=>nomatch z) h
 | @lst a xs ea =>
  cases (show u=Value.ref a from rx)
  obtain ⟨_,_,n,_,h1⟩:=(show ObjOk X.prog X.w H s.heap a (.lst xs) from I.hok a _ ea)
  exact PySem.W.kia_one PySem.W.kitx_list I.kIn ⟨_,h1,rfl⟩ e (fun z=>nomatch z) h
 | @frz a ob xs ea =>
  cases (show u=Value.ref a from rx)
  obtain ⟨_,_,_,n,_,h1⟩:=(show ObjOk X.prog X.w H s.heap a (.frz ob (.lst xs)) from I.hok a _ ea)
  exact PySem.W.kia_one PySem.W.kitx_list I.kIn ⟨_,h1,rfl⟩ e (fun z=>nomatch z) h
 | @tup a xs ea =>
  cases (show u=Value.ref a from rx)
  obtain ⟨_,_,_,p⟩:=(show ObjOk X.prog X.w H s.heap a (.tup xs) from I.hok a _ ea)
  obtain ⟨o,h1,h2,_⟩:=p
  exact PySem.W.kia_one PySem.W.kitx_tuple I.kIn ⟨o,h1,h2⟩ e (fun z=>nomatch z) h
 | @dK a kvs ea =>
  cases (show u=Value.ref a from rx)
  obtain ⟨_,_,vs,_,p⟩:=(show ObjOk X.prog X.w H s.heap a (.dK kvs) from I.hok a _ ea)
  obtain ⟨o,es,ep,h1,h2,_⟩:=p
  exact PySem.W.kia_one PySem.W.kitx_dict I.kIn ⟨o,h1,h2.1⟩ e (fun z=>nomatch z) h
 | @dT a kvs ea =>
  cases (show u=Value.ref a from rx)
  obtain ⟨_,_,xs,_,o,es,ep,h1,h2,_⟩:=(show ObjOk X.prog X.w H s.heap a (.dT kvs) from I.hok a _ ea)
  exact PySem.W.kia_one PySem.W.kitx_dict I.kIn ⟨o,h1,h2.1⟩ e (fun z=>nomatch z) h
 | @ins a C dx fs ea cl ha hn htk hm =>
  cases (show u=Value.ref a from rx)
  obtain ⟨mA,O,_⟩:=c7z I.hok ea
  obtain ⟨od,J,_⟩:=O.look
  exact PySem.W.kia_one (PySem.W.kitx_own (cl.get _) cl.hd ha hn htk hm) I.kIn J e (fun z=>nomatch z) h
end
end L2
namespace L2
open PySem PySem.Spec PyProof.Rows
structure Room (k:Nat) (A:Around):Prop where
 hd:A.handled=none
 dp:A.depth + 3 * k + 5 < recursionLimit
 un:A.units + 16 * k + 200 < cLine
 gd:A.guards=some []
theorem Room.deeper {k:Nat} {A:Around} (r:Room (k + 1) A) (env:Env):Room k (A.deeper env) :=
 ⟨r.hd,by have:=r.dp; show A.depth + 1 + 3 * k + 5 < _; lia,by have:=r.un; show A.units + 3 + 16 * k + 200 < _; lia,r.gd⟩
theorem Room.in1 {k:Nat} {A:Around} (r:Room (k + 1) A):Room k A.in1 :=
 ⟨r.hd,by have:=r.dp; show A.depth + 3 * k + 5 < _; lia,by have:=r.un; show A.units + 1 + 16 * k + 200 < _; lia,r.gd⟩
theorem Room.depth {k:Nat} {A:Around} (r:Room k A):A.depth < recursionLimit:=by have:=r.dp; lia
theorem Room.units {k:Nat} {A:Around} (r:Room k A):A.units + 64 < cLine:=by have:=r.un; lia
def tNil:TA:=fun _ H Q=>Q [] H
def c1m (ta:TE) (tr:TA):TA:=fun σ H Q=>ta σ H fun x H1=>tr σ H1 fun xs H2=>Q (x :: xs) H2
section
variable {X:Cx} {e:Expr} {es:List Expr} {te:TE} {t:TA} {pos:Pos}
theorem a1s:PA X [] tNil:=fun _ _ _ _ H Q I h=>Calls.spliced_nil ⟨[],H,I,.nil,h⟩
theorem a0j (ha:PE X e te) (hr:PA X es t) (hs:starEach (e :: es) X.env=(false,eval e X.env) :: starEach es X.env:=by rfl):PA X (e :: es) (c1m te t):=by
 intro pos pins s σ H Q I h
 rw [hs]
 show wpAny _ _ (spliced ((false,eval e X.env) :: backTo pos (starEach es X.env))) _ _ s
 refine Calls.spliced_cons (thn (ha pins s σ H _ I h) fun u s1 ⟨x,H1,I1,r1,q1⟩=>?_)
 exact thn (hr pos pins s1 σ H1 _ I1 q1) fun us s2 ⟨xs,H2,I2,r2,q2⟩=>⟨x :: xs,H2,I2,.cons r1 r2,q2⟩
def tTup (t:TA):TE:=fun σ H Q=>t σ H fun xs H1=>xs.length≤sizeLine∧∀ p,H1 p=none→Q (.ref p) (upd H1 p (.tup xs))
def tLst (t:TA):TE:=fun σ H Q=>t σ H fun xs H1=>xs.length≤sizeLine∧∀ p,H1 p=none→Q (.ref p) (upd H1 p (.lst xs))
theorem d0u {x1} (h:PA X es t):PE X (.Tuple es x1 pos) (tTup t):=by
 intro pins s σ H Q I hq
 refine wpAny_Tuple_spliced (thn (h pos pins s σ H _ I hq) fun us s1 ⟨xs,H1,I1,r,z,q⟩=>⟨by rw [← r.length]; exact z,?_⟩)
 have hf:H1 s1.heap.objs.size=none:=I1.hok.fresh (Γi _)
 refine ⟨.ref s1.heap.objs.size,upd H1 s1.heap.objs.size (.tup xs),I1.laid (t':=s1.toks) (fun b u e=>Γc _ e) (Γi _) ?_,rfl,q _ hf⟩
 exact ⟨z,us,r,⟨_,Γm _ rfl,rfl,_,rfl⟩⟩
theorem c4t (h:PA X es t):PE X (.List es pos) (tLst t):=by
 intro pins s σ H Q I hq
 refine wpAny_List_spliced (thn (h pos pins s σ H _ I hq) fun us s1 ⟨xs,H1,I1,r,z,q⟩=>⟨by rw [← r.length]; exact z,?_⟩)
 have hf:H1 s1.heap.objs.size=none:=I1.hok.fresh (Γi _)
 refine ⟨.ref s1.heap.objs.size,upd H1 s1.heap.objs.size (.lst xs),I1.laid (t':=s1.toks) (fun b u e=>Γc _ e) (Γi _) ?_,rfl,q _ hf⟩
 exact ⟨z,us,0,r,Γm _ rfl⟩
end
abbrev Sp:=List V→Hp→VK→XK→Prop
abbrev CXT:=List Env→Hp→Shared→XK→Value→Shared→Prop
structure Env0 (P:Program) (w:World) (K:Γd) (mg:Str→Option Value) (base:Heap) (A:Around) (outer:List Env) (s:Shared) (H:Hp):Prop where
 frames:A.frames=some outer
 mod:Mod K mg base
 bs:∀ b o,base.get? b=some o→s.heap.get? b=some o∧H b=none
 bsz:base.objs.size≤s.heap.objs.size
 funs:s.heap.FunFrames base outer
 frf:∀ b∈frs outer,H b=none
 hok:HOk P w H s.heap
 bare:AllBare s.gens
def CE (outer:List Env) (P:Program) (w:World) (H:Hp) (s:Shared) (Q:VK) (u:Value) (s':Shared):Prop :=
 ∃ v H',s'.os=s.os∧AllBare s'.gens∧Un (frs outer) [] H H' s.heap s'.heap∧HOk P w H' s'.heap∧RelV v u∧Q v H'
def CR (CX:CXT) (outer:List Env) (P:Program) (w:World) (H:Hp) (s:Shared) (Q:VK) (E:XK) (r:Result) (s':Shared):Prop :=
 match r with
 | .ok (.ret u)=>CE outer P w H s Q u s'
 | .ok _=>False
 | .error e=>CX outer H s E e s'
structure FnOk (P:Program) (w:World) (K:Γd) (mg:Str→Option Value) (base:Heap) (CX:CXT) (k:Nat) (f:Addr) (fd:FuncData) (ps:List Str) (sp:Sp):Prop where
 len:∀ vs H Q E,sp vs H Q E→vs.length=ps.length
 run:∀ (A:Around) (outer:List Env) (s:Shared) (H:Hp) (args:Args) (us:List Value) (vs:List V) (Q:VK) (E:XK),Room k A→Env0 P w K mg base A outer s H→BindsTo s fd args (ps.zip us)→Vals vs us→sp vs H Q E →
  codeAny (model P w) A (.call (.ref f) args) (CR CX outer P w H s Q E) s
theorem Env0.in1 {P:Program} {w:World} {K:Γd} {mg:Str→Option Value} {base:Heap} {A:Around} {outer:List Env} {s:Shared} {H:Hp} (e:Env0 P w K mg base A outer s H) :
  Env0 P w K mg base A.in1 outer s H:=⟨e.frames,e.mod,e.bs,e.bsz,e.funs,e.frf,e.hok,e.bare⟩
section
variable {X:Cx} {pins:List (Addr×Obj)} {σ:St} {H:Hp} {s s':Shared}
theorem Inv.env0 (I:Inv X pins σ H s):Env0 X.prog X.w X.K X.mg X.base X.A X.stack s H :=
 ⟨I.ok.frames,I.ok.mod,I.bs,Nat.le_trans I.ok.bsz I.sz,I.stack,I.stkFree,I.hok,I.bare⟩
theorem Inv.after {Q:VK} {u:Value} (I:Inv X pins σ H s) (h:CE X.stack X.prog X.w H s Q u s'):EP X pins σ Q u s':=by
 obtain ⟨v,H',os,bare,un,hok,r,q⟩:=h
 obtain ⟨hh,g,d,t,os'⟩:=s'
 obtain rfl:os'=s.os:=os
 exact ⟨v,H',I.call (h':=hh) (g':=g) (d':=d) (t':=t) (ch:=[]) un hok bare (fun b z=>absurd z (by simp)),r,q⟩
end
def d5f (sp:Sp) (dvs:List V) (E:XK) (t:TA):TE:=fun σ H Q=>t σ H fun vs H1=>sp (vs++dvs) H1 Q E
def Binds (K:Γd) (fd:FuncData) (ps:List Str) (ds:List Value):Prop :=
 ∀ (s:Shared) (us:List Value),K.In s.heap→(us++ds).length=ps.length→BindsTo s fd ⟨us,[]⟩ (ps.zip (us++ds))
theorem Binds.all {K:Γd} {fd:FuncData} {ps:List Str} (h:∀ us:List Value,us.length=ps.length→bindArgs fd ⟨us,[]⟩=pure (ps.zip us)):Binds K fd ps []:=fun s us _ hl=>by
 rw [List.append_nil] at hl ⊢
 exact .of_eq (h us hl)
def c1b (CX:CXT) (X:Cx) (E:XK):Prop:=∀ (pins:List (Addr×Obj)) (σ:St) (H:Hp) (s:Shared) (e:Value) (s':Shared),Inv X pins σ H s→CX X.stack H s E e s'→X.xe e s'
section
variable {X:Cx} {CX:CXT} {k:Nat} {f C:Addr} {fd:FuncData} {ps:List Str} {sp:Sp} {dvs:List V} {ds:List Value} {E:XK} {x m:Str} {p pos apos:Pos} {e o:Expr} {es:List Expr} {ta:TE} {t:TA}
theorem c9w {pins:List (Addr×Obj)} {σ:St} {H:Hp} {s:Shared} {Q:VK} {us:List Value} {vs:List V} (F:FnOk X.prog X.w X.K X.mg X.base CX k f fd ps sp) (hr:Room k X.A) (hb:Binds X.K fd ps ds) (hd:Vals dvs ds) (hx:c1b CX X E)
  (I:Inv X pins σ H s) (r:Vals vs us) (h:sp (vs++dvs) H Q E):wpAny (model X.prog X.w) X.A (call (.ref f) us) (EP X pins σ Q) X.xe s:=by
 have r2:Vals (vs++dvs) (us++ds):=r.append hd
 have hl:(us++ds).length=ps.length:=by rw [← r2.length]; exact F.len _ _ _ _ h
 refine wpAny_call (codeAny_mono (F.run X.A X.stack s H ⟨us,[]⟩ (us++ds) (vs++dvs) Q E hr I.env0 (hb s us I.kIn hl) r2 h) fun r s' hq=>?_)
 cases r with
 | error e=>exact hx pins σ H s e s' I hq
 | ok fl =>
  cases fl with
  | ret u=>exact I.after hq
  | next=>exact False.elim hq
  | brk=>exact False.elim hq
  | cont=>exact False.elim hq
theorem c6z (F:FnOk X.prog X.w X.K X.mg X.base CX k f fd ps sp) (hr:Room k X.A) (hg:Gl X x) (hm:X.mg x=some (.ref f)) (hk:PySem.W.keepIn X.K (.ref f)=true) (hb:Binds X.K fd ps ds) (hd:Vals dvs ds) (hx:c1b CX X E)
  (ha:PA X (e :: es) t) (hdb:(x == ("__debug__":Str))=false:=by decide) (he:starEach (e :: es) X.env=(false,eval e X.env) :: starEach es X.env:=by rfl) (hpl:(backTo pos (starEach es X.env)).any (·.1)=false:=by rfl) :
  PE X (.Call (.Name x p) (e :: es) [] pos) (d5f sp dvs E t):=by
 intro pins s σ H Q I h
 refine wpAny_Call_Name_kw (c7t I hg hm ?_ hdb)
 refine PySem.W.callWith_K (h₀:=X.base) I.ok.mod.kin hk (thn (ha pos pins s σ H _ I h) fun us s1 ⟨vs,H1,I1,r,q⟩=>⟨I1.kIn,?_⟩) he hpl
 exact c9w F hr hb hd hx I1 r q
structure Mk (K:Γd) (C f:Addr):Prop where
 makes:PySem.W.makesIn K C=true
 init:PySem.W.findIn K (.ref C) "__init__" = some (some (.ref f))
 fn:PySem.W.isFn K (.ref f)=true
 kp:PySem.W.keepIn K (.ref C)=true
end
section
variable {X:Cx} {CX:CXT} {k:Nat} {f C:Addr} {fd:FuncData} {ps ks:List Str} {sp:Sp} {E:XK} {x m:Str} {p pos apos kpos:Pos} {e o:Expr} {es:List Expr} {kws:List Keyword} {te ta:TE} {t tk:TA} {nm:Option Str}
structure KBinds (K:Γd) (fd:FuncData) (ps ks:List Str) (g:List Value→List Value→List Value) (gV:List V→List V→List V):Prop where
 to:∀ (s:Shared) (us ws:List Value),K.In s.heap→(g us ws).length=ps.length→BindsTo s fd ⟨us,ks.zip ws⟩ (ps.zip (g us ws))
 rel:∀ {vs:List V} {us:List Value} {zs:List V} {ws:List Value},Vals vs us→Vals zs ws→Vals (gV vs zs) (g us ws)
variable {g:List Value→List Value→List Value} {gV:List V→List V→List V}
end
structure FnScope (N P:List Str) (sc:Scope):Prop where
 kind:sc.kind=.function
 co:sc.isCoroutine=false
 gen:sc.isGenerator=false
 nd:N.Nodup
 pre:N.take P.length=P
 par:∀ x∈P,sc.names.lookup x=some .local ∨ sc.names.lookup x=some .cell
 nofree:∀ y∈sc.names,y.2≠.free
theorem b2a {kindOf:Str→Option NameKind} {x:Str}:∀ {binds:List (Str×Value)} {m:Str→Option Value},(∀ v,(x,v) ∉ binds)→bindL kindOf binds m x=m x
 | [],_,_=>rfl
 | (n,v) :: r,m,h=>by
  unfold bindL
  rw [b2a fun w hw=>h w (Γh _ hw)]
  split
  ·have:x≠n:=by rintro rfl; exact h v Γn
   simp [this]
  ·rfl
theorem b2c {kindOf:Str→Option NameKind} {x:Str}:∀ {binds:List (Str×Value)} {m:Str→Option Value},(∀ v,(x,v) ∉ binds)→bindC kindOf binds m x=m x
 | [],_,_=>rfl
 | (n,v) :: r,m,h=>by
  unfold bindC
  rw [b2c fun w hw=>h w (Γh _ hw)]
  split
  ·rfl
  ·have:x≠n:=by rintro rfl; exact h v Γn
   simp [this]
theorem b2b {kindOf:Str→Option NameKind} {x:Str} {v:Value}:∀ {P:List Str} {vs:List Value} {i:Nat} {m:Str→Option Value},P.Nodup→P[i]?=some x→vs[i]?=some v→kindOf x=some .local →
  bindL kindOf (P.zip vs) m x=some v
 | [],_,_,_,_,h,_,_=>by simp at h
 | _ :: _,[],_,_,_,_,h,_=>by simp at h
 | p :: P,w :: vs,0,m,nd,h1,h2,hk=>by
  simp at h1 h2; subst h1; subst h2
  show bindL kindOf ((p,w) :: P.zip vs) m p=_
  unfold bindL
  rw [b2a fun v hv=>(List.nodup_cons.mp nd).1 (List.of_mem_zip hv).1,if_pos hk]
  simp
 | p :: P,w :: vs,i + 1,m,nd,h1,h2,hk=>by
  show bindL kindOf ((p,w) :: P.zip vs) m x=_
  unfold bindL
  exact b2b (i:=i) (List.nodup_cons.mp nd).2 (by simpa using h1) (by simpa using h2) hk
theorem b2d {kindOf:Str→Option NameKind} {x:Str} {v:Value}:∀ {P:List Str} {vs:List Value} {i:Nat} {m:Str→Option Value},P.Nodup→P[i]?=some x→vs[i]?=some v→kindOf x≠some .local →
  bindC kindOf (P.zip vs) m x=some v
 | [],_,_,_,_,h,_,_=>by simp at h
 | _ :: _,[],_,_,_,_,h,_=>by simp at h
 | p :: P,w :: vs,0,m,nd,h1,h2,hk=>by
  simp at h1 h2; subst h1; subst h2
  show bindC kindOf ((p,w) :: P.zip vs) m p=_
  unfold bindC
  rw [b2c fun v hv=>(List.nodup_cons.mp nd).1 (List.of_mem_zip hv).1,if_neg hk]
  simp
 | p :: P,w :: vs,i + 1,m,nd,h1,h2,hk=>by
  show bindC kindOf ((p,w) :: P.zip vs) m x=_
  unfold bindC
  exact b2d (i:=i) (List.nodup_cons.mp nd).2 (by simpa using h1) (by simpa using h2) hk
def start (N:List Str) (vs:List V):St:=vs.map some++Γj (N.length - vs.length) none
def c8o (CX:CXT) (P:Program) (w:World) (K:Γd) (mg:Str→Option Value) (base:Heap) (N:List Str) (qual:Str) (scope:Scope) (f:Addr) (cd:Value) (A:Around) (outer:List Env) (s:Shared) (H:Hp) (E:XK):Cx where
 prog:=P
 w:=w
 K:=K
 mg:=mg
 base:=base
 A:=A.deeper (envOfC qual scope s.heap.objs.size f cd)
 N:=N
 s₀:=s
 H₀:=H
 env:=envOfC qual scope s.heap.objs.size f cd
 outer:=outer
 stack:=envOfC qual scope s.heap.objs.size f cd :: outer
 ex:=[]
 calm:=true
 fn:=fun _=>true
 pn:=[]
 xe:=fun e s'=>wpAny (model P w) (A.deeper (envOfC qual scope s.heap.objs.size f cd)) (leaving (envOfC qual scope s.heap.objs.size f cd) e) (fun _ s''=>CX outer H s E e s'') (fun e' s''=>CX outer H s E e' s'') s'
theorem b4z {sc:Scope} {n:Nat} {x:Str} (h:sc.names.lookup x=some .cell):∃ c,(cellsFrom n sc.names []).lookup x=some c:=by
 have q:=PySem.W.cellsFrom_some sc.names n [] (.inl h)
 exact Option.isSome_iff_exists.mp q
theorem b9k {CX:CXT} {P:Program} {w:World} {K:Γd} {mg:Str→Option Value} {base:Heap} {N ps:List Str} {qual:Str} {scope:Scope} {f:Addr} {cd:Value} {A:Around} {outer:List Env} {s s1:Shared} {H:Hp} {E:XK} {us:List Value} {vs:List V}
  (S:FnScope N ps scope) (hd:A.handled=none) (e0:Env0 P w K mg base A outer s H) (hl:vs.length=ps.length) (r:Vals vs us)
  (x:InCallC s s.heap.objs.size (bindL (envOfC qual scope s.heap.objs.size f cd).kindOf (ps.zip us) fun _=>none) (cellsFrom (s.heap.objs.size + 1) scope.names []) (bindC (envOfC qual scope s.heap.objs.size f cd).kindOf (ps.zip us) fun _=>none) s1) :
  Inv (c8o CX P w K mg base N qual scope f cd A outer s H E) [] (start N vs) H s1:=by
 have hpl:ps.length≤N.length:=by have:=congrArg List.length S.pre; rw [List.length_take] at this; lia
 obtain ⟨h1,tk,rfl,hk⟩:=x.done
 have noA:∀ b:Addr,b ∉ (c8o CX P w K mg base N qual scope f cd A outer s H E).ex:=fun b z=>absurd (show b∈([]:List Addr) from z) (by simp)
 refine ⟨⟨e0.mod,S.kind,rfl,rfl,Γi _,fun y z c h1 h2=>?_,fun y hy=>?_,fun y c _ h=>?_,fun _=>hd,Around.frames_deeper e0.frames,.inr ⟨rfl,rfl⟩,fun b z=>absurd z (noA b),e0.bs,e0.bsz,fun b _ _=>noA b,fun b z=>absurd z (noA b),e0.funs,e0.frf⟩,
  rfl,e0.bare,Un.kept hk,⟨_,x.toInCall.ns,fun i y v h1 h2 h3=>?_⟩,fun y c h=>⟨_,x.cell y c h⟩,e0.hok.fresh (Γi _),fun y c h=>?_,fun p hp=>absurd (show p∈([]:List (Addr×Obj)) from hp) (by simp),e0.hok.kept hk,?_⟩
 ·exact name_of_addr x.apart (PySem.mem_of_lookup h1) (PySem.mem_of_lookup h2)
 ·have hy:scope.names.lookup y=some .cell ∨ scope.names.lookup y=some .free:=hy
  rcases hy with hy | hy
  ·exact b4z hy
  ·exact absurd rfl (S.nofree _ (PySem.mem_of_lookup hy))
 ·exact Nat.le_of_lt (x.above y c (PySem.mem_of_lookup h))
 ·have hi:i < vs.length:=by
   unfold start at h2
   by_cases hi:i < vs.length
   ·exact hi
   ·rw [List.getElem?_append_right (by simpa using hi)] at h2
    rw [List.getElem?_replicate] at h2
    split at h2 <;> cases h2
  have ha:vs[i]?=some v:=by
   unfold start at h2
   rw [List.getElem?_append_left (by simpa using hi),List.getElem?_map] at h2
   cases e:vs[i]? with
   | none=>rw [e] at h2; cases h2
   | some a=>rw [e] at h2; cases h2; rfl
  obtain ⟨u,hu,rv⟩:=r.get ha
  have hp:ps[i]?=some y:=by
   rw [← S.pre,List.getElem?_take_of_lt (by lia)]; exact h1
  have ndP:ps.Nodup:=by rw [← S.pre]; exact S.nd.sublist (List.take_sublist _ _)
  refine ⟨u,rv,?_⟩
  rcases S.par y (List.mem_of_getElem? hp) with k | k
  ·exact .inl ⟨k,b2b ndP hp hu k⟩
  ·obtain ⟨c,e⟩:=b4z (n:=s.heap.objs.size + 1) k
   refine .inr ⟨.inl k,c,e,?_⟩
   have q:=x.cell y c e
   rw [b2d ndP hp hu (by show scope.names.lookup y≠_; rw [k]; decide)] at q
   exact q
 ·exact e0.hok.fresh (Nat.le_of_lt (x.above y c (PySem.mem_of_lookup h)))
 ·unfold start
  show _=N.length
  rw [List.length_append,List.length_map,List.length_replicate]
  lia
theorem d7t {CX:CXT} {P:Program} {w:World} {K:Γd} {mg:Str→Option Value} {base:Heap} {k:Nat} {f:Addr} {name qual:Str} {params:Arguments} {body:List Stmt} {scope:Scope} {dV kV doc pm cdv ct oc:Value} {an od:Option Addr}
  {osl:Array (Option Value)} {N ps:List Str} {sp:Sp} (lk:K.lookup f=some ⟨oc,od,.func (PySem.W.fnOf name qual params body scope dV kV doc pm an cdv ct),osl⟩) (hcd:PySem.W.codeIn K cdv qual=true) (S:FnScope N ps scope)
  (len:∀ vs H Q E,sp vs H Q E→vs.length=ps.length)
  (hbody:∀ (A:Around) (outer:List Env) (s:Shared) (H:Hp) (vs:List V) (Q:VK) (E:XK),Room k (A.deeper (envOfC qual scope s.heap.objs.size f cdv))→sp vs H Q E →
   ∃ t,PSs (c8o CX P w K mg base N qual scope f cdv A outer s H E) body t∧t { nx:=fun _ H'=>Q .non H',rt:=Q } (start N vs) H) :
  FnOk P w K mg base CX (k + 1) f (PySem.W.fnOf name qual params body scope dV kV doc pm an cdv ct) ps sp:=by
 refine ⟨len,fun A outer s H args us vs Q E hr e0 hb r hsp=>?_⟩
 have hl:=len _ _ _ _ hsp
 have KX:K.In s.heap:=e0.mod.kin.keeps fun b o e=>(e0.bs b o e).1
 have lim:s.heap.NoLimit:=e0.mod.nolimit.keeps fun b o e=>(e0.bs b o e).1
 have hkind:∀ y∈ps.zip us,scope.names.lookup y.1=some .local ∨ (scope.names.lookup y.1=some .cell∧((cellsFrom (s.heap.objs.size + 1) scope.names []).lookup y.1).isSome=true):=fun ⟨n,v⟩ hy=>by
  rcases S.par n (List.of_mem_zip hy).1 with q | q
  ·exact .inl q
  ·exact .inr ⟨q,PySem.W.cellsFrom_some _ _ _ (.inl q)⟩
 refine codeAny_call_function hr.depth (KX _ _ lk) rfl S.co S.gen rfl (PySem.W.codeRec_of KX hcd) (hb _ _ _ _ ?_)
 refine wpAny_newFunctionEnv_cells S.kind hkind fun env he s1 x=>?_
 subst he
 refine ⟨lim.keeps x.toInCall.keep,codeAny_func ?_⟩
 obtain ⟨t,ht,hq⟩:=hbody A outer s H vs Q E (hr.deeper _) hsp
 have I:Inv (c8o CX P w K mg base N qual scope f cdv A outer s H E) [] (start N vs) H s1:=b9k S hr.hd e0 hl r x
 refine wpAny_mono (ht [] s1 (start N vs) H _ I hq) (fun fl s' hs=>?_) fun e s' hs=>hs
 have fin:∀ {σ':St} {H':Hp} {v:V} {u:Value},Inv (c8o CX P w K mg base N qual scope f cdv A outer s H E) [] σ' H' s'→RelV v u→Q v H'→CE outer P w H s Q u s' :=
  fun {σ' H' v u} J rv q=>⟨v,H',J.os,J.bare,J.base,J.hok,rv,q⟩
 cases fl with
 | ret u =>
  obtain ⟨v,σ',H',J,rv,q⟩:=hs
  exact fin J rv q
 | next =>
  obtain ⟨σ',H',J,q⟩:=hs
  exact fin (v:=V.non) (u:=Value.none) J rfl q
 | brk =>
  obtain ⟨_,_,_,q⟩:=hs
  exact False.elim q
 | cont =>
  obtain ⟨_,_,_,q⟩:=hs
  exact False.elim q
end L2
namespace L2
open PySem PySem.Spec PyProof.Rows
section
variable {X:Cx} {x:Str} {p pos:Pos} {e:Expr} {es:List Expr} {t:TA} {id T:String} {r:List V→Hp→VK→Prop}
def tCB (r:List V→Hp→VK→Prop) (t:TA):TE:=fun σ H Q=>t σ H fun vs H1=>r vs H1 Q
theorem a4n (hc:a1n X (.builtin id) r) (hg:Gl X x) (hm:X.mg x=none) (hv:bootBuiltins x=some (.builtin id)) (ha:PA X (e :: es) t) (hn:x≠"__name__":=by decide) (hdb:(x == ("__debug__":Str))=false:=by decide)
  (he:starEach (e :: es) X.env=(false,eval e X.env) :: starEach es X.env:=by rfl) (hpl:(backTo pos (starEach es X.env)).any (·.1)=false:=by rfl):PE X (.Call (.Name x p) (e :: es) [] pos) (tCB r t):=by
 intro pins s σ H Q I h
 refine wpAny_Call_Name_kw (a4r I hg hm hv ?_ hn hdb)
 exact PyProof.Rows.callWith_builtin1 (thn (ha pos pins s σ H _ I h) fun us s1 ⟨vs,H1,I1,r1,q1⟩=>hc pins s1 σ H1 vs us Q I1 r1 q1) he hpl
theorem a4m (hc:a1n X (.type T) r) (hg:Gl X x) (hm:X.mg x=none) (hv:bootBuiltins x=some (.type T)) (ha:PA X (e :: es) t) (hn:x≠"__name__":=by decide) (hdb:(x == ("__debug__":Str))=false:=by decide)
  (he:starEach (e :: es) X.env=(false,eval e X.env) :: starEach es X.env:=by rfl) (hpl:(backTo pos (starEach es X.env)).any (·.1)=false:=by rfl):PE X (.Call (.Name x p) (e :: es) [] pos) (tCB r t):=by
 intro pins s σ H Q I h
 refine wpAny_Call_Name_kw (a4r I hg hm hv ?_ hn hdb)
 exact PyProof.Rows.callWith_type1 (thn (ha pos pins s σ H _ I h) fun us s1 ⟨vs,H1,I1,r1,q1⟩=>hc pins s1 σ H1 vs us Q I1 r1 q1) he hpl
end
end L2
namespace HT
open PySem PyProof.Rows
def lexLt:List Int→List Int→Bool
 | [],[]=>false
 | [],_ :: _=>true
 | _ :: _,[]=>false
 | x :: xs,y :: ys=>if x=y then lexLt xs ys else decide (x < y)
theorem b5q (x y:Int) (xs ys:List Int):lexLt (x :: xs) (y :: ys)=if x=y then lexLt xs ys else decide (x < y):=rfl
theorem a9u:lexLt [] []=false:=rfl
theorem a7u (y:Int) (ys:List Int):lexLt [] (y :: ys)=true:=rfl
theorem a7v (x:Int) (xs:List Int):lexLt (x :: xs) []=false:=rfl
theorem c3m (A:Around) (s:Shared) (a:Int) (t:Tok) (c:Int) (u:Tok):∃ e,SeqAt.EqAt A s (.int a t) (.int c u) e∧(e=true↔a=c) :=
 ⟨(a == c),SeqAt.EqAt.int_int a t c u,by simp⟩
theorem c2a (A:Around) (s:Shared) (a:Int) (t:Tok) (c:Int) (u:Tok) (prog:Program) (w:World) (E:Value→Shared→Prop) (Q:Value→Shared→Prop) (h:Q (.bool (decide (a < c))) s) :
  wpAny (model prog w) A (richCompare .Lt (.int a t) (.int c u)) Q E s :=
 (PyProof.Rows.lt_int h:wpAny (model prog w) A (compareOp .Lt (.int a t) (.int c u)) Q E s)
section
open PySem.SeqAt
open PySem.AutoSeq1 (wpAny_loadPart')
open PySem.MeetsSeq PySem.MeetsSeq2 PySem.MeetsSeq3
theorem a8x (l b:Addr) (items items2:Array Value) (n n2:Nat) (dd dd2:Option Addr) (sl sl2:Array (Option Value)) (ns ms:List Int) (hi:IntsAre items.toList ns) (hj:IntsAre items2.toList ms) :
  Meets (Builtin.«tuple.__lt__» ⟨[.ref l,.ref b],[]⟩)
   (fun _ R s=>s.heap.get? l=some { cls:=.type "tuple",dict:=dd,data:=.seq items n,slots:=sl }∧s.heap.get? b=some { cls:=.type "tuple",dict:=dd2,data:=.seq items2 n2,slots:=sl2 } ∧
    R (.ok (.ret (.bool (lexLt ns ms)))) s) :=
 .of_wp fun prog w A R s h=>by
  obtain ⟨hp,g,d,tk,os⟩:=s; obtain ⟨hl,hb,h⟩:=h
  have f2:=AutoSeq1.sub_tuple_tuple
  have z1:items.size=ns.length:=by rw [← hi.length]; simp
  have z2:items2.size=ms.length:=by rw [← hj.length]; simp
  wp_walk using wpAny_loadPart' hl,wpAny_loadPart' hb,wpAny_forIn_list _ (fun rest b s'=>b.1=none∧s'=⟨hp,g,d,tk,os⟩∧∃ (vs ws:List Value) (ns' ms':List Int),rest=vs.zip ws ∧
   IntsAre vs ns'∧IntsAre ws ms'∧ns'.length + items2.size=ms'.length + items.size∧R (.ok (.ret (.bool (lexLt ns' ms')))) ⟨hp,g,d,tk,os⟩) _
  case turn =>
   rintro ⟨y,x⟩ rest b s' ⟨hb',rfl,vs,ws,ns',ms',hz,hvi,hwi,hlen,hR⟩
   cases hvi with
   | nil=>rw [List.zip_nil_left] at hz; cases hz
   | cons a t hvi' =>
    cases hwi with
    | nil=>rw [List.zip_nil_right] at hz; cases hz
    | cons c u hwi' =>
     rw [List.zip_cons_cons] at hz
     injection hz with hyx hrest
     injection hyx with hy hx
     subst hy hx
     rw [b5q] at hR
     simp only [List.length_cons] at hlen
     obtain ⟨e,he,hiff⟩:=c3m A.in1 ⟨hp,g,d,tk,os⟩ a t c u
     refine Γa (he prog w _ _ ?_)
     cases e with
     | true =>
      rw [if_pos (hiff.mp rfl)] at hR
      wp_walk
      exact ⟨rfl,rfl,_,_,_,_,hrest,hvi',hwi',by lia,hR⟩
     | false =>
      rw [if_neg (fun q=>absurd (hiff.mpr q) Γk)] at hR
      have hri:=c2a A.in1 ⟨hp,g,d,tk,os⟩ a t c u prog w
      wp_walk using hri
      exact ⟨_,rfl,by simpa using hR⟩
  case fin =>
   rintro ⟨b1,b2⟩ s' ⟨hb',rfl,vs,ws,ns',ms',hz,hvi,hwi,hlen,hR⟩
   simp only at hb'
   subst hb'
   have hv:lexLt ns' ms'=decide (items.size < items2.size):=by
    cases hvi with
    | nil =>
     cases hwi with
     | nil =>
      simp only [List.length_nil] at hlen
      rw [a9u]
      exact (decide_eq_false (by lia)).symm
     | cons c u hw =>
      simp only [List.length_nil,List.length_cons] at hlen
      rw [a7u]
      exact (decide_eq_true (by lia)).symm
    | cons a t hv =>
     cases hwi with
     | nil =>
      simp only [List.length_nil,List.length_cons] at hlen
      rw [a7v]
      exact (decide_eq_false (by lia)).symm
     | cons c u hw =>
      rw [List.zip_cons_cons] at hz
      cases hz
   rw [hv] at hR
   wp_walk
   exact ⟨_,rfl,by simpa [Builtin.Tuple.tupleCompareSizes] using hR⟩
  case h =>
   exact ⟨rfl,rfl,items.toList,items2.toList,ns,ms,rfl,hi,hj,by lia,h⟩
end
section
variable {prog:Program} {w:World} {A:Around} {E:Value→Shared→Prop} {s:Shared}
theorem lt_tupInts {l b:Addr} {items items2:Array Value} {ns ms:List Int} {Q:Value→Shared→Prop} (hl:IsTup s.heap l items) (hb:IsTup s.heap b items2) (hi:IntsAre items.toList ns) (hj:IntsAre items2.toList ms)
  (hu:A.units < cLine) (h:Q (.bool (lexLt ns ms)) s):wpAny (model prog w) A (compareOp .Lt (.ref l) (.ref b)) Q E s:=by
 obtain ⟨⟨cls,dd,data,sl⟩,ho,hc,n,hd⟩:=id hl
 obtain ⟨⟨cls2,dd2,data2,sl2⟩,ho2,hc2,n2,hd2⟩:=id hb
 simp only at hc hd hc2 hd2
 subst hc hd hc2 hd2
 exact richCompare_meets_room (op:=.Lt) ⟨_,ho,rfl⟩ ⟨_,ho2,rfl⟩ PySem.F.slot_tuple_lt PySem.F.entry_tuple_lt (PySem.F.args_tuple_lt_2 _ _) (a8x l b items items2 n n2 dd dd2 sl sl2 ns ms hi hj)
  ⟨ho,ho2,show Value.bool (lexLt ns ms)≠Value.notImplemented∧Q (.bool (lexLt ns ms)) s from ⟨(fun x=>nomatch x),h⟩⟩ hu
theorem cat_tup {t b:Addr} {vs ws:List Value} {Q:Value→Shared→Prop} (ht:IsTup s.heap t vs.toArray) (hb:IsTup s.heap b ws.toArray) (hv:vs≠[])
  (h1:ws=[]→Q (.ref t) s) (h2:ws≠[]→Q (.ref s.heap.objs.size) { s with heap:=s.heap.push { cls:=.type "tuple",data:=.seq (vs++ws).toArray } })
  (hsz:vs.length + ws.length≤sizeLine):wpAny (model prog w) A (binaryOp .Add (.ref t) (.ref b)) Q E s:=by
 obtain ⟨⟨cls,dd,data,sl⟩,ho,hc,n,hd⟩:=id ht
 obtain ⟨⟨cls2,dd2,data2,sl2⟩,ho2,hc2,n2,hd2⟩:=id hb
 simp only at hc hd hc2 hd2
 subst hc hd hc2 hd2
 have e:vs.toArray++ws.toArray=(vs++ws).toArray:=by simp
 by_cases hw:ws=[]
 ·exact concat_meets ⟨_,ho,rfl⟩ ⟨_,ho2,rfl⟩ noFill_tuple_add seq_tuple_add PySem.F.slot_tuple_add PySem.F.entry_tuple_add (PySem.F.args_tuple_add_2 _ _)
   (tuple_addW1 t b vs.toArray ws.toArray n n2 dd dd2 sl sl2 (by simpa using hv) (by simp [hw])) ⟨ho,ho2,h1 hw⟩
 ·refine concat_meets ⟨_,ho,rfl⟩ ⟨_,ho2,rfl⟩ noFill_tuple_add seq_tuple_add PySem.F.slot_tuple_add PySem.F.entry_tuple_add (PySem.F.args_tuple_add_2 _ _)
   (tuple_addW2 t b vs.toArray ws.toArray n n2 dd dd2 sl sl2 (by simpa using hv) (by simpa using hw) (by rw [List.size_toArray,List.size_toArray]; exact hsz)) ⟨ho,ho2,?_⟩
  rw [e]
  exact h2 hw
def sIx (n d:Nat):Option Int→Nat
 | none=>d
 | some v=>if v < 0 then (v + (n:Int)).toNat else min v.toNat n
theorem c9u (n d:Nat) (hd:d≤n) (o:Option Int):sIx n d o≤n:=by
 cases o with
 | none=>exact hd
 | some v =>
  show (if v < 0 then (v + (n:Int)).toNat else min v.toNat n)≤n
  by_cases hv:v < 0
  ·rw [if_pos hv]; lia
  ·rw [if_neg hv]; exact Nat.min_le_right _ _
theorem c0t (v:Int) (n d:Nat):(if v < 0 then max (v + (n:Int)) 0 else min v (n:Int))=((sIx n d (some v):Nat):Int):=by
 show (if v < 0 then max (v + (n:Int)) 0 else min v (n:Int))=(((if v < 0 then (v + (n:Int)).toNat else min v.toNat n):Nat):Int)
 by_cases hv:v < 0
 ·simp only [if_pos hv]; lia
 ·simp only [if_neg hv]; lia
theorem b6j (lo hi:Option Int) (n:Nat):Builtin.Slice.sliceAdjust lo hi 1 (n:Int)=(((sIx n 0 lo:Nat):Int),((sIx n n hi:Nat):Int)):=by
 have h1:¬ ((1:Int) < 0):=by lia
 unfold Builtin.Slice.sliceAdjust
 simp only [h1,if_false]
 refine Prod.ext ?_ ?_
 ·cases lo with
  | none=>rfl
  | some v=>exact c0t v n 0
 ·cases hi with
  | none=>rfl
  | some v=>exact c0t v n n
theorem b5k (i j:Nat):Builtin.Slice.slicePlaces (i:Int) (j:Int) 1=j - i:=by
 unfold Builtin.Slice.slicePlaces
 have h1:(1:Int) > 0:=by lia
 simp only [h1,if_true,Int.ediv_one]
 split <;> lia
theorem a8a {v:Value} {o:Option Int} {Q:Option Int→Shared→Prop} (p:IsPart v o) (h:Q o s):wpAny (model prog w) A (Builtin.Slice.slicePartIndex v) Q E s:=by
 cases p with
 | none=>exact slicePart_none h
 | int i t=>exact slicePart_int h
theorem sliceApplied_gen {sl:Addr} {vl vu:Value} {lo hi:Option Int} {n:Nat} {Q:Int×Int×Nat→Shared→Prop} (hs:s.heap.IsSliceOf sl vl vu .none) (pl:IsPart vl lo) (pu:IsPart vu hi)
  (h:Q (((sIx n 0 lo:Nat):Int),1,sIx n n hi - sIx n 0 lo) s):wpAny (model prog w) A (Builtin.Slice.sliceApplied (.ref sl) (pure (n:Int))) Q E s:=by
 obtain ⟨os,hos,hcs,hds⟩:=id hs
 unfold Builtin.Slice.sliceApplied Builtin.Slice.sliceFields
 refine Γa (Γa (wpAny_field hos hds (x:=vl) rfl (Γa (wpAny_field hos hds (x:=vu) rfl (Γa (wpAny_field hos hds (x:=.none) rfl (Γb ?_)))))))
 refine Γa (slicePart_none ?_)
 show wpAny _ _ (if ((1:Int) == 0)=true then _ else _) _ _ s
 rw [if_neg (by decide)]
 refine Γa (a8a pl (Γa (a8a pu (Γa (Γb ?_)))))
 show wpAny _ _ (match Builtin.Slice.sliceAdjust lo hi 1 (n:Int) with | (lo,hi)=>pure (lo,(1:Int),Builtin.Slice.slicePlaces lo hi 1)) _ _ s
 rw [b6j lo hi n]
 show wpAny _ _ (pure (((sIx n 0 lo:Nat):Int),(1:Int),Builtin.Slice.slicePlaces ((sIx n 0 lo:Nat):Int) ((sIx n n hi:Nat):Int) 1)) _ _ s
 rw [b5k]
 exact Γb h
theorem c2l (xs:Array Value) (i k:Nat):((List.range k).filterMap fun (m:Nat)=>xs[((i:Int) + (m:Int) * 1).toNat]?).toArray=((xs.toList.drop i).take k).toArray:=by
 have e:(fun (m:Nat)=>xs[((i:Int) + (m:Int) * 1).toNat]?)=fun m=>xs[i + m]?:=by
  funext m
  have:((i:Int) + (m:Int) * 1).toNat=i + m:=by lia
  rw [this]
 rw [e]
 have:=pick_run xs i k
 rw [List.filterMap_map] at this
 have e2:((fun x=>xs[x]?) ∘ fun x=>i + x)=fun m=>xs[i + m]?:=rfl
 rw [e2] at this
 rw [this]
theorem getItem_tuple_cut {t sl:Addr} {items:Array Value} {vl vu:Value} {lo hi:Option Int} {Q:Value→Shared→Prop} (ht:IsTup s.heap t items) (hs:s.heap.IsSliceOf sl vl vu .none) (pl:IsPart vl lo) (pu:IsPart vu hi)
  (hw:¬ (sIx items.size 0 lo=0∧sIx items.size items.size hi=items.size))
  (h:Q (.ref s.heap.objs.size) { s with heap:=s.heap.push { cls:=.type "tuple",data:=.seq ((items.toList.drop (sIx items.size 0 lo)).take (sIx items.size items.size hi - sIx items.size 0 lo)).toArray } })
  (hsz:items.size≤sizeLine):wpAny (model prog w) A (getItem (.ref t) (.ref sl)) Q E s:=by
 have htake:sizeOk (.seq ((items.toList.drop (sIx items.size 0 lo)).take (sIx items.size items.size hi - sIx items.size 0 lo)).toArray):=by
  show ((items.toList.drop (sIx items.size 0 lo)).take (sIx items.size items.size hi - sIx items.size 0 lo)).toArray.size≤sizeLine
  rw [List.size_toArray,List.length_take,List.length_drop,Array.length_toList]
  lia
 have hj:sIx items.size items.size hi≤items.size:=c9u _ _ (Γi _) hi
 obtain ⟨os,hos,hcs,hds⟩:=id hs
 have hTs:s.TypeIs (.ref sl) "slice":=⟨os,hos,hcs⟩
 unfold getItem
 try with_reducible refine Γg ?_
 first | refine Γa (Γb ?_) | skip
 refine Γa (wpAny_sequenceKey ht.typeIs (by decide) ?_)
 refine Γa (wpAny_callSpecial?_slot (name:=Γe "__getitem__") ht.typeIs PyProof.Rows.slot_tuple_getitem
  (wpAny_call_entry PyProof.Rows.slot_tuple_getitem ht.typeIs entry_tuple_getitem ?_ (args_tuple_getitem _ _)))
 show wpAny _ _ (Builtin.Tuple.tupleItemsOf (.ref t) >>= _) _ _ s
 refine Γa (tupleItemsOf_ ht ?_)
 refine Γa (wpAny_typeOf hTs ?_)
 rw [if_pos (by decide)]
 refine Γa (sliceApplied_gen hs pl pu ?_)
 have hno:¬ ((((sIx items.size 0 lo:Nat):Int) == 0 && (1:Int) == 1 && (sIx items.size items.size hi - sIx items.size 0 lo) == items.size)=true):=by
  intro q
  rw [Bool.and_eq_true,Bool.and_eq_true] at q
  have q1:((sIx items.size 0 lo:Nat):Int)=0:=eq_of_beq q.1.1
  have q2:sIx items.size items.size hi - sIx items.size 0 lo=items.size:=eq_of_beq q.2
  exact hw ⟨by lia,by lia⟩
 show wpAny _ _ (if (((sIx items.size 0 lo:Nat):Int) == 0 && (1:Int) == 1 && (sIx items.size items.size hi - sIx items.size 0 lo) == items.size)=true then _ else _) _ _ s
 rw [if_neg hno,c2l]
 first
  | exact Γa (m:=Builtin.Tuple.tupleExact _) (wpAny_newObj_type (Γb ⟨_,rfl,Γb h⟩) htake)
  | exact Γa (m:=Builtin.Tuple.tupleExact _) (wpAny_newObj_type (Γa (Γb (Γb ⟨_,rfl,Γb h⟩))) htake)
  | exact Γa (Γa (m:=Builtin.Tuple.tupleExact _) (wpAny_newObj_type (Γb (Γb ⟨_,rfl,Γb h⟩)) htake))
  | exact Γa (Γa (m:=Builtin.Tuple.tupleExact _) (wpAny_newObj_type (Γb ⟨_,rfl,Γb h⟩) htake))
end
end HT
namespace L2
open PySem PySem.Spec PyProof.Rows
abbrev TO:=St→Hp→(Option Int→Hp→Prop)→Prop
def PO (X:Cx) (e:Option Expr) (t:TO):Prop :=
 ∀ (pins:List (Addr×Obj)) (s:Shared) (σ:St) (H:Hp) (Q:Option Int→Hp→Prop),Inv X pins σ H s→t σ H Q →
  wpAny (model X.prog X.w) X.A (evalPart e X.env) (fun u s'=>∃ o H',Inv X pins σ H' s'∧IsPart u o∧Q o H') X.xe s
def c5v:TO:=fun _ H Q=>Q none H
def d4z (t:TE):TO:=fun σ H Q=>t σ H fun x H1=>∃ i,x=.int i∧Q (some i) H1
theorem a8m {ns:List Int}:∀ {us:List Value},Vals (ns.map V.int) us→IntsAre us ns:=by
 induction ns with
 | nil=>intro us r; rw [List.map_nil] at r; cases r; exact .nil
 | cons n ns ih =>
  intro us r
  rw [List.map_cons] at r
  cases r with
  | cons r1 r2 =>
   obtain ⟨t,e⟩:=r1
   subst e
   exact .cons n t (ih r2)
section
variable {X:Cx} {e:Expr} {te:TE} {lo hi:Option Expr} {tl th:TO} {pos p2:Pos}
theorem c6t:PO X none c5v:=by
 intro pins s σ H Q I h
 rw [evalPart_none]
 exact Γb ⟨none,H,I,.none,h⟩
theorem c6s (h:PE X e te):PO X (some e) (d4z te):=by
 intro pins s σ H Q I hw
 rw [evalPart_some]
 refine thn (h pins s σ H _ I hw) fun u s1 ⟨x,H1,I1,r1,q1⟩=>?_
 obtain ⟨i,rfl,q⟩:=q1
 obtain ⟨t,rfl⟩:=r1
 exact ⟨some i,H1,I1,.int i t,q⟩
def SlR (X:Cx) (r:V→Option Int→Option Int→Hp→VK→Prop):Prop :=
 ∀ (pins:List (Addr×Obj)) (s:Shared) (σ:St) (H:Hp) (x:V) (v vl vu:Value) (lo hi:Option Int) (sl:Addr) (Q:VK),Inv X pins σ H s→RelV x v→s.heap.IsSliceOf sl vl vu .none→IsPart vl lo→IsPart vu hi→r x lo hi H Q →
  ∃ T id,typeLookup (.type T) "__getitem__" = pure (some (.builtin id))∧s.TypeIs v T∧wpAny (model X.prog X.w) X.A (getItem v (.ref sl)) (EP X pins σ Q) X.xe s
def tSl (r:V→Option Int→Option Int→Hp→VK→Prop) (te:TE) (tl th:TO):TE:=fun σ H Q=>te σ H fun x H1=>tl σ H1 fun l H2=>th σ H2 fun u H3=>r x l u H3 Q
theorem b3y {r:V→Option Int→Option Int→Hp→VK→Prop} (hr:SlR X r) (he:PE X e te) (hl:PO X lo tl) (hu:PO X hi th):PE X (.Subscript e (.Slice lo hi none p2) pos) (tSl r te tl th):=by
 intro pins s σ H Q I h
 refine Subscript_ (thn (he pins s σ H _ I h) fun v s1 ⟨x,H1,I1,r1,q1⟩=>?_)
 refine wpAny_Slice (thn (hl pins s1 σ H1 _ I1 q1) fun vl s2 ⟨l,H2,I2,pl,q2⟩=>thn (hu pins s2 σ H2 _ I2 q2) fun vu s3 ⟨u,H3,I3,pu,q3⟩=>?_)
 rw [evalPart_none]
 refine Γb ?_
 have I4:Inv X pins σ H3 { s3 with heap:=s3.heap.push { cls:=.type "slice",data:=.fields #[vl,vu,.none] } }:=I3.kept (t':=s3.toks) fun b ob q=>Γc _ q
 obtain ⟨T,id,hT,ht,hg⟩:=hr pins { s3 with heap:=s3.heap.push { cls:=.type "slice",data:=.fields #[vl,vu,.none] } } σ H3 x v vl vu l u s3.heap.objs.size Q I4 r1 (Heap.IsSliceOf.new ..) pl pu q3
 show wpAny (model X.prog X.w) X.A (subscriptTail e (.Slice lo hi none p2) v (.ref s3.heap.objs.size)) (EP X pins σ Q) X.xe { s3 with heap:=s3.heap.push { cls:=.type "slice",data:=.fields #[vl,vu,.none] } }
 exact tail_any (ops:=[.ref s3.heap.objs.size,v]) ht hT hg (by with_unfolding_all rfl)
def c5i (xs:List V) (lo hi:Option Int):List V:=(xs.drop (HT.sIx xs.length 0 lo)).take (HT.sIx xs.length xs.length hi - HT.sIx xs.length 0 lo)
theorem a7n (xs:List V) (lo hi:Option Int):(c5i xs lo hi).length≤xs.length:=by
 unfold c5i
 rw [List.length_take,List.length_drop]
 lia
def rSlT (K:Γd):V→Option Int→Option Int→Hp→VK→Prop:=fun x lo hi H Q=>∃ a xs,x=.ref a∧SqT K H a xs ∧
 ¬ (HT.sIx xs.length 0 lo=0∧HT.sIx xs.length xs.length hi=xs.length)∧∀ p,H p=none→Q (.ref p) (upd H p (.tup (c5i xs lo hi)))
theorem c9t:SlR X (rSlT X.K):=by
 intro pins s σ H x v vl vu lo hi sl Q I rx hs pl pu h
 obtain ⟨a,xs,rfl,hx,hw,q⟩:=h
 cases rx
 obtain ⟨its,r,ht,hz⟩:=I.tuple hx
 have hlen:its.toArray.size=xs.length:=by rw [List.size_toArray]; exact r.length.symm
 refine ⟨"tuple",_,PyProof.Rows.slot_tuple_getitem.lookup,ht.typeIs,?_⟩
 refine HT.getItem_tuple_cut ht hs pl pu (by rw [hlen]; exact hw) ?_ (by rw [hlen]; exact hz)
 rw [hlen]
 refine ⟨.ref s.heap.objs.size,_,I.laid (t':=s.toks) (o:=.tup (c5i xs lo hi)) (fun b ob q=>Γc _ q) (Γi _) ?_,rfl,q _ (I.hok.fresh (Γi _))⟩
 exact ⟨Nat.le_trans (a7n xs lo hi) hz,_,(r.drop (HT.sIx xs.length 0 lo)).take (HT.sIx xs.length xs.length hi - HT.sIx xs.length 0 lo),IsTup.new _ _⟩
def rLtT (K:Γd):R2:=fun x y H Q=>∃ a b ns ms,x=.ref a∧y=.ref b∧SqT K H a (ns.map V.int)∧SqT K H b (ms.map V.int)∧Q (.bl (HT.lexLt ns ms)) H
theorem d1i (hu:X.A.units < cLine):OpR X (compareOp .Lt) (rLtT X.K):=by
 intro pins s σ H x y v u Q I rx ry h
 obtain ⟨a,b,ns,ms,rfl,rfl,ha,hb,q⟩:=h
 cases rx
 cases ry
 obtain ⟨its,r1,p1,_⟩:=I.tuple ha
 obtain ⟨its2,r2,p2,_⟩:=I.tuple hb
 have i1:IntsAre its.toArray.toList ns:=a8m r1
 have i2:IntsAre its2.toArray.toList ms:=a8m r2
 exact HT.lt_tupInts p1 p2 i1 i2 hu ⟨.bl (HT.lexLt ns ms),H,I,rfl,q⟩
def d5x (K:Γd):R2:=fun x y H Q=>∃ a b xs ys,x=.ref a∧y=.ref b∧SqT K H a xs∧SqT K H b ys∧xs≠[]∧xs.length + ys.length≤sizeLine ∧
 (ys=[]→Q (.ref a) H)∧(ys≠[]→∀ p,H p=none→Q (.ref p) (upd H p (.tup (xs++ys))))
theorem Vals.nil_iff {xs:List V} {us:List Value} (r:Vals xs us):us=[]↔xs=[]:=by
 cases r with
 | nil=>simp
 | cons _ _=>simp
theorem c7h:OpR X (binaryOp .Add) (d5x X.K):=by
 intro pins s σ H x y v u Q I rx ry h
 obtain ⟨a,b,xs,ys,rfl,rfl,ha,hb,hx,hz,q1,q2⟩:=h
 cases rx
 cases ry
 obtain ⟨its,r1,p1,_⟩:=I.tuple ha
 obtain ⟨its2,r2,p2,_⟩:=I.tuple hb
 refine HT.cat_tup p1 p2 (fun z=>hx (r1.nil_iff.mp z)) (fun z=>⟨.ref a,H,I,rfl,q1 (r2.nil_iff.mp z)⟩) (fun z=>?_) (by rw [← r1.length,← r2.length]; exact hz)
 refine ⟨.ref s.heap.objs.size,_,I.laid (t':=s.toks) (o:=.tup (xs++ys)) (fun b ob q=>Γc _ q) (Γi _) ?_,rfl,q2 (fun w=>z (r2.nil_iff.mpr w)) _ (I.hok.fresh (Γi _))⟩
 exact ⟨by rw [List.length_append]; exact hz,_,r1.append r2,IsTup.new _ _⟩
end
end L2
namespace L2
open PySem PySem.Spec PyProof.Rows
def ixN (n:Nat) (i:Int):Option Nat:=if 0≤i then (if i < n then some i.toNat else none) else if -(n:Int)≤i then some (i + n).toNat else none
def atI {α:Type} (xs:List α) (i:Int):Option α:=(ixN xs.length i).bind fun j=>xs[j]?
theorem b9b {n:Nat} {i:Int} {j:Nat} (h:ixN n i=some j):seqIndex? i n=some j∧j < n∧-(n:Int)≤i∧i < n:=by
 unfold ixN at h
 by_cases h0:0≤i
 ·rw [if_pos h0] at h
  by_cases h1:i < n
  ·rw [if_pos h1] at h
   have e:i.toNat=j:=Option.some.inj h
   exact ⟨by rw [seqIndex_of h0 h1,e],by lia,by lia,h1⟩
  ·rw [if_neg h1] at h; cases h
 ·rw [if_neg h0] at h
  by_cases h1:-(n:Int)≤i
  ·rw [if_pos h1] at h
   have e:(i + n).toNat=j:=Option.some.inj h
   exact ⟨by rw [seqIndex_neg (by lia) h1,e],by lia,h1,by lia⟩
  ·rw [if_neg h1] at h; cases h
theorem c0x {α:Type} {xs:List α} {i:Int} {v:α} (h:atI xs i=some v):∃ j,seqIndex? i xs.length=some j∧xs[j]?=some v∧j < xs.length∧-(xs.length:Int)≤i∧i < xs.length:=by
 unfold atI at h
 cases e:ixN xs.length i with
 | none=>rw [e] at h; cases h
 | some j =>
  rw [e] at h
  obtain ⟨h1,h2,h3,h4⟩:=b9b e
  exact ⟨j,h1,h,h2,h3,h4⟩
def c1a (b:Expr):Prop:=∀ o i,subscripted b false o i=operate [o,i] (getItem o i)
def IxR (X:Cx) (r:R2):Prop :=
 ∀ (value slice:Expr) (pins:List (Addr×Obj)) (s:Shared) (σ:St) (H:Hp) (x y:V) (v u:Value) (Q:VK),Inv X pins σ H s→RelV x v→RelV y u→r x y H Q →
  subscripted slice false v u=operate [v,u] (getItem v u)→wpAny (model X.prog X.w) X.A (subscriptTail value slice v u) (EP X pins σ Q) X.xe s
def MtR (X:Cx) (id:String) (r:V→List V→Hp→VK→Prop):Prop :=
 ∀ (pins:List (Addr×Obj)) (s:Shared) (σ:St) (H:Hp) (x:V) (xs:List V) (v:Value) (us:List Value) (Q:VK),Inv X pins σ H s→RelV x v→Vals xs us→r x xs H Q →
  wpAny (model X.prog X.w) X.A (call (.builtin id) (v :: us)) (EP X pins σ Q) X.xe s
section
variable {X:Cx} {a b:Expr} {ta tb:TE} {pos:Pos}
theorem d0z {r:R2} (hr:IxR X r) (ha:PE X a ta) (hb:PE X b tb) (hs:c1a b):PE X (.Subscript a b pos) (tOp r ta tb):=by
 intro pins s σ H Q I h
 exact Subscript_ (e0i ha hb I h fun v u s2 x y H2 I2 rx ry q=>hr a b pins s2 σ H2 x y v u Q I2 rx ry q (hs _ _))
def rIxL (K:Γd):R2:=fun x y H Q=>∃ p xs i v,x=.ref p∧y=.int i∧SqL K H p xs∧atI xs i=some v∧Q v H
def rIxT (K:Γd):R2:=fun x y H Q=>∃ p xs i v,x=.ref p∧y=.int i∧SqT K H p xs∧atI xs i=some v∧Q v H
theorem c7w:IxR X (rIxL X.K):=by
 intro value slice pins s σ H x y v u Q I rx ry h hs
 obtain ⟨p,xs,i,z,rfl,rfl,hq,he,q⟩:=h
 cases rx
 obtain ⟨t,rfl⟩:=ry
 obtain ⟨its,r,pl,hz⟩:=I.list hq
 obtain ⟨j,h1,h2,h3,h4,h5⟩:=c0x he
 obtain ⟨w,ew,rw'⟩:=r.get h2
 have hl:=r.length
 have hn:=b1e
 have fin:EP X pins σ Q w s:=⟨z,H,I,rw',q⟩
 by_cases h0:0≤i
 ·have hj:i.toNat=j:=by
   rw [seqIndex_of h0 h5] at h1
   exact Option.some.inj h1
  exact item_listR pl.isList h0 (by lia) (by rw [hj]; simpa using ew) fin hs
 ·have hj:(i + (its.toArray.size:Int)).toNat=j:=by
   rw [seqIndex_neg (by lia) h4] at h1
   rw [List.size_toArray,← hl]
   exact Option.some.inj h1
  exact subscriptTail_builtinR (x:=w) pl.isList.typeIs slot_list_getitem.lookup
   (wpAny_getItem_list_neg (Q:=fun r s'=>r=w∧EP X pins σ Q r s') pl.isList (by lia) (by rw [List.size_toArray] <;> lia) (by lia) (by rw [hj]; simpa using ew) ⟨rfl,fin⟩) hs
theorem d1x:IxR X (rIxT X.K):=by
 intro value slice pins s σ H x y v u Q I rx ry h hs
 obtain ⟨p,xs,i,z,rfl,rfl,hq,he,q⟩:=h
 cases rx
 obtain ⟨t,rfl⟩:=ry
 obtain ⟨its,r,pl,hz⟩:=I.tuple hq
 obtain ⟨j,h1,h2,h3,h4,h5⟩:=c0x he
 obtain ⟨w,ew,rw'⟩:=r.get h2
 have hl:=r.length
 have hn:=b1e
 have fin:EP X pins σ Q w s:=⟨z,H,I,rw',q⟩
 exact subscriptTail_builtinR (x:=w) pl.typeIs slot_tuple_getitem.lookup
  (getItem_tuple (j:=j) (Q:=fun r s'=>r=w∧EP X pins σ Q r s') pl (by lia) (by lia) (by rw [List.size_toArray,← hl]; exact h1) (by simpa using ew) ⟨rfl,fin⟩) hs
theorem b5o (its:List Value) (n j:Nat) (u:Value):Obj.mapSeq (·.setIfInBounds j u) { cls:=.type "list",data:=.seq its.toArray n } = { cls:=.type "list",data:=.seq (its.set j u).toArray n }:=by
 simp [Obj.mapSeq]
theorem Inv.lst {pins:List (Addr×Obj)} {σ:St} {H:Hp} {s:Shared} {p:Addr} {xs:List V} (I:Inv X pins σ H s) (h:H p=some (.lst xs)) :
  ∃ (its:List Value) (n:Nat),Vals xs its∧s.heap.get? p=some { cls:=.type "list",data:=.seq its.toArray n }∧xs.length≤sizeLine:=by
 obtain ⟨z,its,n,r,e⟩:=I.hok p _ h
 exact ⟨its,n,r,e,z⟩
theorem Inv.lstUpd {pins:List (Addr×Obj)} {σ:St} {H:Hp} {s:Shared} {p:Addr} {xs ys:List V} {its its':List Value} {n n':Nat} {f:Obj→Obj} (I:Inv X pins σ H s) (h:H p=some (.lst xs))
  (ho:s.heap.get? p=some { cls:=.type "list",data:=.seq its.toArray n }) (hf:f { cls:=.type "list",data:=.seq its.toArray n } = { cls:=.type "list",data:=.seq its'.toArray n' }) (r:Vals ys its') (hz:ys.length≤sizeLine) (t:Nat) :
  Inv X pins σ (upd H p (.lst ys)) { s with heap:=s.heap.update p f,toks:=t }:=by
 have e:(s.heap.update p f).get? p=some { cls:=.type "list",data:=.seq its'.toArray n' }:=by
  rw [Heap.get?_update_self f ho (by rw [hf] <;> rfl),hf]
 refine I.write (x:=p) (e:=p) (by rw [h]; trivial) (.inl rfl) (fun b u hb q=>(Γf _ _ (Ne.symm hb)).trans q) ⟨_,e⟩ ?_
 exact ⟨hz,its',n',r,e⟩
def d5v:V→V→V→Hp→(Hp→Prop)→Prop:=fun o i v H Q=>∃ p xs k j,o=.ref p∧i=.int k∧H p=some (.lst xs)∧ixN xs.length k=some j∧Q (upd H p (.lst (xs.set j v)))
theorem c1w:PSet X d5v:=by
 intro pins s σ H o i v ov iv u Q I ro ri rv h
 obtain ⟨p,xs,k,j,rfl,rfl,hp,hj,q⟩:=h
 cases ro
 obtain ⟨t,rfl⟩:=ri
 obtain ⟨its,n,r,ho,hz⟩:=I.lst hp
 obtain ⟨h1,h2,h3,h4⟩:=b9b hj
 have hl:=r.length
 have hn:=b1e
 have I':Inv X pins σ (upd H p (.lst (xs.set j v))) { s with heap:=s.heap.update p (Obj.mapSeq (·.setIfInBounds j u)) } :=
  I.lstUpd hp ho (b5o its n j u) (r.set rv j) (by rw [List.length_set]; exact hz) s.toks
 by_cases h0:0≤k
 ·have hk:k.toNat=j:=by
   rw [seqIndex_of h0 h4] at h1
   exact Option.some.inj h1
  exact PySem.W.ki_setAt ho h0 (by lia) (by rw [List.size_toArray,← hl]; exact h4) (by rw [hk]; exact ⟨_,I',q⟩)
 ·have hk:(k + (its.toArray.size:Int)).toNat=j:=by
   rw [seqIndex_neg (by lia) h3] at h1
   rw [List.size_toArray,← hl]
   exact Option.some.inj h1
  exact PySem.W.ki_setBack ho (by lia) (by rw [List.size_toArray,← hl]; exact h3) (by lia) (by rw [hk]; exact ⟨_,I',q⟩)
theorem b0s (lo hi:Option Int) (n:Nat):(sliceBounds lo hi none n).1=((HT.sIx n 0 lo:Nat):Int)∧(sliceBounds lo hi none n).2.1=((HT.sIx n n hi:Nat):Int)∧(sliceBounds lo hi none n).2.2=1:=by
 refine ⟨?_,?_,rfl⟩
 ·cases lo with
  | none=>simp [sliceBounds,HT.sIx]
  | some i =>
   simp only [sliceBounds,HT.sIx,Option.getD_none,show (1:Int) > 0 by decide,if_true]
   by_cases h:i < 0
   ·simp only [h,if_true] <;> lia
   ·simp only [h,if_false] <;> lia
 ·cases hi with
  | none=>simp [sliceBounds,HT.sIx]
  | some i =>
   simp only [sliceBounds,HT.sIx,Option.getD_none,show (1:Int) > 0 by decide,if_true]
   by_cases h:i < 0
   ·simp only [h,if_true] <;> lia
   ·simp only [h,if_false] <;> lia
theorem a9d (its:List Value) (lo hi:Option Int):slicePick its.toArray lo hi none=((its.drop (HT.sIx its.length 0 lo)).take (HT.sIx its.length its.length hi - HT.sIx its.length 0 lo)).toArray:=by
 obtain ⟨h1,h2,h3⟩:=b0s lo hi its.toArray.size
 unfold slicePick
 rw [h1,h2,h3]
 simp only [sliceRange_one,pick_run,List.size_toArray] <;> rfl
def rSlL (K:Γd):V→Option Int→Option Int→Hp→VK→Prop:=fun x lo hi H Q=>∃ a xs,x=.ref a∧SqL K H a xs∧∀ p,H p=none→Q (.ref p) (upd H p (.lst (c5i xs lo hi)))
theorem c6c:SlR X (rSlL X.K):=by
 intro pins s σ H x v vl vu lo hi sl Q I rx hs pl pu h
 obtain ⟨a,xs,rfl,hx,q⟩:=h
 cases rx
 obtain ⟨its,r,ht,hz⟩:=I.list hx
 have hlen:=r.length
 refine ⟨"list",_,slot_list_getitem.lookup,ht.isList.typeIs,?_⟩
 refine wpAny_getItem_list_slice ht.isList hs pl pu .none (by simp) ?_ (by rw [List.size_toArray] <;> lia)
 rw [a9d,← hlen]
 refine ⟨.ref s.heap.objs.size,_,I.laid (t':=s.toks) (o:=.lst (c5i xs lo hi)) (fun b ob q=>Γc _ q) (Γi _) ?_,rfl,q _ (I.hok.fresh (Γi _))⟩
 exact ⟨Nat.le_trans (a7n xs lo hi) hz,_,0,(r.drop (HT.sIx xs.length 0 lo)).take (HT.sIx xs.length xs.length hi - HT.sIx xs.length 0 lo),Γm _ rfl⟩
theorem b1y:a1n X (.builtin "len") (fun xs H Q=>∃ p ys,xs=[.ref p]∧(SqL X.K H p ys ∨ SqT X.K H p ys)∧Q (.int ys.length) H):=by
 intro pins s σ H xs us Q I r h
 obtain ⟨p,ys,rfl,hq,q⟩:=h
 obtain ⟨u,rfl,rx⟩:=a3t r
 cases rx
 have hn:=b1e
 rcases hq with hq | hq
 ·obtain ⟨its,r',pl,hz⟩:=I.list hq
  have hlen:=r'.length
  exact Calls.call_len_list pl.isList (by simp only [List.size_toArray] <;> lia) ⟨.int ys.length,H,I.tok _,⟨s.toks + 1,by rw [List.size_toArray,hlen]⟩,q⟩
 ·obtain ⟨its,r',pl,hz⟩:=I.tuple hq
  have hlen:=r'.length
  exact len_tuple pl (by simp only [List.size_toArray] <;> lia) ⟨.int ys.length,H,I.tok _,⟨s.toks + 1,by rw [List.size_toArray,hlen]⟩,q⟩
theorem b1x:a1n X (.type "list") (fun xs H Q=>∃ p ys,xs=[.ref p]∧(SqL X.K H p ys ∨ SqT X.K H p ys)∧∀ l,H l=none→Q (.ref l) (upd H l (.lst ys))):=by
 intro pins s σ H xs us Q I r h
 obtain ⟨p,ys,rfl,hq,q⟩:=h
 obtain ⟨u,rfl,rx⟩:=a3t r
 cases rx
 have fin:∀ (its:List Value),Vals ys its→ys.length≤sizeLine→∀ (h':Heap) (c':Nat),(∀ b o',s.heap.get? b=some o'→h'.get? b=some o') →
   h'.get? s.heap.objs.size=some { cls:=.type "list",dict:=none,data:=.seq its.toArray c',slots:=#[] }→EP X pins σ Q (.ref s.heap.objs.size) { s with heap:=h' }:=fun its r' hz h' c' kp e =>
  ⟨.ref s.heap.objs.size,_,I.laid (t':=s.toks) kp (Γi _) (show ObjOk X.prog X.w _ h' _ (.lst ys) from ⟨hz,its,c',r',e⟩),rfl,q _ (I.hok.fresh (Γi _))⟩
 rcases hq with hq | hq
 ·obtain ⟨its,r',pl,hz⟩:=I.list hq
  have hlen:=r'.length
  obtain ⟨o,ho,hc,n,hd⟩:=pl.isList
  exact call_list_seq p (.inl rfl) ho hc hd (fun h' c' kp e=>fin its r' hz h' c' kp e) (by simp only [List.size_toArray] <;> lia)
 ·obtain ⟨its,r',pl,hz⟩:=I.tuple hq
  have hlen:=r'.length
  obtain ⟨o,ho,hc,n,hd⟩:=pl
  exact call_list_seq p (.inr rfl) ho hc hd (fun h' c' kp e=>fin its r' hz h' c' kp e) (by simp only [List.size_toArray] <;> lia)
theorem a3g:a1n X (.type "tuple") (fun xs H Q=>∃ p ys,xs=[.ref p]∧((SqL X.K H p ys∧∀ l,H l=none→Q (.ref l) (upd H l (.tup ys))) ∨ (SqT X.K H p ys∧Q (.ref p) H))):=by
 intro pins s σ H xs us Q I r h
 obtain ⟨p,ys,rfl,h⟩:=h
 obtain ⟨u,rfl,rx⟩:=a3t r
 cases rx
 rcases h with ⟨hq,q⟩ | ⟨hq,q⟩
 ·obtain ⟨its,r',pl,hz⟩:=I.list hq
  have hlen:=r'.length
  refine call_tuple_list pl.isList (fun h' kp=>?_) (by simp only [List.size_toArray] <;> lia)
  have I1:Inv X pins σ H { s with heap:=h' }:=I.kept (t':=s.toks) kp
  have I2:Inv X pins σ (upd H h'.objs.size (.tup ys)) { s with heap:=h'.push { cls:=.type "tuple",data:=.seq its.toArray } } :=
   I1.laid (t':=s.toks) (fun b o e=>Γc _ e) (Γi _) (show ObjOk X.prog X.w _ _ _ (.tup ys) from ⟨hz,its,r',IsTup.new _ _⟩)
  exact ⟨.ref h'.objs.size,_,I2,rfl,q _ (I1.hok.fresh (Γi _))⟩
 ·obtain ⟨its,r',pl,hz⟩:=I.tuple hq
  exact call_tuple_same pl ⟨.ref p,H,I,rfl,q⟩
def tyV (K:Γd) (T:String) (x:V) (H:Hp):Prop:=match x with
 | .str _=>T = "str"
 | .int _=>T = "int"
 | .ref p=>(T = "list"∧∃ xs,SqL K H p xs) ∨ (T = "tuple"∧∃ o,K.lookup p=some o∧o.cls=.type "tuple"∧o.dict=none) ∨
   (T = "dict"∧((∃ kvs,H p=some (.dK kvs)) ∨ ∃ kvs,H p=some (.dT kvs))) ∨ (T = "set"∧∃ S n,H p=some (.set S n))
 | _=>False
theorem c9i {pins:List (Addr×Obj)} {σ:St} {H:Hp} {s:Shared} {T:String} {x:V} {v:Value} (I:Inv X pins σ H s) (r:RelV x v) (ty:tyV X.K T x H) :
  s.TypeIs v T∧∀ a,v=.ref a→∃ ob,s.heap.get? a=some ob∧ob.dict=none:=by
 cases x with
 | str z =>
  obtain ⟨t,rfl⟩:=r
  cases (show T = "str" from ty)
  exact ⟨typeIs_str s z t,fun _ e=>nomatch e⟩
 | int i =>
  obtain ⟨t,rfl⟩:=r
  cases (show T = "int" from ty)
  exact ⟨typeIs_int s i t,fun _ e=>nomatch e⟩
 | ref p =>
  cases r
  rcases ty with ⟨rfl,xs,hq⟩ | ⟨rfl,o,hk,hc,hd⟩ | ⟨rfl,hk⟩ | ⟨rfl,S,n,hk⟩
  ·obtain ⟨its,_,pl,_⟩:=I.list hq
   refine ⟨pl.isList.typeIs,fun a e=>?_⟩
   cases e
   obtain ⟨o,n,e,c,hd,_⟩:=pl
   exact ⟨o,e,hd⟩
  ·refine ⟨⟨o,I.kIn p o hk,hc⟩,fun a e=>?_⟩
   cases e
   exact ⟨o,I.kIn _ o hk,hd⟩
  ·have z:∃ o,s.heap.get? p=some o∧o.ExactDict:=by
    rcases hk with ⟨kvs,hk⟩ | ⟨kvs,hk⟩
    ·obtain ⟨_,_,_,_,o,_,_,e,ex,_⟩:=I.hok p _ hk
     exact ⟨o,e,ex⟩
    ·obtain ⟨_,_,_,_,o,_,_,e,ex,_⟩:=I.hok p _ hk
     exact ⟨o,e,ex⟩
   obtain ⟨o,e,ex⟩:=z
   refine ⟨⟨o,e,ex.1⟩,fun a e2=>?_⟩
   cases e2
   exact ⟨o,e,ex.2.1⟩
  ·obtain ⟨o,_,_,_,e,ex,_⟩:=I.hok p _ hk
   refine ⟨⟨o,e,ex.1⟩,fun a e2=>?_⟩
   cases e2
   exact ⟨o,e,ex.2.1⟩
 | _=>exact False.elim ty
def tBM (K:Γd) (T:String) (r:V→List V→Hp→VK→Prop) (to:TE) (t:TA):TE:=fun σ H Q=>to σ H fun x H1=>tyV K T x H1∧t σ H1 fun xs H2=>r x xs H2 Q
variable {o e:Expr} {es:List Expr} {to:TE} {t:TA} {name:Str} {apos cpos:Pos} {T id:String} {r:V→List V→Hp→VK→Prop}
theorem c7a (pa:PlainAttrs T) (slot:Slot T name id) (hty:typeOf (.builtin id)=pure (.type "method_descriptor")) (hm:MtR X id r) (ho:PE X o to) (ha:PA X (e :: es) t)
  (hbase:attributeBase o name X.env (eval o X.env)=eval o X.env:=by rfl)
  (hfew:((backTo cpos (starEach (e :: es) X.env)).all (fun x=>!x.1) && (backToKw cpos (keywordEach [] X.env)).all (fun x=>x.1.isSome)
   && decide ((e :: es).length + ([]:List Keyword).length + (if ([]:List Keyword).isEmpty then 0 else 1) < 30))=true:=by rfl)
  (hline:(apos.endLine == cpos.line)=true:=by rfl) (hs:starEach (e :: es) X.env=(false,eval e X.env) :: starEach es X.env:=by rfl) (hplain:(backTo cpos (starEach es X.env)).any (·.1)=false:=by rfl) :
  PE X (.Call (.Attribute o name apos) (e :: es) [] cpos) (tBM X.K T r to t):=by
 intro pins s σ H Q I h
 refine wpAny_Call_method_late hbase hfew hline rfl (thn (ho pins s σ H _ I h) fun v s1 ⟨x,H1,I1,r1,ty,q1⟩=>?_)
 obtain ⟨h1,h2⟩:=c9i I1 r1 ty
 refine ⟨T,id,pa,slot,hty,h1,h2,?_⟩
 have hA:=ha cpos pins s1 σ H1 _ I1 q1
 rw [hs] at hA ⊢
 refine Calls.callWith_builtin (by show (false || (backTo cpos (starEach es X.env)).any (·.1))=false; rw [hplain] <;> rfl) (Calls.evalArgs_plain ?_)
 exact thn hA fun us s2 ⟨vs,H2,I2,r2,q2⟩=>hm pins s2 σ H2 x vs v us Q I2 r1 r2 q2
/- xs.append(e),list.index on a module's tuple .. are MtR facts of 06m -/
end
end L2
namespace L2
open PySem PySem.Spec PyProof.Rows
def MtM (X:Cx) (id:String) (r:V→List V→Hp→VK→Prop):Prop :=
 ∀ (pins:List (Addr×Obj)) (s:Shared) (σ:St) (H:Hp) (x:V) (xs:List V) (v:Value) (us:List Value) (Q:VK),Inv X pins σ H s→RelV x v→Vals xs us→r x xs H Q →
  wpAny (model X.prog X.w) X.A (call (.builtin id) (v :: us)) (EP X pins σ Q) X.xe s
theorem Vals.one:∀ {x:V} {us:List Value},Vals [x] us→∃ u,us=[u]∧RelV x u
 | _,_,.cons r .nil=>⟨_,rfl,r⟩
theorem Vals.two:∀ {x y:V} {us:List Value},Vals [x,y] us→∃ u v,us=[u,v]∧RelV x u∧RelV y v
 | _,_,_,.cons r (.cons q .nil)=>⟨_,_,rfl,r,q⟩
theorem Vals.dropLast {xs:List V} {us:List Value} (h:Vals xs us):Vals xs.dropLast us.dropLast:=by
 induction h with
 | nil=>exact .nil
 | cons r t ih =>
  cases t with
  | nil=>exact .nil
  | cons q t'=>exact .cons r ih
theorem Vals.eraseIdx:∀ {xs:List V} {us:List Value} (i:Nat),Vals xs us→Vals (xs.eraseIdx i) (us.eraseIdx i)
 | _,_,_,.nil=>.nil
 | _,_,0,.cons _ t=>t
 | _,_,i + 1,.cons r t=>.cons r (Vals.eraseIdx i t)
theorem Vals.reverse {xs:List V} {us:List Value} (h:Vals xs us):Vals xs.reverse us.reverse:=by
 induction h with
 | nil=>exact .nil
 | cons r t ih=>rw [List.reverse_cons,List.reverse_cons]; exact Vals.append ih (.cons r .nil)
theorem Vals.rep {xs:List V} {us:List Value} (h:Vals xs us):∀ k:Nat,Vals (Γj k xs).flatten (Γj k us).flatten
 | 0=>.nil
 | k + 1=>by
  rw [List.replicate_succ,List.replicate_succ,List.flatten_cons,List.flatten_cons]
  exact Vals.append h (Vals.rep h k)
theorem b1p (its:List Value):∀ (k:Nat) (acc:List Value),
  List.foldl (fun x1 x2=>x1++x2) acc.toArray (Γj k its.toArray)=(acc++(Γj k its).flatten).toArray
 | 0,acc=>by simp
 | k + 1,acc=>by
  have e:acc.toArray++its.toArray=(acc++its).toArray:=by simp
  have e2:(acc++its)++(Γj k its).flatten=acc++(Γj (k + 1) its).flatten:=by
   rw [List.replicate_succ,List.flatten_cons,List.append_assoc]
  rw [← e2,← b1p its k (acc++its),← e,List.replicate_succ,List.foldl_cons]
section
variable {X:Cx} {pins:List (Addr×Obj)} {σ:St} {H:Hp} {s:Shared} {l b:Addr} {xs ys zs:List V}
theorem Inv.lset {its its':List Value} {n:Nat} {f:Array Value→Array Value} {t':Nat} (I:Inv X pins σ H s) (hH:H l=some (.lst xs))
  (e:s.heap.get? l=some { cls:=.type "list",data:=.seq its.toArray n }) (hf:f its.toArray=its'.toArray) (hv:Vals ys its') (hz:ys.length≤sizeLine) :
  Inv X pins σ (upd H l (.lst ys)) { s with heap:=s.heap.update l (Obj.mapSeq f),toks:=t' }:=by
 have q:=PySem.IsL.update e f
 rw [hf] at q
 refine I.write (x:=l) (e:=l) (by rw [hH]; exact trivial) (.inl rfl) (fun b' u hb hu=>(Γf s.heap (Obj.mapSeq f) (Ne.symm hb)).trans hu) ⟨_,q⟩ ?_
 exact ⟨hz,its',_,hv,q⟩
theorem Inv.lnew {its:List Value} {t':Nat} (I:Inv X pins σ H s) (hv:Vals ys its) (hz:ys.length≤sizeLine) :
  Inv X pins σ (upd H s.heap.objs.size (.lst ys)) { s with heap:=s.heap.push { cls:=.type "list",data:=.seq its.toArray },toks:=t' } :=
 I.laid (fun _ _ q=>Γc _ q) (Γi _) ⟨hz,its,0,hv,Γm _ rfl⟩
theorem Inv.fresh (I:Inv X pins σ H s):H s.heap.objs.size=none:=I.hok.fresh (Γi _)
theorem Inv.lstM (I:Inv X pins σ H s) (hH:H l=some (.lst xs)):xs.length≤sizeLine∧∃ (its:List Value) (n:Nat),Vals xs its∧xs.length=its.length∧s.heap.get? l=some { cls:=.type "list",data:=.seq its.toArray n }:=by
 obtain ⟨z,its,n,r,e⟩:=I.hok l _ hH
 exact ⟨z,its,n,r,r.length,e⟩
theorem a9p {n:Nat} (h:n≤sizeLine):Builtin.List.listTooLong n=false:=by
 unfold Builtin.List.listTooLong
 exact decide_eq_false (by lia)
end
section
variable {X:Cx}
def c6k:V→List V→Hp→VK→Prop:=fun x vs H Q=>∃ l xs y,x=.ref l∧vs=[y]∧H l=some (.lst xs)∧xs.length < sizeLine∧Q .non (upd H l (.lst (xs++[y])))
theorem a6v:MtM X "list.append" c6k:=by
 intro pins s σ H x vs v us Q I rx rv h
 obtain ⟨l,xs,y,rfl,rfl,hH,hz,q⟩:=h
 cases rx
 obtain ⟨u,rfl,ru⟩:=rv.one
 obtain ⟨z,its,n,r,hl,e⟩:=I.lstM hH
 refine call_meets F.slot_list_append ⟨_,e,rfl⟩ F.entry_list_append (F.args_list_append_2 _ _) (PySem.list_append l its.toArray n u (by rw [List.size_toArray]; lia)) ⟨e,?_⟩
 refine ⟨.non,_,I.lset (its':=its++[u]) hH e (by simp) (r.append (.cons ru .nil)) ?_,rfl,q⟩
 rw [List.length_append,List.length_singleton]
 lia
def b7q:V→List V→Hp→VK→Prop:=fun x vs H Q=>∃ l b xs zs,x=.ref l∧vs=[.ref b]∧H l=some (.lst xs)∧H b=some (.lst zs)∧xs.length + zs.length≤sizeLine∧Q .non (upd H l (.lst (xs++zs)))
theorem b8k:MtM X "list.extend" b7q:=by
 intro pins s σ H x vs v us Q I rx rv h
 obtain ⟨l,b,xs,zs,rfl,rfl,hH,hB,hz,q⟩:=h
 cases rx
 obtain ⟨u,rfl,ru⟩:=rv.one
 cases ru
 obtain ⟨z,its,n,r,hl,e⟩:=I.lstM hH
 obtain ⟨z2,its2,n2,r2,hl2,e2⟩:=I.lstM hB
 have hsz:its.toArray.size + its2.toArray.size≤sizeLine:=by rw [List.size_toArray,List.size_toArray]; lia
 have hlong:¬ (!its.toArray.isEmpty && Builtin.List.listTooLong (its.toArray.size + its2.toArray.size))=true:=by
  rw [a9p hsz,Bool.and_false]
  exact Γk
 refine call_meets F.slot_list_extend ⟨_,e,rfl⟩ F.entry_list_extend (F.args_list_extend_2 _ _)
  (AutoSeq1.list_extend_list_list_0 l its.toArray n b its2.toArray n2 hlong (by rw [List.size_toArray]; lia) (by lia)) ⟨e,e2,?_⟩
 refine ⟨.non,_,I.lset (its':=its++its2) hH e (by simp) (r.append r2) ?_,rfl,q⟩
 rw [List.length_append]
 lia
def rCat:R2:=fun x y H Q=>∃ l b xs zs,x=.ref l∧y=.ref b∧H l=some (.lst xs)∧H b=some (.lst zs)∧xs.length + zs.length≤sizeLine∧∀ p,H p=none→Q (.ref p) (upd H p (.lst (xs++zs)))
theorem d1j:OpR X (binaryOp .Add) rCat:=by
 intro pins s σ H x y v u Q I rx ry h
 obtain ⟨l,b,xs,zs,rfl,rfl,hH,hB,hz,q⟩:=h
 cases rx
 cases ry
 obtain ⟨z,its,n,r,hl,e⟩:=I.lstM hH
 obtain ⟨z2,its2,n2,r2,hl2,e2⟩:=I.lstM hB
 refine PySem.P.add_list e e2 ?_ (by rw [List.size_toArray,List.size_toArray]; lia)
 have ea:its.toArray++its2.toArray=(its++its2).toArray:=by simp
 rw [ea]
 exact ⟨.ref _,_,I.lnew (t':=s.toks) (r.append r2) (by rw [List.length_append]; lia),rfl,q _ I.fresh⟩
def rRep:R2:=fun x y H Q=>∃ l k xs,x=.ref l∧y=.int k∧H l=some (.lst xs)∧-(2 ^ 63)≤k∧k < 2 ^ 63∧xs.length * k.toNat≤sizeLine ∧
 ∀ p,H p=none→Q (.ref p) (upd H p (.lst (Γj k.toNat xs).flatten))
theorem c7r {α:Type} (xs:List α) (k:Nat):(Γj k xs).flatten.length=k * xs.length:=by
 induction k with
 | zero=>simp
 | succ k ih=>rw [List.replicate_succ,List.flatten_cons,List.length_append,ih,Nat.succ_mul,Nat.add_comm]
theorem d1e:OpR X (binaryOp .Mult) rRep:=by
 intro pins s σ H x y v u Q I rx ry h
 obtain ⟨l,k,xs,rfl,rfl,hH,h1,h2,hz,q⟩:=h
 cases rx
 obtain ⟨t,rfl⟩:=ry
 obtain ⟨z,its,n,r,hl,e⟩:=I.lstM hH
 have hlen:its.toArray.size * k.toNat≤sizeLine:=by rw [List.size_toArray,← hl]; exact hz
 have hcap:¬ its.toArray.size * k.toNat > (2 ^ 63 - 1) / 8:=by
  have:(sizeLine:Nat)≤(2 ^ 63 - 1) / 8:=by decide
  lia
 have hfit:¬ (!Builtin.List.listFitsIndex k)=true:=by
  rw [fitsIndex_both h1 h2]
  exact Γk
 have hlong:¬ Builtin.List.listTooLong (its.toArray.size * k.toNat)=true:=by
  rw [a9p hlen]
  exact Γk
 have hnew:List.foldl (fun x1 x2=>x1++x2) #[] (Γj (if its.toArray.isEmpty=true then 0 else k.toNat) its.toArray)=(Γj k.toNat its).flatten.toArray:=by
  have f0:∀ m:Nat,List.foldl (fun x1 x2=>x1++x2) #[] (Γj m its.toArray)=(Γj m its).flatten.toArray:=fun m=>by
   have:=b1p its m []
   rw [List.nil_append] at this
   exact this
  rw [f0]
  cases its with
  | nil=>simp
  | cons a r'=>rw [if_neg (by simp)]
 refine wpAny_binaryOp_repeat_ref (T:="list") (U:="int") (by decide) ⟨_,e,rfl⟩ (fun s'=>typeIs_int s' k t) noFill_list_mul F.fills_int_mul F.slot_int_rmul repeat_list F.slot_int_index.lookup
  (call_meets F.slot_int_rmul (typeIs_int s k t) F.entry_int_rmul (F.args_int_rmul_2 _ _) (int___rmul___int_list k t l its.toArray n)
   ⟨e,rfl,⟨_,e,rfl⟩,call_meets F.slot_list_mul ⟨_,e,rfl⟩ F.entry_list_mul (F.args_list_mul_2 _ _) (AutoListH.list___mul___list_int_3 l its.toArray n k t hfit hcap hlong) ⟨e,?_⟩⟩)
 rw [hnew]
 exact ⟨.ref _,_,I.lnew (t':=s.toks) (r.rep k.toNat) (by rw [c7r,Nat.mul_comm]; exact hz),rfl,q _ I.fresh⟩
end
section
variable {prog:Program} {w:World} {A:Around} {E:Value→Shared→Prop} {s:Shared}
set_option maxRecDepth 100000 in
end
section
variable {X:Cx}
end
end L2
namespace Att
open PySem PySem.W PySem.Calls PyProof.Rows
theorem a7e {P:Params} {h:Heap}:∀ (ns:List Int) (vs:List Value),WellAll P h vs (ns.map WData.int)→IntsAre vs ns:=by
 intro ns
 induction ns with
 | nil =>
  intro vs w
  rw [List.map_nil] at w
  cases w
  exact .nil
 | cons n ns ih =>
  intro vs w
  rw [List.map_cons] at w
  cases w with
  | cons a b =>
   cases a
   exact .cons _ _ (ih _ b)
theorem b7h {l:OpenLaw} {n:Nat} (hn:l.most=some n) {P:Params} {h:Heap} {args:List WData} {vals:List Value}
  (hpre:l.row.toRowW.claim.pre args=true) (hwl:WellAll P h vals args) :
  ∃ a vs ns,vals=[Value.ref a]∧args=[WData.list (ns.map WData.int)]∧h.get? a=some { cls:=.type "list",data:=.seq vs.toArray }∧IntsAre vs ns∧ns.length≤n:=by
 have hsh:WShape.hasAll [] args [.list .int]=true:=(pre_splitW hpre).1
 have hc:l.pre.holds [] { args:=args } = true:=(pre_splitW hpre).2
 obtain ⟨d,r,rfl,h1,h2⟩:=hasAllW_cons hsh
 obtain rfl:=hasAllW_nil h2
 obtain ⟨xs,rfl,h3⟩:=hasW_list h1
 obtain ⟨ns,rfl⟩:=items_int h3
 have hlen:ns.length≤n:=by
  unfold OpenLaw.pre at hc
  have h4:(WTm.not (.lt (.lit (.int (n:Int))) (.len (.arg 0)))).holds [] { args:=[.list (ns.map .int)] } = true:=by
   have h4:=(holds_andW hc).1
   rw [hn] at h4
   exact h4
  have h5:=condW_of h4 (w_not (w_lt w_lit (w_len_list (w_arg rfl))))
  rw [List.length_map] at h5
  refine Nat.le_of_not_lt fun q=>?_
  have q':(n:Int) < ((ns.length:Nat):Int):=by lia
  first
   | (rw [decide_eq_true q'] at h5; exact absurd h5 (by decide))
   | (simp at h5; lia)
 cases hwl with
 | cons w1 w2 =>
  cases w2
  cases w1 with
  | list ho hall=>exact ⟨_,_,ns,rfl,rfl,ho,a7e ns _ hall,hlen⟩
theorem b7x (l:OpenLaw) (args:List WData):l.row.toRowW.claim.post args (.bool true) args=true :=
 postW_of (r:=l.row.toRowW) (X:=(true == true))
  (show WShape.has [] (.bool true) .bool=true by first | rfl | decide | simp [WShape.has,WShape.arms,WShape.armsAll])
  (show (WTm.eq .res (.lit (.bool true))).value [] { args:=args,res:=some (.bool true),after:=args } = some (.bool (true == true)) from w_eq_bool (w_res rfl) w_lit) rfl
theorem attach_call {l:OpenLaw} {n:Nat} {q:Program} {loose:List Str} {XP:(Str→Option Value)→Heap→Prop} {YP:World→Heap→Prop} {d:DefRec}
  (hn:l.most=some n) (hdf:d.params.defaults=[])
  (call:∀ (w:World) (s₀ s₁:Shared) (mg mb:Str→Option Value) (fa:Addr) (o:Obj) (pm cd doc:Value) (a:Addr) (vs:List Value) (ns:List Int),
   Ground q loose [] XP w s₀ mg mb s₁.heap→YP w s₁.heap →
   s₁.heap.get? fa=some o→o.data=.func (docDef d.name d.params d.body d.scope pm cd doc)→s₁.heap.CodeRec cd d.name→mg d.name=some (.ref fa) →
   s₁.heap.get? a=some { cls:=.type "list",data:=.seq vs.toArray }→IntsAre vs ns→ns.length≤n→s₁.gens = #[] →
   codeAny (model l.prog w) callerA (.call (.ref fa) ⟨[.ref a],[]⟩) (fun r s'=>r=.ok (.ret (.bool true))∧OldK s₁.heap s'.heap∧s'.os=s₁.os∧AllBare s'.gens) s₁) :
  WalkO q loose XP YP l.row.toRowW d [] (fun f vs=>PySem.call f vs):=by
 intro w s₀ s₁ mg mb G Y fa o pm cd doc dV kV ho hd hcd hD hmg hg args vals as hpre hlay hrd hwl hlo
 obtain rfl:dV=.none:=Dflts.none hD hdf
 obtain rfl:kV=.none:=Dflts.noKw hD
 obtain ⟨a,vs,ns,rfl,rfl,hobj,hints,hlen⟩:=b7h hn hpre hwl
 refine enter_call (codeAny_mono (call w s₀ s₁ mg mb fa o pm cd doc a vs ns G Y ho (fd_plain hd) hcd hmg hobj hints hlen hg) fun r s' hq=>?_)
 obtain ⟨rfl,h2,h3,h4⟩:=hq
 exact ⟨.inl ⟨.bool true,.bool true,[],rfl,fun _=>rfl,.bool true,b7x l _,fun _=>⟨List.Pairwise.nil,fun _ hm=>(nomatch hm)⟩⟩,h2,h3,h4⟩
section
variable {prog:Program} {w:World} {A:Around} {E:Value→Shared→Prop} {s:Shared} {K:Frag}
theorem e0a {R:Result→Shared→Prop} {name qual:Str} {params:Arguments} {body:List Stmt} {scope:Scope} {dV kV doc pm cdv ct oc:Value} {an od:Option Addr} {osl:Array (Option Value)} {f:Addr} {args:Args} {binds:List (Str×Value)}
  (X:K.In s.heap) (hlim:s.heap.NoLimit) (ho:K.lookup f=some ⟨oc,od,.func (fnOf name qual params body scope dV kV doc pm an cdv ct),osl⟩) (hcd:codeIn K cdv qual=true) (hroom:A.depth < recursionLimit)
  (hbind:BindsTo s (fnOf name qual params body scope dV kV doc pm an cdv ct) args binds)
  (hkind:(binds.all fun y=>scope.names.lookup y.1 == some .local || scope.names.lookup y.1 == some .cell)=true)
  (h:∀ s₁,InCallC s s.heap.objs.size (bindL (envOfC qual scope s.heap.objs.size f cdv).kindOf binds fun _=>none) (cellsFrom (s.heap.objs.size + 1) scope.names [])
    (bindC (envOfC qual scope s.heap.objs.size f cdv).kindOf binds fun _=>none) s₁ →
   wpAny (model prog w) (A.deeper (envOfC qual scope s.heap.objs.size f cdv)) (execs body (envOfC qual scope s.heap.objs.size f cdv))
    (fun fl s'=>R (.ok (.ret (match fl with | .ret v=>v | _=>.none))) s')
    (fun e s'=>wpAny (model prog w) (A.deeper (envOfC qual scope s.heap.objs.size f cdv)) (leaving (envOfC qual scope s.heap.objs.size f cdv) e) (fun _ s''=>R (.error e) s'') (fun e' s''=>R (.error e') s'') s') s₁)
  (hco:scope.isCoroutine=false) (hgen:scope.isGenerator=false) (hk:scope.kind=.function):codeAny (model prog w) A (.call (.ref f) args) R s:=by
 refine codeAny_call_function hroom (X _ _ ho) rfl hco hgen rfl (codeRec_of X hcd) (hbind _ _ _ _ ?_)
 refine wpAny_newFunctionEnv_cells hk (kindsX hkind _) fun env he s₁ x=>?_
 subst he
 exact ⟨hlim.keeps x.toInCall.keep,codeAny_func (h s₁ x)⟩
def ledger (h:Heap) (L d:Addr):List (Addr×Obj):=(List.range h.objs.size).filterMap fun a=>if a=L ∨ a=d then none else (h.get? a).map fun o=>(a,o)
end
end Att
namespace L2
open PySem PySem.Spec PyProof.Rows
theorem b0q:∀ {vs:List Value} {ns:List Int},IntsAre vs ns→Vals (ns.map V.int) vs
 | _,_,.nil=>.nil
 | _,_,.cons n t h=>.cons ⟨t,rfl⟩ (b0q h)
def d3n (H:Hp):Prop:=∀ b,H b=none ∨ ∃ o xs,H b=some (.frz o (.lst xs))
theorem b4m {P:Program} {w:World} {K:Γd} {mg mb:Str→Option Value} {CX:CXT} {k:Nat} {fa a:Addr} {fd:FuncData} {x:Str} {sp:Sp} {s₁:Shared} {vs:List Value} {ns:List Int}
  (KX:K.In s₁.heap) (hns:s₁.heap.Ns mainGlobals mg) (hb:s₁.heap.Ns builtinsNs mb) (hbb:∀ x:Str,x≠"__name__"→mb x=bootBuiltins x) (hlim:s₁.heap.NoLimit) (hg:s₁.gens = #[])
  (ha:s₁.heap.get? a=some { cls:=.type "list",data:=.seq vs.toArray }) (hi:IntsAre vs ns) (hl:ns.length≤sizeLine) (hr:Room k callerA)
  (F:∀ base:Heap,K.In base→base.Ns mainGlobals mg→FnOk P w K mg base CX k fa fd [x] sp) (hbind:∀ (s:Shared) (u:Value),BindsTo s fd ⟨[u],[]⟩ [(x,u)])
  (hsp:∀ H:Hp,d3n H→SqL K H a (ns.map V.int)→sp [.ref a] H (fun v _=>v=.bl true) fun _ _ _=>False)
  (hCX:∀ H e s',CX [] H s₁ (fun _ _ _=>False) e s'→False) :
  codeAny (model P w) callerA (.call (.ref fa) ⟨[.ref a],[]⟩) (fun r s'=>r=.ok (.ret (.bool true))∧OldK s₁.heap s'.heap∧s'.os=s₁.os∧AllBare s'.gens) s₁:=by
 have rv:=b0q hi
 have lenV:=hi.length
 -- from an abstract heap in which nothing but the script may be tracked
 have core:∀ H:Hp,d3n H→SqL K H a (ns.map V.int)→HOk P w H s₁.heap→(∀ b,H b≠none→b=a)→(H a≠none→K.lookup a=none) →
   codeAny (model P w) callerA (.call (.ref fa) ⟨[.ref a],[]⟩) (fun r s'=>r=.ok (.ret (.bool true))∧OldK s₁.heap s'.heap∧s'.os=s₁.os∧AllBare s'.gens) s₁:=by
  intro H hO hS hok hA hK
  have base_of:∀ {b:Addr} {o:Obj},s₁.heap.get? b=some o→H b=none→(c3e s₁.heap H).get? b=some o:=fun e n=>c3d e n
  have noA:∀ {b:Addr} {o:Obj} {es:Array DictEntry} {ep:Nat},s₁.heap.get? b=some o→o.data=.dict es ep→H b=none:=fun {b o es ep} e d=>by
   cases q:H b with
   | none=>rfl
   | some u =>
    have e':b=a:=hA b (by rw [q]; simp)
    subst e'
    rw [ha] at e; cases e
    have d':Data.seq vs.toArray _=Data.dict es ep:=d
    cases d'
  have nsK:∀ {b:Addr} {m:Str→Option Value},s₁.heap.Ns b m→(c3e s₁.heap H).Ns b m:=fun {b m} ⟨o,es,ep,e,d,r⟩=>⟨o,es,ep,base_of e (noA e d),d,r⟩
  have hKb:K.In (c3e s₁.heap H):=fun b o e=>base_of (KX b o e) (by
   cases q:H b with
   | none=>rfl
   | some u =>
    have e':b=a:=hA b (by rw [q]; simp)
    subst e'
    rw [hK (by rw [q]; simp)] at e; cases e)
  have hM:Mod K mg (c3e s₁.heap H):=⟨hKb,nsK hns,⟨mb,nsK hb,hbb⟩,let ⟨mc,h1,h2⟩:=hlim; ⟨mc,nsK h1,h2⟩⟩
  have e0:Env0 P w K mg (c3e s₁.heap H) callerA [] s₁ H:=⟨rfl,hM,fun b o e=>c7i e,Nat.le_of_eq (b9n _ _),trivial,fun b hb=>absurd (show b∈([]:List Addr) from hb) (by simp),hok,.of_eq hg⟩
  refine codeAny_mono ((F _ hKb (nsK hns)).run callerA [] s₁ H ⟨[.ref a],[]⟩ [.ref a] [.ref a] _ _ hr e0 (hbind s₁ (.ref a)) (.cons rfl .nil) (hsp H hO hS)) fun r s' h=>?_
  cases r with
  | error e=>exact (hCX H e s' h).elim
  | ok fl =>
   cases fl with
   | next=>exact False.elim h
   | brk=>exact False.elim h
   | cont=>exact False.elim h
   | ret u =>
    obtain ⟨v,H',os,bare,un,hok',r',q⟩:=h
    have q':v=.bl true:=q
    subst q'
    obtain rfl:u=Value.bool true:=r'
    refine ⟨rfl,OldK.of_keep fun b o e=>?_,os,bare⟩
    cases q:H b with
    | none=>exact un.keep b o e q (by intro z; exact absurd (show b∈([]:List Addr) from z) (by simp)) (by simp)
    | some u =>
     rcases hO b with z | ⟨ob,xs,z⟩
     ·rw [q] at z; cases z
     ·have z2:=un.frzs b ob _ z
      obtain ⟨e1,_⟩:=hok b _ z
      obtain ⟨e2,_⟩:=hok' b _ z2
      rw [e] at e1; cases e1
      exact e2
 cases hk:K.lookup a with
 | some o =>
  -- the script is one of the module's own objects
  have e:=KX a o hk
  rw [ha] at e
  cases e
  refine core (fun _=>none) (fun _=>.inl rfl) (.inr ⟨_,vs.toArray,_,hk,rfl,rfl,rfl,by rw [List.size_toArray,lenV]; exact hl,by simpa using rv⟩) (fun b u z=>by have z':(none:Option HO)=some u:=z; cases z') (fun b z=>absurd rfl z) fun z=>absurd rfl z
 | none =>
  refine core (fun b=>if b=a then some (.frz { cls:=.type "list",data:=.seq vs.toArray } (.lst (ns.map V.int))) else none) (fun b=>?_) (.inl (.inr ⟨{ cls:=.type "list",data:=.seq vs.toArray },if_pos rfl⟩)) (fun b u z=>?_) (fun b z=>?_) fun _=>hk
  ·by_cases hb:b=a
   ·exact .inr ⟨_,_,if_pos hb⟩
   ·exact .inl (if_neg hb)
  ·by_cases hb:b=a
   ·have z':=(if_pos hb).symm.trans z
    cases z'
    subst hb
    exact ⟨ha,by rw [List.length_map]; exact hl,vs,_,rv,ha⟩
   ·have z':=(if_neg hb).symm.trans z
    cases z'
  ·by_cases hb:b=a
   ·exact hb
   ·exact absurd (if_neg hb) z
end L2
namespace L2
open PySem PySem.Spec PyProof.Rows
abbrev KOf {K:Γd} {h:Heap} (_:K.In h):Γd:=K
theorem walk_of {l:PySem.W.OpenLaw} {n k:Nat} {q:Program} {loose:List Str} {XP:(Str→Option Value)→Heap→Prop} {YP:World→Heap→Prop} {d:DefRec} {K:Params→Γd} {CX:World→CXT} {sp:World→Sp} {x:Str}
  (hn:l.most=some n) (hn2:n≤sizeLine) (hdf:d.params.defaults=[]) (hr:Room k callerA)
  (hY:∀ (w:World) (h:Heap),YP w h→(K w.params).In h)
  (F:∀ (w:World) (mg:Str→Option Value) (fa:Addr) (h:Heap),(K w.params).In h→h.Ns mainGlobals mg→mg d.name=some (.ref fa) →
   ∃ fd:FuncData,(∀ (s:Shared) (u:Value),BindsTo s fd ⟨[u],[]⟩ [(x,u)]) ∧
    ∀ base:Heap,(K w.params).In base→base.Ns mainGlobals mg→FnOk l.prog w (K w.params) mg base (CX w) k fa fd [x] (sp w))
  (hsp:∀ (w:World) (H:Hp) (a:Addr) (ns:List Int),ns.length≤n→d3n H→SqL (K w.params) H a (ns.map V.int)→sp w [.ref a] H (fun v _=>v=.bl true) fun _ _ _=>False)
  (hCX:∀ (w:World) (H:Hp) (s:Shared) (e:Value) (s':Shared),CX w [] H s (fun _ _ _=>False) e s'→False) :
  PySem.W.WalkO q loose XP YP l.row.toRowW d [] (fun f vs=>PySem.call f vs):=by
 refine Att.attach_call hn hdf fun w s₀ s₁ mg mb fa o pm cd doc a vs ns G Y ho hd hcd hmg hobj hints hlen hg=>?_
 have KX:=hY w _ Y
 obtain ⟨fd,hb,hF⟩:=F w mg fa _ KX G.T.g hmg
 exact b4m KX G.T.g G.T.b G.T.builtins G.T.nolimit hg hobj hints (Nat.le_trans hlen hn2) hr hF hb (fun H hO hS=>hsp w H a ns hlen hO hS) fun H e s'=>hCX w H s₁ e s'
end L2
/- THE LAST THEOREM (shape; LID, My.* are yours):
   My.Adr: a structure of the addresses that your layer names (classes, functions); My.Txt K t: a structure (Prop) of the equations over K;
   My.txt_mk : {K} {implicit addresses ..} (e1 : nsIn K mainGlobals "law" = some (some (.ref f))) (e2 : K.lookup f = some ⟨oc, od, .func (fnOf "law" "law" params body scope dV kV doc pm an cdv ct), sl⟩) (e3 : codeIn K cdv "law" = true) .. : ∃ t, My.Txt K t
set_option maxRecDepth 100000 in
set_option maxHeartbeats 0 in
theorem PySem.Challenge.cw_LID_holds:PySem.Challenge.rw_LID.Holds:=by
 w_on; o_law; k_head; (case hw=>w_witness2)
 k_fill
 refine L2.walk_of (l:=PySem.Challenge.rw_LID) (n:=63) (k:=40) (x:="script") (CX:=fun w=>..) (sp:=fun _=>My.sp_law) rfl (by decide) rfl ⟨rfl,by decide,by decide⟩ (fun w h Y=>PySem.W.kIn_of Y) ?F ?S ?C
 case F =>
  intro w mg fa h KX G hmg
  have T:∃ t,My.Txt (L2.KOf KX) t:=by
   dsimp only [L2.KOf]                          -- K must stand as «<heap const> w.params» for k_is
   refine' My.txt_mk ?e1 ?e2 ?e3 ..
   (case e1=>PySem.W.k_is)                    -- in the order: a name -> its address -> its object -> its parts
   (case e2=>PySem.W.k_is)
   ..
  obtain ⟨t,T⟩:=T
  have e0:=hmg.symm.trans (PySem.W.mg_of KX G T.law)
  cases e0                                       -- fa is the law's own address
  exact ⟨_,fun s u=>.of_eq rfl,fun base kb nb=>My.law_fn T kb nb⟩     -- if «.of_eq rfl» comes too early: refine' ⟨_,?b,fun base kb nb=>My.law_fn T kb nb⟩; exact fun s u=>.of_eq rfl
 case S=>exact fun w H a ns hl hO hS=>..
 case C=>exact ..
(the tactic k_is has no namespace: write k_is) -/
namespace L2
open PySem PySem.Spec PyProof.Rows
def a5r (s:Stmt):Arguments:=match s with
 | .FunctionDef _ a _ _ _ _ _ _ _ _=>a
 | _=>{ posonlyargs:=[],args:=[],vararg:=none,kwonlyargs:=[],kw_defaults:=[],kwarg:=none,defaults:=[] }
def a2m (s:Stmt):List Stmt:=match s with
 | .FunctionDef _ _ b _ _ _ _ _ _ _=>b
 | _=>[]
def a0r (s:Stmt):Scope:=match s with
 | .FunctionDef _ _ _ _ _ _ sc _ _ _=>sc
 | _=>{ kind:=.function,names:=[],isGenerator:=false,isCoroutine:=false }
abbrev CX0:CXT:=fun _ _ _ _ _ _=>False
abbrev E0:XK:=fun _ _ _=>False
theorem d6j {X:Cx}:c1b CX0 X E0:=fun _ _ _ _ _ _ _ h=>h.elim
structure Fun (K:Γd) (x qual:Str) (st:Stmt) (f:Addr) (fd:FuncData):Prop where
 ex:∃ (oc:Value) (od:Option Addr) (kV doc pm:Value) (an:Option Addr) (cdv ct:Value) (osl:Array (Option Value)),
  fd=PySem.W.fnOf x qual (a5r st) (a2m st) (a0r st) .none kV doc pm an cdv ct∧K.lookup f=some ⟨oc,od,.func fd,osl⟩∧PySem.W.codeIn K cdv qual=true
 kp:PySem.W.keepIn K (.ref f)=true
section
variable {P:Program} {w:World} {K:Γd} {mg:Str→Option Value} {base:Heap}
theorem Fun.ok {x qual:Str} {st:Stmt} {f:Addr} {fd:FuncData} {N ps:List Str} {k:Nat} {sp:Sp} (F:Fun K x qual st f fd) (S:FnScope N ps (a0r st)) (len:∀ vs H Q E,sp vs H Q E→vs.length=ps.length)
  (hbody:∀ (cdv:Value) (A:Around) (outer:List Env) (s:Shared) (H:Hp) (vs:List V) (Q:VK) (E:XK),Room k (A.deeper (envOfC qual (a0r st) s.heap.objs.size f cdv))→sp vs H Q E →
   ∃ t,PSs (c8o CX0 P w K mg base N qual (a0r st) f cdv A outer s H E).nox (a2m st) t∧t { nx:=fun _ H'=>Q .non H',rt:=Q } (start N vs) H):FnOk P w K mg base CX0 (k + 1) f fd ps sp:=by
 obtain ⟨oc,od,kV,doc,pm,an,cdv,ct,osl,rfl,lk,hcd⟩:=F.ex
 refine d7t lk hcd S len fun A outer s H vs Q E hr hsp=>?_
 obtain ⟨t,h,q⟩:=hbody cdv A outer s H vs Q E hr hsp
 exact ⟨t,h.nox,q⟩
theorem Fun.binds {x qual:Str} {st:Stmt} {f:Addr} {fd:FuncData} {ps:List Str} (F:Fun K x qual st f fd)
  (h:∀ (kV doc pm:Value) (an:Option Addr) (cdv ct:Value) (us:List Value),us.length=ps.length→bindArgs (PySem.W.fnOf x qual (a5r st) (a2m st) (a0r st) .none kV doc pm an cdv ct) ⟨us,[]⟩=pure (ps.zip us)):Binds K fd ps []:=by
 obtain ⟨oc,od,kV,doc,pm,an,cdv,ct,osl,rfl,lk,hcd⟩:=F.ex
 exact .all (h kV doc pm an cdv ct)
theorem d2j {x qual:Str} {st:Stmt} {f:Addr} {oc:Value} {od an:Option Addr} {osl:Array (Option Value)} {kV doc pm cdv ct:Value} (l:K.lookup f=some ⟨oc,od,.func (PySem.W.fnOf x qual (a5r st) (a2m st) (a0r st) .none kV doc pm an cdv ct),osl⟩)
  (c:PySem.W.codeIn K cdv qual=true) (k:PySem.W.keepIn K (.ref f)=true):Fun K x qual st f (PySem.W.fnOf x qual (a5r st) (a2m st) (a0r st) .none kV doc pm an cdv ct):=⟨⟨oc,od,kV,doc,pm,an,cdv,ct,osl,rfl,l,c⟩,k⟩
end
section
variable {X:Cx}
end
theorem ite2 {c A B:Prop} [Decidable c] (h1:c→A) (h2:¬ c→B):if c then A else B:=by
 by_cases h:c
 ·rw [if_pos h]
  exact h1 h
 ·rw [if_neg h]
  exact h2 h
def Same (H H':Hp):Prop:=∀ b o,H b=some o→H' b=some o
theorem Same.refl (H:Hp):Same H H:=fun _ _ h=>h
theorem Same.trans {H H1 H2:Hp} (a:Same H H1) (b:Same H1 H2):Same H H2:=fun c o h=>b c o (a c o h)
theorem Same.free {H H':Hp} (e:Same H H') {l:Addr} (h:H' l=Option.none):H l=Option.none:=by
 cases q:H l with
 | none=>rfl
 | some o =>
  rw [e l o q] at h
  cases h
theorem Same.seq {K:Γd} {H H':Hp} {a:Addr} {xs:List V} (e:Same H H') (h:SqL K H a xs):SqL K H' a xs:=by
 rcases h with (h | ⟨o,h⟩) | h
 ·exact .inl (.inl (e _ _ h))
 ·exact .inl (.inr ⟨o,e _ _ h⟩)
 ·exact .inr h
end L2
end
section
namespace L2
open PySem PySem.Spec PyProof.Rows
section
variable {κ:Type} [DecidableEq κ]
def b2e (kvs:List (κ×V)) (k:κ):Option V:=(kvs.find? fun kv=>decide (kv.1=k)).map (·.2)
def a5e (kvs:List (κ×V)) (k:κ) (v:V):List (κ×V) :=
 if (kvs.any fun kv=>decide (kv.1=k))=true then kvs.map (fun kv=>if kv.1=k then (kv.1,v) else kv) else kvs++[(k,v)]
def d2z (kvs:List (κ×V)) (k:κ):List (κ×V):=kvs.filter fun kv=>decide (kv.1≠k)
theorem a4g {p:κ×V} {r:List (κ×V)} {k:κ} (e:p.1=k):b2e (p :: r) k=some p.2:=by simp [b2e,List.find?_cons,e]
theorem a4h {p:κ×V} {r:List (κ×V)} {k:κ} (e:¬ p.1=k):b2e (p :: r) k=b2e r k:=by simp [b2e,List.find?_cons,e]
theorem a6b (k:κ):∀ kvs:List (κ×V),(kvs.any fun kv=>decide (kv.1=k))=(b2e kvs k).isSome
 | []=>rfl
 | p :: r=>by
  rw [List.any_cons]
  by_cases e:p.1=k
  ·simp only [a4g e,decide_eq_true e,Bool.true_or,Option.isSome_some]
  ·rw [a4h e,decide_eq_false e,Bool.false_or]; exact a6b k r
theorem a2k (kvs:List (κ×V)) (k:κ) (v:V):(a5e kvs k v).length≤kvs.length + 1:=by
 unfold a5e
 split
 ·rw [List.length_map]; lia
 ·rw [List.length_append,List.length_cons,List.length_nil]; lia
theorem RelO.isSome_eq {o:Option V} {u:Option Value} (r:RelO o u):o.isSome=u.isSome:=by
 cases o with
 | none=>cases u with
  | none=>rfl
  | some _=>exact (show False from r).elim
 | some _=>cases u with
  | none=>exact (show False from r).elim
  | some _=>rfl
theorem RelO.getD {o:Option V} {u:Option Value} {d:V} {d':Value} (r:RelO o u) (rd:RelV d d'):RelV (o.getD d) (u.getD d'):=by
 cases o with
 | none=>cases u with
  | none=>exact rd
  | some _=>exact (show False from r).elim
 | some _=>cases u with
  | none=>exact (show False from r).elim
  | some _=>exact r
theorem KV.val {kvs:List (κ×V)} {vs:List (κ×Value)} (r:KV kvs vs) (k:κ):RelO (b2e kvs k) (valueAt vs k):=by
 unfold KV at r
 induction r with
 | nil=>exact True.intro
 | @cons p q ps qs h t ih =>
  obtain ⟨h1,h2⟩:=h
  by_cases e:p.1=k
  ·have e':q.1=k:=h1.symm.trans e
   have b:valueAt (q :: qs) k=some q.2:=by simp [valueAt,List.find?_cons,e']
   rw [a4g e,b]; exact h2
  ·have e':¬ q.1=k:=fun z=>e (h1.trans z)
   have b:valueAt (q :: qs) k=valueAt qs k:=by simp [valueAt,List.find?_cons,e']
   rw [a4h e,b]; exact ih
theorem KV.any {kvs:List (κ×V)} {vs:List (κ×Value)} (r:KV kvs vs) (k:κ):(kvs.any fun kv=>decide (kv.1=k))=vs.any fun kv=>decide (kv.1=k):=by
 unfold KV at r
 induction r with
 | nil=>rfl
 | cons h t ih=>rw [List.any_cons,List.any_cons,ih,h.1]
theorem KV.repl {kvs:List (κ×V)} {vs:List (κ×Value)} (r:KV kvs vs) (k:κ) {y:V} {u:Value} (ry:RelV y u) :
  KV (kvs.map fun kv=>if kv.1=k then (kv.1,y) else kv) (vs.map fun kv=>if kv.1=k then (kv.1,u) else kv):=by
 unfold KV at r ⊢
 induction r with
 | nil=>exact .nil
 | @cons p q ps qs h t ih =>
  rw [List.map_cons,List.map_cons]
  refine .cons ?_ ih
  obtain ⟨h1,h2⟩:=h
  by_cases e:p.1=k
  ·rw [if_pos e,if_pos (h1.symm.trans e)]; exact ⟨h1,ry⟩
  ·rw [if_neg e,if_neg (fun z=>e (h1.trans z))]; exact ⟨h1,h2⟩
theorem KV.put {kvs:List (κ×V)} {vs:List (κ×Value)} (r:KV kvs vs) (k:κ) {y:V} {u:Value} (ry:RelV y u):KV (a5e kvs k y) (stored vs k u):=by
 unfold a5e stored
 rw [r.any k]
 by_cases e:(vs.any fun kv=>decide (kv.1=k))=true
 ·rw [if_pos e,if_pos e]; exact r.repl k ry
 ·rw [if_neg e,if_neg e]; exact Paired.snoc r ⟨rfl,ry⟩
theorem KV.drop {kvs:List (κ×V)} {vs:List (κ×Value)} (r:KV kvs vs) (k:κ):KV (d2z kvs k) (without vs k):=by
 unfold KV at r ⊢
 unfold d2z without
 induction r with
 | nil=>exact .nil
 | @cons p q ps qs h t ih =>
  obtain ⟨h1,h2⟩:=h
  rw [List.filter_cons,List.filter_cons]
  by_cases e:p.1=k
  ·have a:¬ decide (p.1≠k)=true:=by simp [e]
   have b:¬ decide (q.1≠k)=true:=by simp [h1.symm.trans e]
   rw [if_neg a,if_neg b]; exact ih
  ·have e':¬ q.1=k:=fun z=>e (h1.trans z)
   have a:decide (p.1≠k)=true:=by simp [e]
   have b:decide (q.1≠k)=true:=by simp [e']
   rw [if_pos a,if_pos b]; exact .cons ⟨h1,h2⟩ ih
theorem KV.length {kvs:List (κ×V)} {vs:List (κ×Value)} (r:KV kvs vs):kvs.length=vs.length:=Paired.length r
end
theorem b8z {P:Program} {w:World} {k:Key} {u:Value} (r:RelV (kV k) u):(a0t P w).is k u=true:=by
 cases k with
 | inl i=>obtain ⟨t,e⟩:=(show ∃ t,u=Value.int i t from r); subst e; exact b2x P w i t
 | inr x=>obtain ⟨t,e⟩:=(show ∃ t,u=Value.str x t from r); subst e; exact b2w P w x t
theorem b1i {P:Program} {w:World}:∀ {ks:List Key} {us:List Value},Vals (ks.map kV) us→ItemsAre (a0t P w) ks us
 | [],_,r=>by rw [List.map_nil] at r; cases r; exact .nil
 | k :: ks,_,r=>by
  rw [List.map_cons] at r
  cases r with
  | cons h t=>exact .cons (b8z h) (b1i t)
abbrev KT (H:Hp):List (List Key×V)→List (List Key×Addr×Value)→Prop:=Paired fun p q=>p.1=q.1∧H q.2.1=some (.tup (p.1.map kV))∧RelV p.2 q.2.2
theorem KT.val {H:Hp} {kvs:List (List Key×V)} {xs:List (List Key×Addr×Value)} (r:KT H kvs xs) (k:List Key):RelO (b2e kvs k) ((atKey xs k).map (·.2)):=by
 induction r with
 | nil=>exact True.intro
 | @cons p q ps qs h t ih =>
  obtain ⟨h1,_,h2⟩:=h
  by_cases e:p.1=k
  ·have e':q.1=k:=h1.symm.trans e
   have b:atKey (q :: qs) k=some q.2:=by simp [atKey,List.find?_cons,e']
   rw [a4g e,b]; exact h2
  ·have e':¬ q.1=k:=fun z=>e (h1.trans z)
   have b:atKey (q :: qs) k=atKey qs k:=by simp [atKey,List.find?_cons,e']
   rw [a4h e,b]; exact ih
theorem KT.repl {H:Hp} {kvs:List (List Key×V)} {xs:List (List Key×Addr×Value)} (r:KT H kvs xs) (k:List Key) {y:V} {u:Value} (ry:RelV y u) :
  KT H (kvs.map fun kv=>if kv.1=k then (kv.1,y) else kv) (xs.map (putAt k u)):=by
 induction r with
 | nil=>exact .nil
 | @cons p q ps qs h t ih =>
  rw [List.map_cons,List.map_cons]
  refine .cons ?_ ih
  obtain ⟨h1,h2,h3⟩:=h
  unfold putAt
  by_cases e:p.1=k
  ·rw [if_pos e,if_pos (h1.symm.trans e)]; exact ⟨h1,h2,ry⟩
  ·rw [if_neg e,if_neg (fun z=>e (h1.trans z))]; exact ⟨h1,h2,h3⟩
theorem KT.put {H:Hp} {kvs:List (List Key×V)} {xs:List (List Key×Addr×Value)} (r:KT H kvs xs) (k:List Key) {b:Addr} {y:V} {u:Value} (hb:H b=some (.tup (k.map kV))) (ry:RelV y u) :
  KT H (a5e kvs k y) (storedH xs k b u):=by
 have e:(kvs.any fun kv=>decide (kv.1=k))=(atKey xs k).isSome:=by
  rw [a6b,(r.val k).isSome_eq,Option.isSome_map]
 unfold a5e storedH
 rw [e]
 by_cases q:(atKey xs k).isSome=true
 ·rw [if_pos q,if_pos q]; exact r.repl k ry
 ·rw [if_neg q,if_neg q]; exact Paired.snoc r ⟨rfl,hb,ry⟩
theorem KT.keeps {H H':Hp} {kvs:List (List Key×V)} {xs:List (List Key×Addr×Value)} (r:KT H kvs xs) (ht:∀ b ys,H b=some (.tup ys)→H' b=some (.tup ys)):KT H' kvs xs :=
 Paired.mapP r fun _ _ z=>⟨z.1,ht _ _ z.2.1,z.2.2⟩
section
variable {P:Program} {w:World} {H:Hp} {h:Heap} {a:Addr}
theorem c9x {u:HO} (ok:HOk P w H h) (e:Rd H a u):ObjOk P w H h a u:=e.ok ok
theorem b9z {kvs:List (Key×V)} (ok:HOk P w H h) (e:Rd H a (.dK kvs)):kvs.length≤sizeLine∧(a == sysModules)=false∧∃ vs,KV kvs vs∧h.DictOf (a0t P w) a vs :=
 show ObjOk P w H h a (.dK kvs) from c9x ok e
theorem d9x {kvs:List (Key×V)} (ok:HOk P w H h) (e:H a=some (.dK kvs)):kvs.length≤sizeLine∧(a == sysModules)=false∧∃ vs,KV kvs vs∧h.DictOf (a0t P w) a vs:=b9z ok (.inl e)
theorem a7c {ks:List Key} (ok:HOk P w H h) (e:H a=some (.tup (ks.map kV))):(tupleKind (a0t P w)).is h ks a:=by
 obtain ⟨_,its,r,o,h1,h2,n,h3⟩:=(show ObjOk P w H h a (.tup (ks.map kV)) from ok a _ e)
 exact ⟨o,its.toArray,n,h1,h2,h3,by simpa using b1i r⟩
theorem b9x {kvs:List (List Key×V)} (ok:HOk P w H h) (e:Rd H a (.dT kvs)):kvs.length≤sizeLine∧(a == sysModules)=false ∧
  ∃ xs,KT H kvs xs∧h.DictOfH (tupleKind (a0t P w)) a xs:=by
 obtain ⟨z,y,xs,r,o,es,ep,h1,h2,h3,h4,h5⟩:=(show ObjOk P w H h a (.dT kvs) from c9x ok e)
 refine ⟨z,y,xs,r,o,es,ep,h1,h2,h3,h4,fun x hx=>?_,h5⟩
 have all:∀ {l:List (List Key×V)} {m:List (List Key×Addr×Value)},KT H l m→∀ x∈m,(tupleKind (a0t P w)).is h x.1 x.2.1:=by
  intro l m q
  induction q with
  | nil=>intro x hx; exact nomatch hx
  | @cons p q ps qs hq t ih =>
   intro x hx
   rcases List.mem_cons.mp hx with e | hx
   ·subst e
    exact a7c ok (by rw [← hq.1]; exact hq.2.1)
   ·exact ih x hx
 exact all r x hx
theorem d2y {kvs:List (List Key×V)} (ok:HOk P w H h) (e:H a=some (.dT kvs)):kvs.length≤sizeLine∧(a == sysModules)=false ∧
  ∃ xs,KT H kvs xs∧h.DictOfH (tupleKind (a0t P w)) a xs:=b9x ok (.inl e)
end
def DGet (H:Hp) (a:Addr) (y:V) (r:Option V):Prop :=
 (∃ kvs k,Rd H a (.dK kvs)∧y=kV k∧r=b2e kvs k) ∨ ∃ kvs k b,Rd H a (.dT kvs)∧y=.ref b∧H b=some (.tup (k.map kV))∧r=b2e kvs k
def DPut (H:Hp) (a:Addr) (y v:V) (H':Hp):Prop :=
 (∃ kvs k,H a=some (.dK kvs)∧y=kV k∧kvs.length < sizeLine∧H'=upd H a (.dK (a5e kvs k v))) ∨
 ∃ kvs k b,H a=some (.dT kvs)∧y=.ref b∧H b=some (.tup (k.map kV))∧kvs.length < sizeLine∧H'=upd H a (.dT (a5e kvs k v))
theorem DGet.k {H:Hp} {a:Addr} {kvs:List (Key×V)} {k:Key} (e:H a=some (.dK kvs)):DGet H a (kV k) (b2e kvs k):=.inl ⟨kvs,k,.inl e,rfl,rfl⟩
theorem DGet.t {H:Hp} {a b:Addr} {kvs:List (List Key×V)} {k:List Key} (e:H a=some (.dT kvs)) (eb:H b=some (.tup (k.map kV))):DGet H a (.ref b) (b2e kvs k):=.inr ⟨kvs,k,b,.inl e,rfl,eb,rfl⟩
theorem DPut.k {H:Hp} {a:Addr} {kvs:List (Key×V)} {k:Key} {v:V} (e:H a=some (.dK kvs)) (hl:kvs.length < sizeLine):DPut H a (kV k) v (upd H a (.dK (a5e kvs k v))):=.inl ⟨kvs,k,e,rfl,hl,rfl⟩
theorem DPut.t {H:Hp} {a b:Addr} {kvs:List (List Key×V)} {k:List Key} {v:V} (e:H a=some (.dT kvs)) (eb:H b=some (.tup (k.map kV))) (hl:kvs.length < sizeLine) :
  DPut H a (.ref b) v (upd H a (.dT (a5e kvs k v))):=.inr ⟨kvs,k,b,e,rfl,eb,hl,rfl⟩
section
variable {X:Cx} {pins:List (Addr×Obj)} {σ:St} {H:Hp} {s:Shared} {a:Addr} {y v:V} {u r:Value} {o:Option V} {A:Around} {E:Value→Shared→Prop}
theorem Inv.big (I:Inv X pins σ H s):sysModules < s.heap.objs.size:=by
 have h:mainGlobals < s.heap.objs.size:=(I.mod.glob.keeps I.bk).lt
 exact Nat.lt_trans (by decide) h
theorem c0i {Q:Value→Shared→Prop} (hu:A.units + 1 < cLine) (I:Inv X pins σ H s) (g:DGet H a y (some v)) (ry:RelV y u) (h:∀ w' s',Inv X pins σ H s'→RelV v w'→Q w' s') :
  wpAny (model X.prog X.w) A (getItem (.ref a) u) Q E s:=by
 rcases g with ⟨kvs,k,e,ey,l⟩ | ⟨kvs,k,b,e,ey,eb,l⟩
 ·subst ey
  obtain ⟨z,hd,vs,rel,dd⟩:=b9z I.hok e
  obtain ⟨w',hw,rw'⟩:=RelO.some_of (v:=v) (o:=valueAt vs k) (by rw [l]; exact rel.val k)
  exact wpAny_getItem_of (b8z ry) dd.mapOf hw (h w' _ (I.tok _) rw')
 ·subst ey
  cases (show u=Value.ref b from ry)
  obtain ⟨z,hd,xs,rel,dd⟩:=b9x I.hok e
  obtain ⟨w',hw,rw'⟩:=RelO.some_of (v:=v) (o:=(atKey xs k).map (·.2)) (by rw [l]; exact rel.val k)
  obtain ⟨p,hp,hp2⟩:=Option.map_eq_some_iff.mp hw
  refine wpAny_getItem_heap (tupleKind_room_in1 hu) (a7c I.hok eb) dd hp ?_
  rw [hp2]
  exact h w' _ (I.tok _) rw'
theorem d_in {Q:Value→Shared→Prop} (hu:A.units + 1 < cLine) (I:Inv X pins σ H s) (g:DGet H a y o) (ry:RelV y u) (h:∀ s',Inv X pins σ H s'→Q (.bool o.isSome) s') :
  wpAny (model X.prog X.w) A (compareOp .In u (.ref a)) Q E s:=by
 rcases g with ⟨kvs,k,e,ey,l⟩ | ⟨kvs,k,b,e,ey,eb,l⟩
 ·subst ey
  obtain ⟨z,hd,vs,rel,dd⟩:=b9z I.hok e
  refine wpAny_in_of (b8z ry) hd dd.mapOf ?_
  rw [← (rel.val k).isSome_eq,← l]
  exact h _ (I.tok _)
 ·subst ey
  cases (show u=Value.ref b from ry)
  obtain ⟨z,hd,xs,rel,dd⟩:=b9x I.hok e
  refine wpAny_in_heap (tupleKind_room_in1 hu) (a7c I.hok eb) hd dd ?_
  have q:=(rel.val k).isSome_eq
  rw [Option.isSome_map] at q
  rw [← q,← l]
  exact h _ (I.tok _)
theorem c0h {Q:Value→Shared→Prop} (hu:A.units + 1 < cLine) (I:Inv X pins σ H s) (g:DGet H a y o) (ry:RelV y u) (h:∀ s',Inv X pins σ H s'→Q (.bool (!o.isSome)) s') :
  wpAny (model X.prog X.w) A (compareOp .NotIn u (.ref a)) Q E s:=by
 rcases g with ⟨kvs,k,e,ey,l⟩ | ⟨kvs,k,b,e,ey,eb,l⟩
 ·subst ey
  obtain ⟨z,hd,vs,rel,dd⟩:=b9z I.hok e
  refine wpAny_notIn_of (b8z ry) hd dd.mapOf ?_
  rw [← (rel.val k).isSome_eq,← l]
  exact h _ (I.tok _)
 ·subst ey
  cases (show u=Value.ref b from ry)
  obtain ⟨z,hd,xs,rel,dd⟩:=b9x I.hok e
  refine wpAny_notIn_heap (tupleKind_room_in1 hu) (a7c I.hok eb) hd dd ?_
  have q:=(rel.val k).isSome_eq
  rw [Option.isSome_map] at q
  rw [← q,← l]
  exact h _ (I.tok _)
theorem b3g {h':Heap} {t':Nat} {ob:HO} (I:Inv X pins σ H s) (mu:Mut (H a)) (hs:Heap.SameBut a s.heap h') (he:∃ q,h'.get? a=some q) (new:ObjOk X.prog X.w (upd H a ob) h' a ob) :
  Inv X pins σ (upd H a ob) { s with heap:=h',toks:=t' } :=
 I.write (x:=a) (e:=a) mu (.inl rfl) (fun b q hb z=>(hs.2 b hb).trans z) he new
theorem d3a {P:Program} {w:World} {H':Hp} {h':Heap} {kvs:List (Key×V)} {vs:List (Key×Value)} (z:kvs.length≤sizeLine) (hd:(a == sysModules)=false) (rel:KV kvs vs) (dd:h'.DictOf (a0t P w) a vs) :
  ObjOk P w H' h' a (.dK kvs):=⟨z,hd,vs,rel,dd⟩
theorem c0g {H':Hp} {Q:Unit→Shared→Prop} (hu:A.units + 1 < cLine) (I:Inv X pins σ H s) (g:DPut H a y v H') (ry:RelV y u) (rv:RelV v r) (h:∀ s',Inv X pins σ H' s'→Q () s') :
  wpAny (model X.prog X.w) A (setItem (.ref a) u r) Q E s:=by
 rcases g with ⟨kvs,k,e,ey,l,eH⟩ | ⟨kvs,k,b,e,ey,eb,l,eH⟩
 ·subst ey eH
  obtain ⟨z,hd,vs,rel,dd⟩:=d9x I.hok e
  have hz:vs.length≤sizeLine:=by rw [← rel.length]; exact z
  have hl:(a5e kvs k v).length≤sizeLine:=by have:=a2k kvs k v; lia
  refine wpAny_setItem_pairs (hsz:=hz) (b8z ry) dd fun h' dd' hs=>h _ ?_
  have he:∃ q,h'.get? a=some q:=let ⟨q,_,_,hq,_⟩:=dd'; ⟨q,hq⟩
  exact b3g I (by rw [e]; exact True.intro) hs he (d3a hl hd (rel.put k rv) dd')
 ·subst ey eH
  cases (show u=Value.ref b from ry)
  obtain ⟨z,hd,xs,rel,dd⟩:=d2y I.hok e
  have hz:xs.length≤sizeLine:=by rw [← Paired.length rel]; exact z
  have hl:(a5e kvs k v).length≤sizeLine:=by have:=a2k kvs k v; lia
  refine wpAny_setItem_heap (hsz:=hz) (tupleKind_room_in1 hu) (a7c I.hok eb) dd fun h' dd' hs=>h _ ?_
  obtain ⟨q,es,ep,hq,h2,h3,h4,_,h5⟩:=dd'
  refine b3g I (by rw [e]; exact True.intro) hs ⟨q,hq⟩ ⟨hl,hd,_,(rel.put k eb rv).keeps fun c ys ec=>?_,q,es,ep,hq,h2,h3,h4,h5⟩
  rw [a0e (d1n ec e (fun z=>nomatch z))]
  exact ec
end
section
variable {X:Cx} {pins:List (Addr×Obj)} {σ:St} {H:Hp} {s:Shared} {a:Addr} {kvs:List (Key×V)} {k:Key} {u:Value} {A:Around} {E:Value→Shared→Prop}
end
def NoSl (i:Expr):Prop:=∀ ov iv,subscripted i false ov iv=operate [ov,iv] (getItem ov iv)
theorem c5y {prog:Program} {w:World} {A:Around} {E:Value→Shared→Prop} {s:Shared} {env:Env} {value slice:Expr} {pos:Pos} {T id:String} {Q:Value→Shared→Prop}
  (hl:typeLookup (.type T) "__getitem__" = pure (some (.builtin id))) (hs:NoSl slice)
  (h:wpAny (model prog w) A (eval value env) (fun o s₁=>wpAny (model prog w) A (eval slice env) (fun i s₂=>s₂.TypeIs o T∧wpAny (model prog w) A (getItem o i) Q E s₂) E s₁) E s) :
  wpAny (model prog w) A (eval (.Subscript value slice pos) env) Q E s:=by
 refine Subscript_ (wpAny_mono h (fun o s₁ h₁=>wpAny_mono h₁ (fun i s₂ h₂=>?_) fun _ _ x=>x) fun _ _ x=>x)
 obtain ⟨hT,h₂⟩:=h₂
 unfold subscriptTail
 refine Γa ?_
 rw [getitemInPython_of_ne hT.not_modules]
 refine Γa (wpAny_specialOf hT hl ?_)
 have fin:wpAny (model prog w) A (subscripted slice false o i) (fun r s₃=>wpAny (model prog w) A (letTemporaryGo value o r >>= fun _=>pure r) Q E s₃) E s₂:=by
  rw [hs o i]
  exact wpAny_operating (wpAny_mono h₂ (fun r s₃ h₃=>Γa (wpAny_letTemporaryGo (Γb h₃))) fun _ _ x=>x)
 first
  | exact Γb (Γa fin)
  | exact Γa (Γb (Γa fin))
  | exact Γa fin
theorem b3f {X:Cx} {pins:List (Addr×Obj)} {σ:St} {H:Hp} {s:Shared} {a:Addr} {y:V} {o:Option V} (I:Inv X pins σ H s) (g:DGet H a y o):s.TypeIs (.ref a) "dict":=by
 rcases g with ⟨kvs,k,e,_,_⟩ | ⟨kvs,k,b,e,_,_,_⟩
 ·obtain ⟨_,_,vs,_,dd⟩:=b9z I.hok e
  exact dd.typeIs
 ·obtain ⟨_,_,xs,_,dd⟩:=b9x I.hok e
  exact dd.typeIs
def d5e (td ty:TE):TE:=fun σ H Q=>td σ H fun x H1=>ty σ H1 fun y H2=>∃ a v,x=.ref a∧DGet H2 a y (some v)∧Q v H2
def d5r (td ty tv:TE):TS:=fun D σ H=>tv σ H fun v H1=>td σ H1 fun x H2=>ty σ H2 fun y H3=>∃ a H4,x=.ref a∧DPut H3 a y v H4∧D.nx σ H4
section
variable {X:Cx} {o i e value:Expr} {pos pos' tpos:Pos} {td ty tv:TE}
theorem b2t (hu:X.A.units + 1 < cLine) (ho:PE X o td) (hi:PE X i ty) (hs:NoSl i):PE X (.Subscript o i pos) (d5e td ty):=by
 intro pins s σ H Q I h
 refine c5y PySem.F.slot_dict_getitem.lookup hs (thn (ho pins s σ H _ I h) fun u s1 ⟨x,H1,I1,rx,q1⟩=>thn (hi pins s1 σ H1 _ I1 q1) fun iv s2 ⟨y,H2,I2,ry,a,v,ex,g,q2⟩=>?_)
 subst ex
 obtain rfl:u=Value.ref a:=rx
 exact ⟨b3f I2 g,c0i hu I2 g ry fun w' s3 I3 rw'=>⟨v,H2,I3,rw',q2⟩⟩
theorem c6q (hu:X.A.units + 1 < cLine) (ho:PE X o td) (hi:PE X i ty) (hv:PE X value tv) (hs:swapsWith value (some (.Subscript o i pos')) pos.line X.env=pure false) :
  PS X (.Assign [.Subscript o i pos'] value pos) (d5r td ty tv):=by
 intro pins s σ H D I h
 refine wpAny_Assign_Subscript (thn (hv pins s σ H _ I h) fun r s1 ⟨v,H1,I1,rv,q1⟩=>thn (ho pins s1 σ H1 _ I1 q1) fun u s2 ⟨x,H2,I2,rx,q2⟩=>thn (hi pins s2 σ H2 _ I2 q2) fun iv s3 ⟨y,H3,I3,ry,a,H4,ex,g,q3⟩=>?_) hs
 subst ex
 obtain rfl:u=Value.ref a:=rx
 exact c0g hu I3 g ry rv fun s4 I4=>⟨σ,H4,I4,q3⟩
end
theorem b4v {P:Program} {w:World} {H:Hp} (h:Heap) (hb:sysModules < h.objs.size):ObjOk P w H (h.push { cls:=.type "dict",data:=.dict #[] }) h.objs.size (.dT []) :=
 ⟨Nat.zero_le _,beq_eq_false_iff_ne.mpr (Ne.symm (Γo hb)),[],.nil,_,#[],0,Γm _ rfl,⟨rfl,rfl,rfl⟩,rfl,rfl,List.nodup_nil⟩
def c9n:TE:=fun _ H Q=>∀ p,H p=none→Q (.ref p) (upd H p (.dT []))
section
variable {X:Cx} {pos:Pos}
theorem c2p:PE X (.Dict [] [] pos) c9n:=fun pins s σ H Q I h =>
 wpAny_Dict_empty ⟨.ref s.heap.objs.size,_,I.laid (a:=s.heap.objs.size) (o:=.dT []) (t':=s.toks) (fun _ _ q=>Γc _ q) (Γi _) (b4v s.heap I.big),rfl,h _ (I.hok.fresh (Γi _))⟩
end
structure M1 (X:Cx) (o:Expr) (m:Str) (apos:Pos) (e:Expr) (cpos:Pos):Prop where
 base:attributeBase o m X.env (eval o X.env)=eval o X.env
 few:((backTo cpos (starEach [e] X.env)).all (fun x=>!x.1) && (backToKw cpos (keywordEach [] X.env)).all (fun x=>x.1.isSome)
  && decide (([e]:List Expr).length + ([]:List Keyword).length + (if ([]:List Keyword).isEmpty then 0 else 1) < 30))=true
 line:(apos.endLine == cpos.line)=true
 trees:backTo cpos (starEach [e] X.env)=[(false,eval e X.env)]
structure M2 (X:Cx) (o:Expr) (m:Str) (apos:Pos) (e f:Expr) (cpos:Pos):Prop where
 base:attributeBase o m X.env (eval o X.env)=eval o X.env
 few:((backTo cpos (starEach [e,f] X.env)).all (fun x=>!x.1) && (backToKw cpos (keywordEach [] X.env)).all (fun x=>x.1.isSome)
  && decide (([e,f]:List Expr).length + ([]:List Keyword).length + (if ([]:List Keyword).isEmpty then 0 else 1) < 30))=true
 line:(apos.endLine == cpos.line)=true
 trees:backTo cpos (starEach [e,f] X.env)=[(false,eval e X.env),(false,eval f X.env)]
section
variable {X:Cx} {pins:List (Addr×Obj)} {σ:St} {H:Hp} {s:Shared} {a:Addr} {y d:V} {u r:Value} {o:Option V} {A:Around} {E:Value→Shared→Prop}
end
section
variable {X:Cx} {o e f:Expr} {apos cpos:Pos} {td ty tx:TE}
end
section
variable {X:Cx} {pins:List (Addr×Obj)} {σ:St} {H:Hp} {s:Shared} {a:Addr} {kvs:List (Key×V)} {A:Around} {E:Value→Shared→Prop}
end
section
variable {X:Cx} {pins:List (Addr×Obj)} {σ:St} {H:Hp} {s:Shared} {a:Addr} {y:V} {u:Value} {A:Around} {E:Value→Shared→Prop}
end
end L2
namespace L2
open PySem PySem.Spec PyProof.Rows
section
variable {κ:Type} [DecidableEq κ]
end
end L2
end
section
namespace HT
open PySem PyProof.Rows
def lexLe:List Int→List Int→Bool
 | [],[]=>true
 | [],_ :: _=>true
 | _ :: _,[]=>false
 | x :: xs,y :: ys=>if x=y then lexLe xs ys else decide (x≤y)
section
open PySem.SeqAt
open PySem.AutoSeq1 (wpAny_loadPart')
open PySem.MeetsSeq PySem.MeetsSeq2 PySem.MeetsSeq3
end
section
variable {prog:Program} {w:World} {A:Around} {E:Value→Shared→Prop} {s:Shared}
end
end HT
namespace L2
open PySem PySem.Spec PyProof.Rows
section
variable {X:Cx}
end
end L2
end
set_option maxHeartbeats 4000000
section
namespace L2
open PySem PySem.Spec PyProof.Rows
open AutoSeq1 (wpAny_loadPart')
theorem b5n (l b:Addr) (xs ys:Array Value) (n n2:Nat) (dd:Option Addr) (sl:Array (Option Value)) (h0:¬(!xs.isEmpty && Builtin.List.listTooLong (xs.size + ys.size))=true) (h1:xs.size≤sizeLine) (h2:xs.size + ys.size≤sizeLine + 1) :
  Meets (Builtin.«list.extend» ⟨[.ref l,.ref b],[]⟩) (fun _ R s=>s.heap.get? l=some { cls:=.type "list",dict:=none,data:=.seq xs n,slots:=#[] }∧s.heap.get? b=some { cls:=.type "tuple",dict:=dd,data:=.seq ys n2,slots:=sl }∧R (.ok (.ret Value.none)) { s with heap:=s.heap.update l (Obj.mapSeq fun x=>x++ys),toks:=s.toks }) :=
 .of_wp fun prog w A R s h=>by
  obtain ⟨hp,g,d,tk,os⟩:=s; obtain ⟨hl,hb,h⟩:=h
  have f2:=AutoSeq1.sub_tuple_tuple; have f3:=AutoSeq1.sub_list_list; have f4:=AutoSeq1.sub_tuple_list; have f5:=AutoSeq1.sub_list_tuple
  have hz':(xs++ys).size≤sizeLine + 1:=by rw [Array.size_append]; exact h2
  wp_walk using (wpAny_updateSeq hl rfl (hz:=h1) (_hz':=hz')),wpAny_loadPart' hl,wpAny_loadPart' hb
  exact ⟨_,rfl,h⟩
section
variable {X:Cx}
def d0a (K:Γd):V→List V→Hp→VK→Prop:=fun x vs H Q=>∃ l b xs zs,x=.ref l∧vs=[.ref b]∧H l=some (.lst xs)∧SqT K H b zs∧xs.length + zs.length≤sizeLine∧Q .non (upd H l (.lst (xs++zs)))
theorem c7l:MtM X "list.extend" (d0a X.K):=by
 intro pins s σ H x vs v us Q I rx rv h
 obtain ⟨l,b,xs,zs,rfl,rfl,hH,hB,hz,q⟩:=h
 cases rx
 obtain ⟨u,rfl,ru⟩:=rv.one
 cases ru
 obtain ⟨z,its,n,r,hl,e⟩:=I.lstM hH
 obtain ⟨its2,r2,⟨⟨oc,od,odt,os⟩,e2,ec,n2,ed⟩,z2⟩:=I.tuple hB
 have hl2:=r2.length
 simp only at ec ed
 subst ec ed
 have hsz:its.toArray.size + its2.toArray.size≤sizeLine:=by rw [List.size_toArray,List.size_toArray]; lia
 have hlong:¬ (!its.toArray.isEmpty && Builtin.List.listTooLong (its.toArray.size + its2.toArray.size))=true:=by
  rw [a9p hsz,Bool.and_false]; exact Γk
 refine call_meets F.slot_list_extend ⟨_,e,rfl⟩ F.entry_list_extend (F.args_list_extend_2 _ _) (b5n l b its.toArray its2.toArray n n2 _ _ hlong (by rw [List.size_toArray]; lia) (by lia)) ⟨e,e2,?_⟩
 refine ⟨.non,_,I.lset (its':=its++its2) hH e (by simp) (r.append r2) ?_,rfl,q⟩
 rw [List.length_append]; lia
theorem c2s:OpR X (binaryOp .Add) (fun x y H Q=>∃ a b ys,x=.ref a∧y=.ref b∧SqT X.K H a []∧SqT X.K H b ys∧Q (.ref b) H):=by
 intro pins s σ H x y v u Q I rx ry h
 obtain ⟨a,b,ys,rfl,rfl,ha,hb,q⟩:=h
 cases rx; cases ry
 obtain ⟨its,r1,⟨⟨oc,od,odt,os⟩,e1,ec,n,ed⟩,_⟩:=I.tuple ha
 obtain ⟨its2,r2,⟨⟨oc2,od2,odt2,os2⟩,e2,ec2,n2,ed2⟩,_⟩:=I.tuple hb
 simp only at ec ed ec2 ed2
 subst ec ed ec2 ed2
 cases r1
 exact concat_meets ⟨_,e1,rfl⟩ ⟨_,e2,rfl⟩ noFill_tuple_add seq_tuple_add F.slot_tuple_add F.entry_tuple_add (F.args_tuple_add_2 _ _) (tuple_addW0 a b #[] its2.toArray n n2 od od2 os os2 rfl) ⟨e1,e2,.ref b,H,I,rfl,q⟩
theorem c1u:SlR X (fun x lo hi H Q=>∃ a xs,x=.ref a∧SqT X.K H a xs∧HT.sIx xs.length 0 lo=0∧HT.sIx xs.length xs.length hi=xs.length∧Q (.ref a) H):=by
 intro pins s σ H x v vl vu lo hi sl Q I rx hs pl pu h
 obtain ⟨t,xs,rfl,hx,h1,h2,q⟩:=h
 cases rx
 obtain ⟨its,r,ht,hz⟩:=I.tuple hx
 have hlen:its.toArray.size=xs.length:=by rw [List.size_toArray]; exact r.length.symm
 refine ⟨"tuple",_,PyProof.Rows.slot_tuple_getitem.lookup,ht.typeIs,?_⟩
 obtain ⟨os,eo,co,do'⟩:=id hs
 have ty:s.TypeIs (.ref sl) "slice":=⟨os,eo,co⟩
 rw [← hlen] at h1 h2
 unfold getItem
 try with_reducible refine Γg ?_
 first | refine Γa (Γb ?_) | skip
 refine Γa (wpAny_sequenceKey ht.typeIs (by decide) (Γa (wpAny_callSpecial?_slot (name:=Γe "__getitem__") ht.typeIs PyProof.Rows.slot_tuple_getitem (wpAny_call_entry PyProof.Rows.slot_tuple_getitem ht.typeIs entry_tuple_getitem ?_ (args_tuple_getitem _ _)))))
 show wpAny _ _ (Builtin.Tuple.tupleItemsOf (.ref t) >>= _) _ _ s; refine Γa (tupleItemsOf_ ht (Γa (wpAny_typeOf ty ?_)))
 rw [if_pos (by decide)]; refine Γa (HT.sliceApplied_gen hs pl pu ?_)
 show wpAny _ _ (if (((HT.sIx its.toArray.size 0 lo:Nat):Int) == 0 && (1:Int) == 1 && (HT.sIx its.toArray.size its.toArray.size hi - HT.sIx its.toArray.size 0 lo) == its.toArray.size)=true then _ else _) _ _ s
 rw [if_pos (by rw [h1,h2]; simp)]
 refine Γa (m:=Builtin.Tuple.tupleIsExact (.ref t)) ?_
 unfold Builtin.Tuple.tupleIsExact
 refine Γa (wpAny_typeOf ht.typeIs (Γb ?_))
 rw [if_pos (by decide)]
 exact Γa (wpAny_rule (Γb ⟨_,rfl,Γb ⟨.ref t,H,I,rfl,q⟩⟩))
end
def Kept (h0 h:Heap) (N:Nat):Prop:=∀ b o,b < N→h0.get? b=some o→h.get? b=some o
def c8z (P:Program) (w:World) (A:Around) (I:Nat→Value→Prop) (bt:Nat→Nat→Bool) (h0:Heap) (N:Nat):Prop :=
 ∀ i j u v (s:Shared) (Q:Value→Shared→Prop) (E:Value→Shared→Prop),Kept h0 s.heap N→I i u→I j v→Q (.bool (bt i j)) s→wpAny (model P w) A (richCompare .Lt u v) Q E s
section
variable {P:Program} {w:World} {A:Around} {R:Result→Shared→Prop} {it S N:Addr} {fp wr:List Addr} {n:Nat} {V:Nat→Value→Prop} {St:Nat→Heap→Prop} {bt:Nat→Nat→Bool} {h0:Heap}
theorem b5r (W:Walks P w A.in1 it fp wr n V St) (C:c8z P w A.in1 V bt h0 N) (sf:S ∉ fp) (nw:∀ b∈wr,N≤b) (nS:N≤S) :
  ∀ (k j:Nat) (s:Shared) (best:Value) (c:Nat),n - (j + 1)=k→j + 1≤n→St (j + 1) s.heap→V (argBest bt j) best→Kept h0 s.heap N→s.heap.get? S=some { cls:=.type "list",dict:=none,data:=.seq #[best,best] c,slots:=#[] } →
  (∀ v h' tk,V (argBest bt (n - 1)) v→(∀ b o,b ∉ wr→b≠S→s.heap.get? b=some o→h'.get? b=some o)→R (.ok (.ret v)) { s with heap:=h',toks:=tk })→codeAny (model P w) A (.builtin "min.loop" ⟨[.ref it,.none,.ref S],[]⟩) R s:=by
 have sw:S ∉ wr:=fun h=>sf (W.sub _ h)
 have nm:(toString "min"++toString ".loop":String) = "min.loop":=by decide
 have low:∀ {b:Addr},b < N→b ∉ wr∧b≠S:=fun {b} hb=>⟨fun z=>absurd (nw b z) (Nat.not_le.mpr hb),fun z=>absurd nS (by rw [← z]; exact Nat.not_le.mpr hb)⟩
 intro k
 induction k with
 | zero =>
  intro j s best c hk hj hst hV kp hS hR
  have en:j + 1=n:=by lia
  refine codeAny_builtin F.entry_min_loop ?_; rw [Around.under_plainId F.plain_min_loop _]
  show wpAny _ A.in1 (seqItems? (.ref S) >>= _) _ _ s; refine Γa (wpAny_seqItems hS rfl ?_)
  show wpAny _ A.in1 (tryCatch (pyNext (.ref it)) _ >>= _) _ _ s; refine Γa (wpAny_tryCatch (W.done s _ _ (en ▸ hst) fun g tk kk=>?_))
  have S1:=kk S _ sw hS
  show wpAny _ A.in1 (updateSeq S (fun _=>#[]) >>= _) _ _ _; refine Γa (wpAny_updateSeq S1 rfl (Γa (wpAny_letGo (Γb ?_))))
  exact hR best _ tk (by rw [← en]; exact hV) fun b o c1 c2 e=>(Γf _ _ (Ne.symm c2)).trans (kk b o c1 e)
 | succ k ih =>
  intro j s best c hk hj hst hV kp hS hR
  have lt:j + 1 < n:=by lia
  refine codeAny_builtin F.entry_min_loop ?_; rw [Around.under_plainId F.plain_min_loop _]
  show wpAny _ A.in1 (seqItems? (.ref S) >>= _) _ _ s; refine Γa (wpAny_seqItems hS rfl ?_)
  show wpAny _ A.in1 (tryCatch (pyNext (.ref it)) _ >>= _) _ _ s; refine Γa (wpAny_tryCatch (W.item (j + 1) s _ _ lt hst fun v g tk vP st1 kk=>?_))
  have S1:=kk S _ sw hS
  have kp1:Kept h0 g N:=fun b o hb e=>kk b o (low hb).1 (kp b o hb e)
  show wpAny _ A.in1 (tryCatch (holding [v,v] (richCompare .Lt v best >>= _)) _ >>= _) _ _ _
  refine Γa (wpAny_tryCatch (Γg (Γa (C (j + 1) (argBest bt j) v best _ _ _ kp1 vP hV (Γa (Γg (wpAny_truthy_bool (Γa (wpAny_letGo (Γb ?_))))))))))
  cases hb:bt (j + 1) (argBest bt j) with
  | true =>
   simp only [if_true]; refine Γa (wpAny_updateSeq S1 rfl (Γa (wpAny_letGo ?_))); rw [nm]
   refine Γb ⟨plainId_quiet F.plain_min_loop _,ih (j + 1) _ v _ (by lia) lt (W.frame _ _ _ st1 fun b bf o e=>(Γf _ _ (fun h:S=b=>sf (by rw [h]; exact bf))).trans e) (by simp only [argBest,hb,if_true]; exact vP)
    (fun b o l e=>(Γf _ _ (Ne.symm (low l).2)).trans (kp1 b o l e)) (Heap.get?_update_self _ S1 rfl) fun v' g' tk' p' k'=>?_⟩
   exact hR v' g' tk' p' fun b o c1 c2 e=>k' b o c1 c2 ((Γf _ _ (Ne.symm c2)).trans (kk b o c1 e))
  | false =>
   simp only [Γp,if_false]; refine Γa (wpAny_letGo ?_); rw [nm]
   refine Γb ⟨plainId_quiet F.plain_min_loop _,ih (j + 1) _ best c (by lia) lt st1 (by simp only [argBest,hb,Γp,if_false]; exact hV) kp1 S1 fun v' g' tk' p' k'=>?_⟩
   exact hR v' g' tk' p' fun b o c1 c2 e=>k' b o c1 c2 (kk b o c1 e)
theorem b2z (W:Walks P w A.in1 it fp wr n V St) (C:c8z P w A.in1 V bt h0 N) (sf:S ∉ fp) (nw:∀ b∈wr,N≤b) (nS:N≤S) (hn:0 < n) {s:Shared} {c:Nat} (hst:St 0 s.heap) (kp:Kept h0 s.heap N)
  (hS:s.heap.get? S=some { cls:=.type "list",dict:=none,data:=.seq #[] c,slots:=#[] })
  (hR:∀ v h' tk,V (argBest bt (n - 1)) v→(∀ b o,b ∉ wr→b≠S→s.heap.get? b=some o→h'.get? b=some o)→R (.ok (.ret v)) { s with heap:=h',toks:=tk }):codeAny (model P w) A (.builtin "min.loop" ⟨[.ref it,.none,.ref S],[]⟩) R s:=by
 have sw:S ∉ wr:=fun h=>sf (W.sub _ h)
 have nm:(toString "min"++toString ".loop":String) = "min.loop":=by decide
 have low:∀ {b:Addr},b < N→b ∉ wr∧b≠S:=fun {b} hb=>⟨fun z=>absurd (nw b z) (Nat.not_le.mpr hb),fun z=>absurd nS (by rw [← z]; exact Nat.not_le.mpr hb)⟩
 refine codeAny_builtin F.entry_min_loop ?_; rw [Around.under_plainId F.plain_min_loop _]
 show wpAny _ A.in1 (seqItems? (.ref S) >>= _) _ _ s; refine Γa (wpAny_seqItems hS rfl ?_)
 show wpAny _ A.in1 (tryCatch (pyNext (.ref it)) _ >>= _) _ _ s; refine Γa (wpAny_tryCatch (W.item 0 s _ _ hn hst fun v g tk vP st1 kk=>?_))
 have S1:=kk S _ sw hS
 show wpAny _ A.in1 (updateSeq S (fun _=>#[v,v]) >>= _) _ _ _; refine Γa (wpAny_updateSeq S1 rfl ?_); rw [nm]
 refine Γb ⟨plainId_quiet F.plain_min_loop _,b5r W C sf nw nS _ 0 _ v _ rfl hn (W.frame _ _ _ st1 fun b bf o e=>(Γf _ _ (fun h:S=b=>sf (by rw [h]; exact bf))).trans e) vP
  (fun b o l e=>(Γf _ _ (Ne.symm (low l).2)).trans (kk b o (low l).1 (kp b o l e))) (Heap.get?_update_self _ S1 rfl) fun v' g' tk' p' k'=>?_⟩
 exact hR v' g' tk' p' fun b o c1 c2 e=>k' b o c1 c2 ((Γf _ _ (Ne.symm c2)).trans (kk b o c1 e))
end
section
variable {P:Program} {w:World} {A:Around} {E:Value→Shared→Prop} {s:Shared}
theorem b6f {l:Addr} {xs:Array Value} {bt:Nat→Nat→Bool} {Q:Value→Shared→Prop} (hh:A.in1.handled=none) (hl:s.heap.IsList l xs) (hn:0 < xs.size) (C:c8z P w A.in1 (fun i v=>xs[i]?=some v) bt s.heap s.heap.objs.size)
  (K:∀ v h' tk,xs[argBest bt (xs.size - 1)]?=some v→(∀ b o,s.heap.get? b=some o→h'.get? b=some o)→Q v { s with heap:=h',toks:=tk }):wpAny (model P w) A (call (.builtin "min") [.ref l]) Q E s:=by
 have nm:(toString "min"++toString ".loop":String) = "min.loop":=by decide
 have ll:l < s.heap.objs.size:=by obtain ⟨_,e,_⟩:=hl; exact Γl e
 refine call_function_tree F.kind_min F.plain_min F.entry_min (F.args_min1 _) ?_
 show wpAny _ A.in1 (Builtin.Builtins.bindParams "min" ["key","default"] 0 ⟨[],[]⟩ >>= _) _ _ s
 refine Γa (wpAny_of_eq (show Builtin.Builtins.bindParams "min" ["key","default"] 0 ⟨[],[]⟩=pure [none,none] from rfl) (Γa (Γb (Γa (wpAny_pyIter_list hl ?_)))))
 have W:=Walks.list (prog:=P) (w:=w) hh s.heap.objs.size l (Γo ll) xs
 refine Γa (wpAny_newObj_type ?_)
 rw [nm]
 have z1:(s.heap.push { cls:=.type "list_iterator",data:=.fields #[.ref l,.int 0 0] }).objs.size=s.heap.objs.size + 1:=Heap.size_push ..
 refine Γb ⟨plainId_quiet F.plain_min_loop _,b2z (S:=(s.heap.push { cls:=.type "list_iterator",data:=.fields #[.ref l,.int 0 0] }).objs.size) W C ?_ ?_ ?_ hn ⟨⟨_,Γc _ (Γm _ rfl),rfl,rfl⟩,(hl.push _).push _⟩
  (fun b o hb e=>Γc _ (Γc _ e)) (Γm _ rfl) fun v h' tk hv hk=>?_⟩
 ·rw [z1]; intro z; simp only [List.mem_cons,List.not_mem_nil,or_false] at z; rcases z with z | z
  ·exact absurd z (Nat.ne_of_gt (Nat.lt_succ_self _))
  ·exact absurd z (Nat.ne_of_gt (Nat.lt_succ_of_lt ll))
 ·intro b hb; simp at hb; rw [hb]; exact Γi _
 ·rw [z1]; exact Nat.le_succ _
 ·refine K v h' tk hv fun b o e=>hk b o (by simp; exact Γo (Γl e)) ?_ (Γc _ (Γc _ e))
  rw [z1]; exact Γo (Nat.lt_succ_of_lt (Γl e))
end
end L2
end
section
namespace L2
open PySem PySem.Spec PyProof.Rows
section
variable {prog:Program} {w:World} {A:Around} {E:Value→Shared→Prop} {s:Shared}
end
section
variable {X:Cx} {a e k:Expr} {ta te tk:TE} {pos p2:Pos}
theorem RelV.bool_iff {x:V} {v:Value} {b:Bool} (r:RelV x v):(v == Value.bool b)=decide (x=.bl b):=by
 cases x with
 | non=>cases r; rfl
 | bl c=>cases r; cases c <;> cases b <;> rfl
 | int _=>obtain ⟨t,rfl⟩:=r; rfl
 | str _=>obtain ⟨t,rfl⟩:=r; rfl
 | byt _=>obtain ⟨t,rfl⟩:=r; rfl
 | flt _=>obtain ⟨t,rfl⟩:=r; rfl
 | ref _=>cases r; rfl
 | ty _=>cases r; rfl
theorem a7w {M:Model} {A:Around} {E:Value→Shared→Prop} {s:Shared} {Q:Value→Shared→Prop} {x:V} {v:Value} {b:Bool} (r:RelV x v) (h:Q (.bool (!decide (x=.bl b))) s):wpAny M A (compareOp .IsNot v (.bool b)) Q E s:=by
 rw [← r.bool_iff] at h
 cases x with
 | bl c=>cases r; exact Γb h
 | non=>cases r; exact Γb h
 | ref _=>cases r; exact Γb h
 | ty _=>cases r; exact Γb h
 | _=>obtain ⟨t,rfl⟩:=r; exact Γb h
theorem c7d {b:Bool} {j pos'} (ha:PE X a ta):PC X .IsNot a (.Constant (.bool b) j pos') (fun σ H Q=>ta σ H fun x H1=>Q (.bl (!decide (x=.bl b))) H1):=by
 intro pins s σ H Q I h
 refine thn (ha pins s σ H _ I h) fun v s1 ⟨x,H1,I1,r1,q1⟩=>?_
 exact Constant_bool (a7w r1 ⟨.bl _,H1,I1,rfl,q1⟩)
end
end L2
end
section
namespace L2
open PySem PySem.Spec PyProof.Rows
def a8r (cells:List (Str×Addr)):List (Str×NameKind)→List (Str×Addr)→List (Str×Addr)
 | [],acc=>acc
 | (n,k) :: r,acc=>if (k == NameKind.free)=true then a8r cells r ((n,(cells.lookup n).getD 0) :: acc) else a8r cells r acc
theorem b4y {env:Env}:∀ (names:List (Str×NameKind)) (acc:List (Str×Addr)),(∀ p∈names,p.2=.free→∃ c,env.cells.lookup p.1=some c) →
  (forIn names acc fun (x:Str×NameKind) (cs:List (Str×Addr))=>if (x.2 == NameKind.free)=true then cellOf env x.1 >>= fun c=>pure (ForInStep.yield ((x.1,c) :: cs)) else pure (ForInStep.yield cs):Sem (List (Str×Addr)))=pure (a8r env.cells names acc)
 | [],acc,_=>rfl
 | (n,k) :: r,acc,h=>by
  have ih:=b4y (env:=env) r
  rw [List.forIn_cons]
  unfold a8r
  by_cases hk:(k == NameKind.free)=true
  ·obtain ⟨c,hc⟩:=h (n,k) Γn (by simpa using hk)
   have hcell:cellOf env n=pure c:=by
    have hc':env.cells.lookup n=some c:=hc
    unfold cellOf; rw [hc']
   have hc':env.cells.lookup n=some c:=hc
   simp only [hk,if_true,hcell,hc',Option.getD_some,pure_bind]
   exact ih _ fun p hp=>h p (Γh _ hp)
  ·simp only [hk,if_false,pure_bind,Γp]
   exact ih _ fun p hp=>h p (Γh _ hp)
theorem a3b {scope:Scope} {env:Env} (h:∀ p∈scope.names,p.2=.free→∃ c,env.cells.lookup p.1=some c):closureFor scope env=pure (a8r env.cells scope.names []):=by
 have q:=b4y (env:=env) scope.names [] h
 unfold closureFor
 first
  | exact (by rw [q]; rfl)
  | (simp only [bind_pure]; exact q)
theorem a4e {cells:List (Str×Addr)} {x:Str} {c:Addr}:∀ (names:List (Str×NameKind)) (acc:List (Str×Addr)),(∀ p∈names,p.2=.free→∃ c,cells.lookup p.1=some c)→(∀ y d,acc.lookup y=some d→cells.lookup y=some d) →
  (a8r cells names acc).lookup x=some c→cells.lookup x=some c
 | [],acc,_,ha,h=>ha x c h
 | (n,k) :: r,acc,hn,ha,h=>by
  unfold a8r at h
  split at h
  ·rename_i hk
   refine a4e r _ (fun p hp=>hn p (Γh _ hp)) (fun y d hy=>?_) h
   rw [List.lookup_cons] at hy
   obtain ⟨c',hc'⟩:=hn (n,k) Γn (by simpa using hk)
   have hc'':cells.lookup n=some c':=hc'
   split at hy
   ·rename_i hyn
    have e:y=n:=by simpa using hyn
    subst e
    rw [hc''] at hy ⊢
    exact hy
   ·exact ha y d hy
  ·exact a4e r _ (fun p hp=>hn p (Γh _ hp)) ha h
theorem b0h {cells:List (Str×Addr)} {x:Str}:∀ (names:List (Str×NameKind)) (acc:List (Str×Addr)),((x,NameKind.free)∈names ∨ ∃ c,acc.lookup x=some c)→∃ c,(a8r cells names acc).lookup x=some c
 | [],acc,h=>by
  rcases h with h | h
  ·simp at h
  ·exact h
 | (n,k) :: r,acc,h=>by
  unfold a8r
  split
  ·refine b0h r _ ?_
   by_cases hx:x=n
   ·subst hx
    exact .inr ⟨(cells.lookup x).getD 0,by rw [List.lookup_cons]; simp⟩
   ·rcases h with h | ⟨c,h⟩
    ·rcases List.mem_cons.mp h with h | h
     ·cases h; exact absurd rfl hx
     ·exact .inl h
    ·refine .inr ⟨c,?_⟩
     rw [List.lookup_cons]
     have:(x == n)=false:=by simpa using hx
     rw [this]
     exact h
  ·rename_i hk
   refine b0h r _ ?_
   rcases h with h | h
   ·rcases List.mem_cons.mp h with h | h
    ·cases h; simp at hk
    ·exact .inl h
   ·exact .inr h
theorem a3i {env : Env} {x : Str} : ∀ {names : List (Str × NameKind)},
    ((names.map fun (n, k) => if (k == NameKind.free && env.scope.kind == .function && env.kindOf n == some .cell) then (n, NameKind.cell) else (n, k)).lookup x = some .cell ∨
     (names.map fun (n, k) => if (k == NameKind.free && env.scope.kind == .function && env.kindOf n == some .cell) then (n, NameKind.cell) else (n, k)).lookup x = some .free) → names.lookup x = some .cell ∨ names.lookup x = some .free
  | [], h => by rcases h with h | h <;> simp at h
  | (n, k) :: r, h => by
    have ih := @a3i env x r
    rw [List.map_cons] at h
    rw [List.lookup_cons]
    by_cases hk : (k == NameKind.free && env.scope.kind == .function && env.kindOf n == some .cell) = true
    · simp only [hk, if_true] at h
      cases hx : x == n with
      | true =>
        have : k = .free := by simp only [Bool.and_eq_true] at hk; simpa using hk.1.1
        exact .inr (by rw [this])
      | false =>
        simp only [List.lookup_cons, hx] at h
        exact ih h
    · simp only [hk, if_false, Γp] at h
      cases hx : x == n with
      | true => simpa only [List.lookup_cons, hx] using h
      | false =>
        simp only [List.lookup_cons, hx] at h
        exact ih h
theorem a1b:∀ (names:List (Str×NameKind)) (b:Nat) (acc:List (Str×Addr)),cellsFrom b names acc=cellsFrom b names []++acc
 | [],_,_=>rfl
 | (n,k) :: r,b,acc=>by
  unfold cellsFrom
  split
  ·rw [a1b r _ ((n,b) :: acc),a1b r _ [(n,b)],List.append_assoc]; rfl
  ·exact a1b r b acc
theorem a3m:∀ (names:List (Str×NameKind)) (b:Nat) {x:Str} {c:Addr},(x,c)∈cellsFrom b names []→(x,NameKind.cell)∈names
 | [],_,_,_,h=>by simp [cellsFrom] at h
 | (n,k) :: r,b,x,c,h=>by
  unfold cellsFrom at h
  split at h
  ·rename_i hk
   rw [a1b] at h
   rcases List.mem_append.mp h with h | h
   ·exact Γh _ (a3m r _ h)
   ·simp at h
    have:k=.cell:=by simpa using hk
    rw [h.1,this]; exact Γn
  ·exact Γh _ (a3m r _ h)
theorem a9s {x:Str} {c:Addr}:∀ {l l':List (Str×Addr)},(l++l').lookup x=some c→l.lookup x=some c ∨ (l.lookup x=none∧l'.lookup x=some c)
 | [],_,h=>.inr ⟨rfl,h⟩
 | (n,d) :: r,l',h=>by
  rw [List.cons_append,List.lookup_cons] at h
  rw [List.lookup_cons]
  cases hx:x == n with
  | true=>rw [hx] at h; exact .inl h
  | false=>rw [hx] at h; exact a9s h
theorem b8p {x:Str}:∀ {l l':List (Str×Addr)},((∃ c,l.lookup x=some c) ∨ ∃ c,l'.lookup x=some c)→∃ c,(l++l').lookup x=some c
 | [],_,h=>by
  rcases h with ⟨c,h⟩ | h
  ·cases h
  ·exact h
 | (n,d) :: r,l',h=>by
  rw [List.cons_append,List.lookup_cons]
  cases hx:x == n with
  | true=>exact ⟨d,rfl⟩
  | false =>
   refine b8p ?_
   rcases h with ⟨c,h⟩ | h
   ·rw [List.lookup_cons,hx] at h; exact .inl ⟨c,h⟩
   ·exact .inr h
theorem a3j {M:Model} {A:Around} {E:Value→Shared→Prop} {s:Shared} {scope:Scope} {globals:Addr} {cl:List (Str×Addr)} {qual:Str} {env:Env} {Q:Env→Shared→Prop}
  (hQ:∀ h4:Heap,h4.Ns s.heap.objs.size (fun _=>none)→(∀ b o,s.heap.get? b=some o→h4.get? b=some o)→CellsOk h4 (s.heap.objs.size + 1) (cellsFrom (s.heap.objs.size + 1) scope.names []) →
   Q (newEnv scope s.heap.objs.size globals (cellsFrom (s.heap.objs.size + 1) scope.names cl) qual none .none (some env) builtinsNs) { s with heap:=h4,toks:=s.toks + ([]:List (Str×Value)).length }) :
  wpAny M A (newFunctionEnv scope globals cl [] qual none .none (some env)) Q E s:=by
 simp only [newFunctionEnv,Option.isSome_some,if_true]
 refine Γa (wpAny_alloc ?_)
 refine Γa (wpAny_layCells _ (fun name kind cells=>by cases hkc:kind == NameKind.cell <;> simp [hkc]) _ _ _ _ ?_)
 have ok:=cellsFrom_ok scope.names (s.heap.push { cls:=.type "dict",data:=.dict #[] }) (s.heap.objs.size + 1) [] ⟨fun _ _ hm=>(nomatch hm),List.Pairwise.nil⟩ (by rw [Heap.size_push]; exact Γi _)
 rw [Heap.size_push] at ok
 rw [show ({ s with heap:=s.heap.push { cls:=.type "dict",data:=.dict #[] } }:Shared).heap.objs.size=s.heap.objs.size + 1 from Heap.size_push ..]
 simp only [List.forIn_nil]
 exact Γa (Γb (Γb (hQ _ ((Heap.Ns.new s.heap (.type "dict")).keeps (pushCells_keeps _ _)) (fun b o e=>pushCells_keeps _ _ b o (Γc _ e)) ok)))
def d3z (x:Str):Str:=Γe "#"++x
def a9q (own:List Str) (x:Str):Str:=if own.contains x then d3z x else x
def cxC (X:Cx) (scope:Scope) (own:List Str) (fp:List Addr) (C:Addr) (s:Shared) (H:Hp):Cx :=
 { X with N:=X.N.map (a9q own)++own,s₀:=s,H₀:=H,env:=compEnvC scope (cellsFrom (C + 1) scope.names (a8r X.env.cells scope.names [])) C X.env,outer:=X.stack,stack:=X.stack,ex:=fp,fn:=fun x=>scope.names.lookup x == some .cell,pn:=[],xe:=fun _ _=>False }
structure CScope (X:Cx) (scope:Scope) (own:List Str):Prop where
 kind:scope.kind=.function
 nocell:∀ p∈scope.names,p.2=.cell→scope.names.lookup p.1=some .cell
 names:∀ p∈scope.names,p.2=.local→scope.names.lookup p.1=some .local
 free:∀ p∈scope.names,p.2=.free→X.env.kindOf p.1=some .cell ∨ X.env.kindOf p.1=some .free
 apart:∀ x∈X.N,own.contains x=false→scope.names.lookup x≠some .local∧scope.names.lookup x≠some .cell
 hid:∀ x∈X.N,own.contains x=true→scope.names.lookup (d3z x)=none
section
variable {X:Cx}
theorem a8g {names:List (Str×NameKind)} {x:Str} {k:NameKind} (h:names.lookup x=some k):(x,k)∈names:=PySem.mem_of_lookup h
theorem a4j {env:Env} {x:Str}:∀ {names:List (Str×NameKind)},
  (names.map fun (n,k)=>if (k == NameKind.free && env.scope.kind == .function && env.kindOf n == some .cell) then (n,NameKind.cell) else (n,k)).lookup x=some .local→names.lookup x=some .local
 | [],h=>by simp at h
 | (n,k) :: r,h=>by
  have ih:=@a4j env x r
  rw [List.map_cons] at h
  rw [List.lookup_cons]
  by_cases hk:(k == NameKind.free && env.scope.kind == .function && env.kindOf n == some .cell)=true
  ·simp only [hk,if_true] at h
   cases hx:x == n with
   | true=>simp [List.lookup_cons,hx] at h
   | false =>
    simp only [List.lookup_cons,hx] at h
    exact ih h
  ·simp only [hk,if_false,Γp] at h
   cases hx:x == n with
   | true=>simpa [List.lookup_cons,hx] using h
   | false =>
    simp only [List.lookup_cons,hx] at h
    exact ih h
theorem b0w {env:Env} {scope:Scope} {x:Str} (h:scope.names.lookup x=none):(relabel scope env).names.lookup x=none:=by
 unfold relabel
 simp only
 generalize scope.names=l at h
 induction l with
 | nil=>rfl
 | cons p r ih =>
  obtain ⟨n,k⟩:=p
  rw [List.lookup_cons] at h
  cases e:(x == n) with
  | true=>rw [e] at h; cases h
  | false =>
   rw [e] at h
   rw [List.map_cons]
   split
   ·rw [List.lookup_cons,e]; exact ih h
   ·rw [List.lookup_cons,e]; exact ih h
theorem b0a {scope:Scope} {own:List Str} {fp:List Addr} {pins:List (Addr×Obj)} {σ:St} {H:Hp} {s:Shared} {h4:Heap} {t4:Nat} (I:Inv X pins σ H s) (SC:CScope X scope own) (hc:X.calm=true)
  (hf:∀ b∈fp,b0k X pins H b) (hfo:∀ b∈fp,∃ o,s.heap.get? b=some o)
  (hns:h4.Ns s.heap.objs.size (fun _=>none)) (hk:∀ b o,s.heap.get? b=some o→h4.get? b=some o) (ok:CellsOk h4 (s.heap.objs.size + 1) (cellsFrom (s.heap.objs.size + 1) scope.names [])) :
  Inv (cxC X scope own fp s.heap.objs.size s H) [] (σ++Γj own.length none) H { s with heap:=h4,toks:=t4 }:=by
 have fr:∀ p∈scope.names,p.2=.free→∃ c,X.env.cells.lookup p.1=some c:=fun p hp hq=>I.ok.has p.1 (SC.free p hp hq)
 have cl0:∀ {x:Str} {c:Addr},(a8r X.env.cells scope.names []).lookup x=some c→X.env.cells.lookup x=some c:=fun h=>a4e scope.names [] fr (fun y d hy=>by simp at hy) h
 have cl:∀ {x:Str} {c:Addr},(cellsFrom (s.heap.objs.size + 1) scope.names (a8r X.env.cells scope.names [])).lookup x=some c→((x,c)∈cellsFrom (s.heap.objs.size + 1) scope.names []∧s.heap.objs.size + 1≤c) ∨ X.env.cells.lookup x=some c:=fun h=>by
  rw [a1b] at h
  rcases a9s h with z | z
  ·exact .inl ⟨PySem.mem_of_lookup z,(ok.empty _ _ (PySem.mem_of_lookup z)).2⟩
  ·exact .inr (cl0 z.2)
 have hasC:∀ {x:Str},(scope.names.lookup x=some .cell ∨ scope.names.lookup x=some .free)→∃ c,(cellsFrom (s.heap.objs.size + 1) scope.names (a8r X.env.cells scope.names [])).lookup x=some c:=fun {x} h=>by
  rw [a1b]
  refine b8p ?_
  rcases h with h | h
  ·exact .inl (Option.isSome_iff_exists.mp (PySem.W.cellsFrom_some _ _ _ (.inl h)))
  ·exact .inr (b0h scope.names [] (.inl (a8g h)))
 have clt:∀ {x:Str} {c:Addr},X.env.cells.lookup x=some c→c < s.heap.objs.size:=fun h=>by obtain ⟨v,q⟩:=I.cell _ _ h; exact q.lt
 refine ⟨⟨I.ok.mod,SC.kind,I.ok.glob,I.ok.blt,Γi _,fun x y c h1 h2=>?_,fun x hx=>?_,fun x c hf' h=>?_,fun _=>I.ok.hd hc,I.ok.frames,.inl rfl,fun b hb=>?_,
   fun b o e=>I.bs b o e,Nat.le_trans I.ok.bsz I.sz,fun b o e hb=>?_,fun b hb hz=>?_,I.stack,I.stkFree⟩,
  rfl,I.bare,Un.kept hk,⟨_,hns,fun i x v e1 e2 e3=>?_⟩,fun x c h=>?_,I.fresh,fun x c h=>(cl h).elim (fun z=>I.hok.fresh (by lia)) (I.freeC x c),fun p hp=>absurd (show p∈([]:List (Addr×Obj)) from hp) (by simp),I.hok.kept hk,?_⟩
 ·rcases cl h1 with z1 | z1 <;> rcases cl h2 with z2 | z2
  ·exact name_of_addr ok.apart z1.1 z2.1
  ·exact absurd (clt z2) (Nat.not_lt.mpr (Nat.le_of_succ_le z1.2))
  ·exact absurd (clt z1) (Nat.not_lt.mpr (Nat.le_of_succ_le z2.2))
  ·exact I.ok.inj x y c z1 z2
 ·have hx:(relabel scope X.env).names.lookup x=some .cell ∨ (relabel scope X.env).names.lookup x=some .free:=hx
  exact hasC (a3i hx)
 ·have hf':(scope.names.lookup x == some .cell)=true:=hf'
  have h:(cellsFrom (s.heap.objs.size + 1) scope.names (a8r X.env.cells scope.names [])).lookup x=some c:=h
  obtain ⟨c',hc'⟩:=Option.isSome_iff_exists.mp (PySem.W.cellsFrom_some scope.names (s.heap.objs.size + 1) [] (.inl (by simpa using hf')))
  rw [a1b] at h
  rcases a9s h with z | z
  ·have:=(ok.empty _ _ (PySem.mem_of_lookup z)).2
   show s.heap.objs.size≤c
   lia
  ·rw [hc'] at z; cases z.1
 ·have hb:b∈fp:=hb
  obtain ⟨o,ho⟩:=hfo b hb
  exact ⟨Γo (Γl ho),fun x c h=>(cl h).elim (fun z e=>absurd (e ▸ Γl ho:c < s.heap.objs.size) (Nat.not_lt.mpr (Nat.le_of_succ_le z.2))) ((hf b hb).2.2.2.2.1 x c)⟩
 ·have hb:b∈fp:=hb
  have e:X.base.get? b=some o:=e
  rcases (hf b hb).2.2.2.1 with z | z
  ·exact I.ok.noex b o e z
  ·exact absurd (Nat.lt_of_lt_of_le (Γl e) (Nat.le_trans I.ok.bsz z)) (Nat.lt_irrefl _)
 ·have hb:b∈fp:=hb
  have hz:b∈frs X.stack:=hz
  rcases List.mem_cons.mp (I.stkSub b hz) with z | z
  ·exact (hf b hb).2.1 z
  ·exact (hf b hb).2.2.1 z
 ·have e1:(X.N.map (a9q own)++own)[i]?=some x:=e1
  have e3:Vis (relabel scope X.env) x:=e3
  have hi:i < σ.length:=by
   by_cases hi:i < σ.length
   ·exact hi
   ·rw [List.getElem?_append_right (by lia),List.getElem?_replicate] at e2
    split at e2 <;> cases e2
  rw [List.getElem?_append_left hi] at e2
  rw [List.getElem?_append_left (by rw [List.length_map,← I.len]; exact hi),List.getElem?_map] at e1
  obtain ⟨y,e1,ey⟩:=Option.map_eq_some_iff.mp e1
  have hny:own.contains y=false:=by
   cases hy:own.contains y with
   | false=>rfl
   | true =>
    exfalso
    have hh:=SC.hid y (List.mem_of_getElem? e1) hy
    have ex:x=d3z y:=by rw [← ey]; unfold a9q; rw [if_pos hy]
    rw [← ex] at hh
    have e4:(relabel scope X.env).names.lookup x=none:=b0w hh
    rcases e3 with z | z | z <;> (rw [e4] at z; cases z)
  have ex:x=y:=by rw [← ey]; unfold a9q; rw [if_neg (by rw [hny]; exact Γk)]
  rw [← ex] at e1 hny
  have hnl:(relabel scope X.env).names.lookup x≠some .local:=fun z=>(SC.apart x (List.mem_of_getElem? e1) hny).1 (a4j z)
  have hv:(relabel scope X.env).names.lookup x=some .cell ∨ (relabel scope X.env).names.lookup x=some .free:=by
   rcases e3 with z | z | z
   ·exact absurd z hnl
   ·exact .inl z
   ·exact .inr z
  have hfr:scope.names.lookup x=some .free:=(a3i hv).resolve_left (SC.apart x (List.mem_of_getElem? e1) hny).2
  have hm:=a8g hfr
  have hkx:=SC.free (x,.free) hm rfl
  obtain ⟨m,hn,hl⟩:=I.loc
  have hkx':X.env.scope.names.lookup x=some .cell ∨ X.env.scope.names.lookup x=some .free:=hkx
  obtain ⟨u,r,l⟩:=hl i x v e1 e2 (hkx'.elim (fun z=>.inr (.inl z)) fun z=>.inr (.inr z))
  refine ⟨u,r,.inr ⟨hv,?_⟩⟩
  obtain ⟨c,hcl⟩:=hasC (.inr hfr)
  refine ⟨c,hcl,?_⟩
  rcases l with ⟨z,_⟩ | ⟨z,c',hc',q⟩
  ·rcases hkx with y | y <;> (rw [z] at y; cases y)
  ·rcases cl hcl with y | y
   ·have:=SC.nocell _ (a3m _ _ y.1) rfl
    rw [hfr] at this; cases this
   ·rw [hc'] at y; cases y
    obtain ⟨o,ho,hd⟩:=q
    exact ⟨o,hk _ _ ho,hd⟩
 ·rcases cl h with z | z
  ·exact ⟨_,(ok.empty _ _ z.1).1⟩
  obtain ⟨v,o,ho,hd⟩:=I.cell x c z
  exact ⟨v,o,hk _ _ ho,hd⟩
 ·show (σ++Γj own.length none).length=(X.N.map (a9q own)++own).length
  rw [List.length_append,List.length_append,List.length_map,List.length_replicate,I.len]
end
def a6m (ifs:List Expr) (env:Env):Sem Bool :=
 forIn ifs true fun c r=>if r=true then do let ok ← isTrue c env (eval c env); pure (ForInStep.yield ok) else pure (ForInStep.yield r)
def PTs (X:Cx) (ifs:List Expr) (t:TT):Prop :=
 ∀ (pins:List (Addr×Obj)) (s:Shared) (σ:St) (H:Hp) (Q:Bool→Hp→Prop),Inv X pins σ H s→t σ H Q→wpAny (model X.prog X.w) X.A (a6m ifs X.env) (TP X pins σ Q) X.xe s
theorem a6l {M:Model} {A:Around} {E:Value→Shared→Prop} {env:Env} {Q:Bool→Shared→Prop} {s:Shared} (h:Q false s):∀ ifs:List Expr,
  wpAny M A (forIn ifs false fun c r=>if r=true then do let ok ← isTrue c env (eval c env); pure (ForInStep.yield ok) else pure (ForInStep.yield r)) Q E s
 | []=>Γb h
 | c :: r=>by
  rw [List.forIn_cons]
  simp only [Γp,if_false]
  exact Γa (Γb (a6l h r))
section
variable {X:Cx}
def d4x:TT:=fun _ H Q=>Q true H
theorem b7s:PTs X [] d4x:=fun _ _ _ H _ I h=>Γb ⟨H,I,h⟩
theorem c2f {c:Expr} {r:List Expr} {t u:TT} (h1:PT X c t) (h2:PTs X r u):PTs X (c :: r) (fun σ H Q=>t σ H fun b H1=>if b=true then u σ H1 Q else Q false H1):=by
 intro pins s σ H Q I h
 unfold a6m
 rw [List.forIn_cons]
 simp only [if_true]
 refine Γa (Γa (thn (h1 pins s σ H _ I h) fun b s1 ⟨H1,I1,q1⟩=>Γb ?_))
 cases b with
 | true =>
  rw [if_pos rfl] at q1
  exact h2 pins s1 σ H1 Q I1 q1
 | false =>
  rw [if_neg Γk] at q1
  exact a6l ⟨H1,I1,q1⟩ r
end
section
variable {prog:Program} {w:World} {A:Around} {R:Result→Shared→Prop} {s:Shared}
theorem b6b {elt target iter:Expr} {ifs:List Expr} {scope:Scope} {pos:Pos} {it acc:Value} {env:Env} (I:Nat→Shared→Prop)
  (turn:∀ n s,I n s→wpAny (model prog w) A (pyNext it) (fun r s1=>match r with
   | none=>R (.ok .next) s1
   | some v=>wpAny (model prog w) A (letOwnedTupleGo target it v) (fun _ s2=>wpAny (model prog w) A (assign target env v) (fun _ s3=>wpAny (model prog w) A (a6m ifs env) (fun ok s4 =>
     if ok=true then wpAny (model prog w) A (eval elt env) (fun x s5=>wpAny (model prog w) A (call (.builtin "list.append") [acc,x]) (fun _ s6=>∃ m,m < n∧I m s6) (fun _ _=>False) s5) (fun _ _=>False) s4
     else ∃ m,m < n∧I m s4) (fun _ _=>False) s3) (fun _ _=>False) s2) (fun _ _=>False) s1) (fun _ _=>False) s)
  (n:Nat) (h:I n s):codeAny (model prog w) A (.compLoop (.ListComp elt [⟨target,iter,ifs,0⟩] scope pos) 0 it acc env) R s:=by
 refine codeAny_loop rfl I (fun n s hI=>?_) n h
 show wpAny _ A ((compTurn (.ListComp elt [⟨target,iter,ifs,0⟩] scope pos) 0 it acc env).onRaise (fun x=>do noteFrame x env; theTreesLotGoes x)) _ _ s
 refine wpAny_noted ?_
 rw [compTurn_list]
 have no:∀ (e:Value) (s':Shared),(fun (_:Value) (_:Shared)=>False) e s'→notedBy (model prog w) A env (fun e s'=>R (.error e) s') e s':=fun _ _ z=>z.elim
 refine Γa (wpAny_standAt (Γa (wpAny_mono (turn n s hI) (fun r s1 h1=>?_) no)))
 cases r with
 | none=>exact Γb h1
 | some v =>
  refine Γa (wpAny_mono h1 (fun _ s2 h2=>Γa (wpAny_mono h2 (fun _ s3 h3=>Γa (wpAny_mono h3 (fun ok s4 h4=>?_) no)) no)) no)
  cases ok with
  | true =>
   rw [if_pos rfl] at h4
   simp only [if_true]
   exact Γa (Γa (wpAny_mono h4 (fun x s5 h5=>Γa (wpAny_mono h5 (fun _ s6 h6=>Γb (Γb ⟨rfl,h6⟩)) no)) no))
  | false =>
   rw [if_neg Γk] at h4
   simp only [Γp,if_false]
   first
    | exact Γb ⟨rfl,h4⟩
    | exact Γa (Γb (Γb ⟨rfl,h4⟩))
end
def Wk (σ σ2:St):Prop:=σ2.length=σ.length∧∀ (j:Nat) (v:V),σ[j]?=some (some v)→σ2[j]?=some (some v)
def c5w (wi:TI) (g:TG) (tt:TT) (te:TE) (own:Nat):TE:=fun σ H Q=>wi σ H fun J H1=>∀ acc,H1 acc=none→∃ W:Nat→Nat→Hp→Prop,(∃ m,W 0 m (upd H1 acc (.lst [])))∧∀ i m H,W i m H →
 (J.stop i H∧Q (.ref acc) H) ∨ (J.go i H∧∀ x H',J.yld i H x H'→g x (σ++Γj own none) H' fun σ2 H2=>Wk (σ++Γj own none) σ2∧tt σ2 H2 fun b H3 =>
  if b=true then te σ2 H3 fun v H4=>∃ ys,H4 acc=some (.lst ys)∧ys.length < sizeLine∧∃ m',m' < m∧W (i + 1) m' (upd H4 acc (.lst (ys++[v]))) else ∃ m',m' < m∧W (i + 1) m' H3)
section
variable {X:Cx} {elt tg iter:Expr} {ifs:List Expr} {scope:Scope} {own:List Str} {pos:Pos} {wi:TI} {g:TG} {tt:TT} {te:TE}
theorem b4x {pins:List (Addr×Obj)} {σ:St} {H2:Hp} {s2:Shared} {Q:VK} {it:Addr} {fp:List Addr} {tn:Nat→Heap→Prop} {J:It} {RR:Value→Addr→Result→Shared→Prop}
  (hc:X.calm=true) (SC:CScope X scope own)
  (hblock:∀ C s H,PG (cxC X scope own fp C s H) tg g∧PTs (cxC X scope own fp C s H) ifs tt∧PE (cxC X scope own fp C s H) elt te)
  (I2:Inv X pins σ H2 s2) (T:Turn X.prog X.w X.K tg J fp it tn) (st2:tn 0 s2.heap) (f2:∀ b∈fp,b0k X pins H2 b)
  (h:∀ acc,H2 acc=none→∃ W:Nat→Nat→Hp→Prop,(∃ m,W 0 m (upd H2 acc (.lst [])))∧∀ i m H,W i m H →
   (J.stop i H∧Q (.ref acc) H) ∨ (J.go i H∧∀ x H',J.yld i H x H'→g x (σ++Γj own.length none) H' fun σ2 H2=>Wk (σ++Γj own.length none) σ2∧tt σ2 H2 fun b H3 =>
    if b=true then te σ2 H3 fun v H4=>∃ ys,H4 acc=some (.lst ys)∧ys.length < sizeLine∧∃ m',m' < m∧W (i + 1) m' (upd H4 acc (.lst (ys++[v]))) else ∃ m',m' < m∧W (i + 1) m' H3))
  (hRR:∀ acc C H' m s',Inv X pins σ H' s'→s'.heap.Ns C m→C≠X.env.locals→(∀ x c,X.env.cells.lookup x=some c→c≠C)→s2.heap.objs.size≤C→H' C=none→Q (.ref acc) H'→RR (.ref acc) C (.ok .next) s') {E:Value→Shared→Prop} :
  wpAny (model X.prog X.w) X.A (newList []) (fun acc s3=>wpAny (model X.prog X.w) X.A (newFunctionEnv scope X.env.globals (a8r X.env.cells scope.names []) [] X.env.qual none .none (some X.env)) (fun cenv s4 =>
   codeAny (model X.prog X.w) X.A (.compStart (.ListComp elt [⟨tg,iter,ifs,0⟩] scope pos) 0 (.ref it) acc { cenv with scope:=relabel scope X.env }) (RR acc cenv.locals) s4) E s3) E s2:=by
 have hacc:=I2.fresh
 have I3:Inv X pins σ (upd H2 s2.heap.objs.size (.lst [])) { s2 with heap:=s2.heap.push { cls:=.type "list",data:=.seq ([]:List Value).toArray },toks:=s2.toks }:=I2.lnew .nil (Nat.zero_le _)
 refine wpAny_newObj_type ?_
 obtain ⟨W,⟨m0,w0⟩,turn⟩:=h _ hacc
 generalize hs3:({ s2 with heap:=s2.heap.push { cls:=.type "list",data:=.seq ([]:List Value).toArray },toks:=s2.toks }:Shared)=s3 at I3
 have keep23:∀ b o,s2.heap.get? b=some o→s3.heap.get? b=some o:=fun b o e=>by rw [← hs3]; exact Γc _ e
 have hf3:∀ b∈fp,b0k X pins (upd H2 s2.heap.objs.size (.lst [])) b:=fun b hb=>by
  obtain ⟨o,ho,_⟩:=T.obj _ _ st2 b hb
  exact ⟨by rw [a0e (Γo (Γl ho))]; exact (f2 b hb).1,(f2 b hb).2⟩
 have st3:tn 0 s3.heap:=T.keep _ _ _ st2 fun b hb o e=>keep23 b o e
 refine a3j fun h4 hns' keep34 ok34=>?_
 have I4:=b0a (t4:=s3.toks + ([]:List (Str×Value)).length) I3 SC hc hf3 (fun b hb=>by obtain ⟨o,ho,_⟩:=T.obj _ _ st3 b hb; exact ⟨o,ho⟩) hns' keep34 ok34
 have st4:tn 0 h4:=T.keep _ _ _ st3 fun b hb o e=>keep34 b o e
 obtain ⟨hg,ht,he⟩:=hblock s3.heap.objs.size s3 (upd H2 s2.heap.objs.size (.lst []))
 have e5:(cxC X scope own fp s3.heap.objs.size s3 (upd H2 s2.heap.objs.size (.lst []))).env=compEnvC scope (cellsFrom (s3.heap.objs.size + 1) scope.names (a8r X.env.cells scope.names [])) s3.heap.objs.size X.env:=rfl
 generalize hY:cxC X scope own fp s3.heap.objs.size s3 (upd H2 s2.heap.objs.size (.lst []))=Y at hg ht he I4 e5
 have fpY:∀ {H':Hp},(∀ b∈fp,H' b=none)→∀ b∈fp,b0k Y [] H' b:=fun hn b hb=>by
  obtain ⟨o,ho,_⟩:=T.obj _ _ st3 b hb
  refine ⟨hn b hb,?_,?_,?_,?_,?_⟩
  ·rw [← hY]; exact Γo (Γl ho)
  ·have:=I4.ok.exfs b (by rw [← hY]; exact hb)
   exact this
  ·exact .inl (by rw [← hY]; exact hb)
  ·exact fun x c h=>(I4.ok.exf b (by rw [← hY]; exact hb)).2 x c h
  ·intro p hp; rw [← hY] at hp; exact absurd (show p∈([]:List (Addr×Obj)) from hp) (by simp)
 have hYp:Y.prog=X.prog∧Y.w=X.w∧Y.K=X.K∧Y.calm=true∧Y.A=X.A∧Y.xe=(fun _ _=>False)∧Y.s₀=s3∧Y.H₀=upd H2 s2.heap.objs.size (.lst [])∧Y.outer=X.stack∧Y.ex=fp:=by rw [← hY]; exact ⟨rfl,rfl,rfl,hc,rfl,rfl,rfl,rfl,rfl,rfl⟩
 obtain ⟨y1,y2,y3,y4,y5,y6,y7,y8,y9,y10⟩:=hYp
 have loop:∀ s5:Shared,s5 = { s3 with heap:=h4,toks:=s3.toks + ([]:List (Str×Value)).length } →
   codeAny (model X.prog X.w) X.A (.compLoop (.ListComp elt [⟨tg,iter,ifs,0⟩] scope pos) 0 (.ref it) (.ref s2.heap.objs.size) Y.env) (RR (.ref s2.heap.objs.size) s3.heap.objs.size) s5:=by
  rintro s5 rfl
  refine b6b (fun n s'=>∃ i H',Inv Y [] (σ++Γj own.length none) H' s'∧tn i s'.heap∧(∀ b∈fp,H' b=none)∧W i n H') ?_ m0 ⟨0,_,I4,st4,fun b hb=>(hf3 b hb).1,w0⟩
  rintro n s6 ⟨i,H6,I6,st6,fr6,w6⟩
  rcases turn i n H6 w6 with ⟨stop,q⟩ | ⟨go,step⟩
  ·have d:=T.done Y y1 y2 y3 y4 i [] s6 _ H6 (fun _ _=>False) I6 (fpY fr6) st6 stop
   rw [y5] at d
   refine thn d fun r s7 ⟨hr,I7⟩=>?_
   subst hr
   obtain ⟨m,hn,_⟩:=I7.loc
   have hL:Y.env.locals=s3.heap.objs.size:=by rw [e5]; rfl
   rw [hL] at hn
   have b7:=I7.base
   rw [y7,y8,y10] at b7
   have b7':Un (frs X.stack) fp (upd H2 s2.heap.objs.size (.lst [])) H6 s3.heap s7.heap:=by
    have z:Y.fs=frs X.stack:=by show frs Y.outer=_; rw [y9]
    rw [z] at b7
    exact b7
   have hok7:=I7.hok
   rw [y1,y2] at hok7
   have os7:=I7.os
   rw [y7] at os7
   have I8:Inv X pins σ H6 s7:=I3.call' os7 b7' hok7 I7.bare fun b hb=>⟨(hf3 b hb).2.2.2.1,(hf3 b hb).2.1,(hf3 b hb).2.2.2.2.1,(hf3 b hb).2.2.2.2.2⟩
   have hfree:=I7.free
   rw [hL] at hfree
   refine hRR _ _ H6 m s7 I8 hn (Nat.ne_of_gt I3.lt) (fun x c h z=>?_) ?_ hfree q
   ·obtain ⟨v,y⟩:=I3.cell x c h
    exact absurd y.lt (by rw [z]; exact Nat.lt_irrefl _)
   ·rw [← hs3,Heap.size_push]; exact Nat.le_succ _
  ·have d:=T.item Y y1 y2 y3 y4 i [] s6 _ H6 (fun _ _=>False) I6 (fpY fr6) st6 go
   rw [y5] at d
   refine thn d fun r s7 ⟨u,hr,h7⟩=>?_
   subst hr
   refine thn h7 fun _ s8 ⟨x,H8,I8,r8,y8',st8,fr8⟩=>?_
   have I8':=I8.pinned (fpY fr8) (T.obj _ _ st8)
   have pinK:∀ {σ':St} {H':Hp} {s':Shared},Inv Y ([]++a4l fp s8.heap) σ' H' s'→tn (i + 1) s'.heap∧∀ b∈fp,H' b=none:=fun {σ' H' s'} I' =>
    ⟨T.keep _ _ _ st8 fun b hb o e=>(I'.pin (b,o) (List.mem_append_right _ (List.mem_append_right _ (a1c hb e)))).1,fun b hb=>by
     obtain ⟨o,e,_⟩:=T.obj _ _ st8 b hb
     exact (I'.pin (b,o) (List.mem_append_right _ (List.mem_append_right _ (a1c hb e)))).2.1⟩
   have dg:=hg _ s8 _ H8 x u _ I8' r8 (step x H8 y8')
   rw [y1,y2,y5,y6] at dg
   refine thn dg fun _ s9 ⟨σ9,H9,I9,wk,q9⟩=>?_
   have dt:=ht _ s9 σ9 H9 _ I9 q9
   rw [y1,y2,y5,y6] at dt
   refine thn dt fun ok s10 ⟨H10,I10,q10⟩=>?_
   cases ok with
   | true =>
    rw [if_pos rfl] at q10 ⊢
    have de:=he _ s10 σ9 H10 _ I10 q10
    rw [y1,y2,y5,y6] at de
    refine thn de fun y s11 ⟨v11,H11,I11,r11,ys,hys,hz,m',hm,w11⟩=>?_
    have da:=a6v (X:=Y) _ s11 σ9 H11 (.ref s2.heap.objs.size) [v11] (.ref s2.heap.objs.size) [y] (fun _ H'=>H'=upd H11 s2.heap.objs.size (.lst (ys++[v11]))) I11 rfl (.cons r11 .nil) ⟨_,ys,v11,rfl,rfl,hys,hz,rfl⟩
    rw [y1,y2,y5,y6] at da
    refine thn da fun _ s12 ⟨v12,H12,I12,r12,e12⟩=>?_
    subst e12
    obtain ⟨t12,f12⟩:=pinK I12
    exact ⟨m',hm,i + 1,_,(I12.unpinned).weak wk.1.symm wk.2,t12,f12,w11⟩
   | false =>
    rw [if_neg Γk] at q10 ⊢
    obtain ⟨m',hm,w10⟩:=q10
    obtain ⟨t10,f10⟩:=pinK I10
    exact ⟨m',hm,i + 1,_,(I10.unpinned).weak wk.1.symm wk.2,t10,f10,w10⟩
 rw [e5] at loop
 exact codeAny_compStart_list (loop _ rfl) (T.self _ 0 _ _ _ st4 (loop _ rfl))
theorem b8a (hc:X.calm=true) (SC:CScope X scope own) (hi:PI X.nox tg iter wi)
  (hblock:∀ fp C s H,PG (cxC X scope own fp C s H) tg g∧PTs (cxC X scope own fp C s H) ifs tt∧PE (cxC X scope own fp C s H) elt te)
  (hs:∀ x,foldedSetIterable iter X.env x=pure x:=by intro _; rfl) :
  PE X.nox (.ListComp elt [⟨tg,iter,ifs,0⟩] scope pos) (c5w wi g tt te own.length):=by
 intro pins s σ H Q I h
 have fr:∀ p∈scope.names,p.2=.free→∃ c,X.env.cells.lookup p.1=some c:=fun p hp hq=>I.ok.has p.1 (SC.free p hp hq)
 rw [eval_ListComp]
 refine wpAny_comprehension_free (use:=none) rfl hs (a3b fr) SC.kind SC.names (thn (hi pins s σ H _ I h) fun v s1 h1=>thn h1 fun itv s2 h2=>?_)
 obtain ⟨it,fp,tn,J,H2,e,I2,T,st2,f2,h2⟩:=h2
 subst e
 refine b4x (X:=X.nox) (own:=own) (RR:=fun acc C=>compPost (model X.prog X.w) X.A (fun _ _=>False) none (EP X.nox pins σ Q) acc C) hc ⟨SC.kind,SC.nocell,SC.names,SC.free,SC.apart,SC.hid⟩ (fun C s H=>hblock fp C s H) I2 T st2 f2 h2 ?_
 intro acc C H' m s' I' hn hL hcl hC hH q
 obtain ⟨f0,f1,f2',f3,f4,f5⟩:=I2.fpOk hC hH
 refine ⟨m,hn,fun h' hsb=>⟨.ref acc,H',?_,rfl,q⟩⟩
 exact I'.turned (t':=s'.toks) (fun b o hb e=>(hsb.2 b hb).trans e) f0 f1 f3 f4 f5
theorem b5j {i:Nat} {x:Str} {px:Pos} {spos:Pos} (hc:X.calm=true) (SC:CScope X scope own) (hN:X.N.Nodup) (hx:X.N[i]?=some x) (hl:X.env.scope.names.lookup x=some .local) (hi:PI X.nox tg iter wi)
  (hblock:∀ fp C s H,PG (cxC X scope own fp C s H) tg g∧PTs (cxC X scope own fp C s H) ifs tt∧PE (cxC X scope own fp C s H) elt te)
  (hsw:swapsWith (.ListComp elt [⟨tg,iter,ifs,0⟩] scope pos) (some (.Name x px)) spos.line X.env=pure true)
  (hs:∀ x,foldedSetIterable iter X.env x=pure x:=by intro _; rfl) :
  PS X.nox (.Assign [.Name x px] (.ListComp elt [⟨tg,iter,ifs,0⟩] scope pos) spos) (c1c (c5w wi g tt te own.length) (a4v i)):=by
 intro pins s σ H D I h
 have fr:∀ p∈scope.names,p.2=.free→∃ c,X.env.cells.lookup p.1=some c:=fun p hp hq=>I.ok.has p.1 (SC.free p hp hq)
 show wpAny (model X.prog X.w) X.A (exec _ X.env) _ _ s
 rw [exec_Assign_Name_used _ _ _ _ hsw]
 refine Γa (wpAny_standAt (Γa ?_))
 show wpAny _ X.A (do let _ ← comprehension (.ListComp elt [⟨tg,iter,ifs,0⟩] scope pos) scope X.env _ (newList []) false (eval iter X.env) (some (assign (.Name x px) X.env))) _ _ s
 refine Γa (wpAny_mono (wpAny_comprehension_free (use:=some (assign (.Name x px) X.env)) (Q:=fun _ s'=>SP X.nox pins D .next s') rfl hs (a3b fr) SC.kind SC.names
  (thn (hi pins s σ H _ I h) fun v s1 h1=>thn h1 fun itv s2 h2=>?_)) (fun _ s' hq=>Γb (Γb hq)) fun _ _ e=>e)
 obtain ⟨it,fp,tn,J,H2,e,I2,T,st2,f2,h2⟩:=h2
 subst e
 refine b4x (X:=X.nox) (own:=own) (Q:=fun v H1=>a4v i v σ H1 D.nx) (RR:=fun acc C=>compPost (model X.prog X.w) X.A (fun _ _=>False) (some (assign (.Name x px) X.env)) (fun _ s'=>SP X.nox pins D .next s') acc C) hc ⟨SC.kind,SC.nocell,SC.names,SC.free,SC.apart,SC.hid⟩ (fun C s H=>hblock fp C s H) I2 T st2 f2 h2 ?_
 intro acc C H' m s' I' hn hL hcl hC hH q
 obtain ⟨f0,f1,f2',f3,f4,f5⟩:=I2.fpOk hC hH
 show wpAny (model X.prog X.w) X.A (assign (.Name x px) X.env (.ref acc)) _ _ s'
 refine wpAny_assign_Name (a6n (X:=X.nox) I' hN hx (.inl hl) (v:=.ref acc) rfl (fun s'' I'' hch=>?_) (.inr hl))
 obtain ⟨a,hsa,ha⟩:=hch
 have hCa:C≠a:=by
  rcases ha with z | z
  ·rw [z]; exact hL
  ·exact fun y=>hcl x a z y.symm
 refine ⟨m,hn.sameBut hsa hCa,fun h' hsb=>?_⟩
 exact ⟨_,H',I''.turned (t':=s''.toks) (fun b o hb e=>(hsb.2 b hb).trans e) f0 f1 f3 f4 f5,q⟩
end
end L2
end
section
namespace L2
open PySem PySem.Spec PyProof.Rows
section
variable {X:Cx} {pins:List (Addr×Obj)} {σ:St} {H:Hp} {s:Shared} {h':Heap}
theorem Inv.turnedNew {t':Nat} {ch:List Addr} {p:Addr} {o:HO} (I:Inv X pins σ H s) (hp:s.heap.objs.size≤p) (k:∀ b ob,b ∉ ch→s.heap.get? b=some ob→h'.get? b=some ob) (hf:∀ b∈ch,b0k X pins H b)
  (new:ObjOk X.prog X.w (upd H p o) h' p o):Inv X pins σ (upd H p o) { s with heap:=h',toks:=t' }:=by
 have hn:H p=none:=I.hok.fresh hp
 have nit:∀ b u,H b=some u→b ∉ ch:=fun b u e z=>by rw [(hf b z).1] at e; cases e
 have nep:∀ {b ob},s.heap.get? b=some ob→b≠p:=fun e=>Γo (Nat.lt_of_lt_of_le (Γl e) hp)
 refine I.step (g':=s.gens) (d':=s.drawn) (ch:=ch) (fun b hb=>⟨(hf b hb).2.2.2.1,(hf b hb).2.1,(hf b hb).2.2.2.2.1,(hf b hb).2.2.2.2.2⟩) (fun b ob _ _ hc e _=>k b ob hc e) (fun b ob _ _ hc e _=>⟨ob.slots,k b ob hc e⟩)
  (fun b ob hc e n=>by rw [a0e (nep e)]; exact n) (fun b ob hc e=>⟨ob,k b ob hc e⟩) (fun b xs e=>by rw [a0e (a0w e hn)]; exact e) (fun b u xs e=>by rw [a0e (a0w e hn)]; exact e)
  (fun b ps e=>⟨#[],by rw [a0e (a0w e hn),e]; simp⟩) (fun m hm=>?_) (fun b u e=>?_) I.bare
 ·obtain ⟨ob,es,ep,ho,r⟩:=hm
  exact ⟨ob,es,ep,k _ ob (fun z=>(hf _ z).2.1 rfl) ho,r⟩
 ·by_cases hb:b=p
  ·subst hb; rw [a0f] at e; cases e; exact new
  ·rw [a0e hb] at e
   refine (I.hok b u e).stay (fun c v hc q=>k c v ?_ q) (fun c q=>by rw [a0e (a0w q hn)]; exact q) fun c xs q=>by rw [a0e (a0w q hn)]; exact q
   rcases hc with z | z
   ·rw [z]; exact nit b u e
   ·exact nit c _ z
theorem Inv.turnedL {t':Nat} {ch:List Addr} (I:Inv X pins σ H s) (k:∀ b ob,b ∉ ch→s.heap.get? b=some ob→h'.get? b=some ob) (hf:∀ b∈ch,b0k X pins H b):Inv X pins σ H { s with heap:=h',toks:=t' }:=by
 have nit:∀ b u,H b=some u→b ∉ ch:=fun b u e z=>by rw [(hf b z).1] at e; cases e
 refine I.step (g':=s.gens) (d':=s.drawn) (ch:=ch) (fun b hb=>⟨(hf b hb).2.2.2.1,(hf b hb).2.1,(hf b hb).2.2.2.2.1,(hf b hb).2.2.2.2.2⟩) (fun b ob _ _ hc e _=>k b ob hc e) (fun b ob _ _ hc e _=>⟨ob.slots,k b ob hc e⟩)
  (fun _ _ _ _ n=>n) (fun b ob hc e=>⟨ob,k b ob hc e⟩) (fun _ _ e=>e) (fun _ _ _ e=>e) (fun b ps e=>⟨#[],by rw [e]; simp⟩) (fun m hm=>?_) (fun b u e=>?_) I.bare
 ·obtain ⟨ob,es,ep,ho,r⟩:=hm
  exact ⟨ob,es,ep,k _ ob (fun z=>(hf _ z).2.1 rfl) ho,r⟩
 ·refine (I.hok b u e).stay (fun c v hc q=>k c v ?_ q) (fun _ q=>q) fun _ _ q=>q
  rcases hc with z | z
  ·rw [z]; exact nit b u e
  ·exact nit c _ z
end
end L2
end
section
namespace L2
open PySem PySem.Spec PyProof.Rows
def SeqB (b:Bool) (h:Heap) (l:Addr) (xs:Array Value):Prop:=match b with | true=>h.IsList l xs | false=>h.IsTuple l xs
def IterB (b:Bool) (h:Heap) (it l:Addr) (i:Nat):Prop:=match b with | true=>h.IsListIter it l i | false=>h.IsTupleIter it l i
def a9y (b:Bool):String:=match b with | true=>"list_iterator" | false=>"tuple_iterator"
section
variable {b:Bool} {h h':Heap} {it l c:Addr} {i:Nat} {xs:Array Value}
theorem SeqB.move (x:SeqB b h l xs) (e:Heap.ExtBut c h h') (n:l≠c):SeqB b h' l xs:=by
 cases b
 ·exact Heap.IsTuple.extBut x e n
 ·exact Heap.IsList.extBut x e n
theorem SeqB.push {o:Obj} (x:SeqB b h l xs):SeqB b (h.push o) l xs:=by
 cases b
 ·exact Heap.IsTuple.push x o
 ·exact Heap.IsList.push x o
theorem SeqB.lt (x:SeqB b h l xs):l < h.objs.size:=by
 cases b <;> (obtain ⟨_,e,_⟩:=x; exact Γl e)
theorem IterB.move (x:IterB b h it l i) (e:Heap.ExtBut c h h') (n:it≠c):IterB b h' it l i:=by
 cases b
 ·exact Heap.IsTupleIter.extBut x e n
 ·exact Heap.IsListIter.extBut x e n
theorem IterB.to (x:IterB b h it l i) (k:∀ o,h.get? it=some o→h'.get? it=some o):IterB b h' it l i:=by
 cases b <;> (obtain ⟨o,e,r⟩:=x; exact ⟨o,k o e,r⟩)
theorem IterB.obj (x:IterB b h it l i):∃ o,h.get? it=some o∧∀ v,o.data≠.cell v:=by
 cases b <;> (obtain ⟨o,e,_,d⟩:=x; exact ⟨o,e,fun v z=>by rw [d] at z; cases z⟩)
theorem IterB.lt (x:IterB b h it l i):it < h.objs.size:=let ⟨_,e,_⟩:=x.obj; Γl e
end
section
variable {P:Program} {w:World} {A:Around} {E:Value→Shared→Prop} {s:Shared} {b:Bool} {it l:Addr} {i:Nat} {xs:Array Value} {Q:Value→Shared→Prop}
theorem b9e (x:SeqB b s.heap l xs) (q:Q (.ref s.heap.objs.size) { s with heap:=s.heap.push { cls:=.type (a9y b),data:=.fields #[.ref l,.int 0 0] } }):wpAny (model P w) A (pyIter (.ref l)) Q E s:=by
 cases b
 ·exact wpAny_pyIter_tuple x q
 ·exact wpAny_pyIter_list x q
theorem d6u {x:Value} (hi:s.heap.IsTupleIter it l i) (hl:s.heap.IsTuple l xs) (hx:xs[i]?=some x) (q:∀ h',h'.IsTupleIter it l (i + 1)→Heap.SameBut it s.heap h'→Q x { s with heap:=h' }):wpAny (model P w) A (Builtin.SmallTypes.nextOf (.ref it)) Q E s:=by
 obtain ⟨oi,ei,ci,di⟩:=id hi
 obtain ⟨os,es,_,ns,ds⟩:=hl
 unfold Builtin.SmallTypes.nextOf
 refine Γa (wpAny_callSpecial?_slot (name:=Γe "__next__") hi.typeIs F.slot_tuple_iterator_next (wpAny_call_entry F.slot_tuple_iterator_next hi.typeIs F.entry_tuple_iterator_next ?_ (F.args_tuple_iterator_next_1 _)))
 show wpAny _ _ (field (.ref it) 0 >>= _) _ _ s; refine Γa (wpAny_field ei di (x:=.ref l) rfl ?_)
 show wpAny _ _ (if (Value.ref l == Value.none)=true then _ else _) _ _ s; rw [if_neg (show ¬ ((Value.ref l == Value.none)=true) from Γk)]
 show wpAny _ _ (field (.ref it) 1 >>= _) _ _ s; refine Γa (wpAny_field ei di (x:=.int i 0) rfl ?_)
 show wpAny _ _ (seqItems? (.ref l) >>= _) _ _ s; refine Γa (wpAny_seqItems es ds ?_)
 simp only [Int.toNat_natCast,hx]
 refine Γa (wpAny_setField ei di (by simp) (Γb ⟨x,rfl,Γb (q _ ⟨_,Heap.get?_update_self _ ei (Obj.isFreed_of_fields (Obj.data_mapFields di _)),(Obj.cls_mapFields ..).trans ci,?_⟩ (Heap.SameBut.update ..))⟩))
 rw [Obj.data_mapFields di]; simp [rawInt]
theorem d5i (hh:A.handled=none) (hi:s.heap.IsTupleIter it l i) (hl:s.heap.IsTuple l xs) (hx:xs[i]?=none)
  (q:∀ h' e,Heap.ExtBut it s.heap h'→(∃ o,h'.get? e=some o∧o.cls=.type "StopIteration")→E (.ref e) { s with heap:=h' }):wpAny (model P w) A (Builtin.SmallTypes.nextOf (.ref it)) Q E s:=by
 obtain ⟨oi,ei,ci,di⟩:=id hi
 obtain ⟨os,es,_,ns,ds⟩:=hl
 unfold Builtin.SmallTypes.nextOf
 refine Γa (wpAny_callSpecial?_slot (name:=Γe "__next__") hi.typeIs F.slot_tuple_iterator_next (wpAny_call_entry F.slot_tuple_iterator_next hi.typeIs F.entry_tuple_iterator_next ?_ (F.args_tuple_iterator_next_1 _)))
 show wpAny _ _ (field (.ref it) 0 >>= _) _ _ s; refine Γa (wpAny_field ei di (x:=.ref l) rfl ?_)
 show wpAny _ _ (if (Value.ref l == Value.none)=true then _ else _) _ _ s; rw [if_neg (show ¬ ((Value.ref l == Value.none)=true) from Γk)]
 show wpAny _ _ (field (.ref it) 1 >>= _) _ _ s; refine Γa (wpAny_field ei di (x:=.int i 0) rfl ?_)
 show wpAny _ _ (seqItems? (.ref l) >>= _) _ _ s; refine Γa (wpAny_seqItems es ds ?_)
 simp only [Int.toNat_natCast,hx]
 refine Γa (wpAny_rule (Γa (wpAny_setField ei di (by simp) ?_))); show wpAny _ _ (newExc (.type "StopIteration") [] >>= _) _ _ _
 refine Γa ?_; simp only [newExc,newTuple]
 refine Γa (wpAny_newObj_type ?_ (by size_fits)); refine Γa (m:=firstArgMember _ _) (wpAny_of_eq (a:=Value.none) (by first | rfl | (simp only [firstArgMember]; rfl)) ?_)
 refine wpAny_newObj_type ?_ (by size_fits); simp only [raiseNew]; refine Γa (wpAny_handled ?_)
 first | rw [show A.in1.handled=none from hh] | rw [hh]
 exact Γa (Γb (wpAny_throw (q _ _ (((Heap.SameBut.update ..).extBut.push _).push _) ⟨_,Γm _ rfl,rfl⟩)))
theorem a7s {x:Value} (hi:IterB b s.heap it l i) (hl:SeqB b s.heap l xs) (hx:xs[i]?=some x) (q:∀ h',IterB b h' it l (i + 1)→Heap.SameBut it s.heap h'→Q x { s with heap:=h' }):wpAny (model P w) A (Builtin.SmallTypes.nextOf (.ref it)) Q E s:=by
 cases b
 ·exact d6u hi hl hx q
 ·exact wpAny_nextOf_list_item hi hl hx q
theorem b2j (hh:A.handled=none) (hi:IterB b s.heap it l i) (hl:SeqB b s.heap l xs) (hx:xs[i]?=none)
  (q:∀ h' e,Heap.ExtBut it s.heap h'→(∃ o,h'.get? e=some o∧o.cls=.type "StopIteration")→E (.ref e) { s with heap:=h' }):wpAny (model P w) A (Builtin.SmallTypes.nextOf (.ref it)) Q E s:=by
 cases b
 ·exact d5i hh hi hl hx q
 ·exact wpAny_nextOf_list_end hh hi hl hx q
end
section
variable {P:Program} {w:World} {A:Around} {E:Value→Shared→Prop} {s:Shared} {p q:Bool} {z TI TO i1 i2 l1 l2:Addr} {k1 k2:Nat} {xs ys:Array Value} {x y a b:Value}
theorem b6s {Q:Value→Shared→Prop} (D:ZipApart z TI TO i1 i2 l1 l2) (zz:IsZip s.heap z TI TO .none) (zi:IsPair s.heap TI (.ref i1) (.ref i2)) (zo:IsPair s.heap TO a b)
  (t1:IterB p s.heap i1 l1 k1) (t2:IterB q s.heap i2 l2 k2) (m1:SeqB p s.heap l1 xs) (m2:SeqB q s.heap l2 ys) (ex:xs[k1]?=some x) (ey:ys[k2]?=some y)
  (K:∀ h',IsZip h' z TI TO (rawInt s.heap.objs.size)→IsPair h' TO x y→IterB p h' i1 l1 (k1 + 1)→IterB q h' i2 l2 (k2 + 1)→IsPair h' s.heap.objs.size x y →
   (∀ c o,c≠z→c≠TO→c≠i1→c≠i2→s.heap.get? c=some o→h'.get? c=some o)→Q (.ref s.heap.objs.size) { s with heap:=h' }) :
  wpAny (model P w) A (Builtin.«zip.__next__» ⟨[.ref z],[]⟩) (fun fin s'=>∃ v,fin=.done (.ret v)∧Q v s') E s:=by
 show wpAny _ _ (field (.ref z) 2 >>= _) _ _ _; refine Γa (wpAny_field zz rfl (x:=.bool false) rfl ?_)
 show wpAny _ _ (field (.ref z) 3 >>= _) _ _ _; refine Γa (wpAny_field zz rfl (x:=.ref TI) rfl (Γa (wpAny_seqItems zi rfl ?_)))
 show wpAny _ _ (Builtin.SmallTypes.ownedTupleIsFree (.ref z) >>= _) _ _ _; refine Γa ?_; unfold Builtin.SmallTypes.ownedTupleIsFree
 refine Γa (wpAny_field zz rfl (x:=.none) rfl (Γb ?_)); simp only [if_true]
 refine Γa (wpAny_rule (Γa (wpAny_field zz rfl (x:=.ref TO) rfl (Γa (wpAny_setField_rec zz (by simp) fun g1 z1 b1=>?_)))))
 replace z1:IsZip g1 z TI TO .ellipsis:=z1
 refine Γa ?_; simp only [List.zipIdx_cons,List.zipIdx_nil,List.forIn_cons,List.forIn_nil]
 refine Γa (Γa (wpAny_onRaise ?_)); show wpAny _ _ (Builtin.SmallTypes.nextOf (.ref i1) >>= _) _ _ _
 refine Γa (a7s (t1.move b1.extBut D.i1z) (m1.move b1.extBut D.l1z) ex fun g2 t12 b2=>Γb ?_)
 have o2:IsPair g2 TO a b:=b2.extBut _ _ D.TOi1 (b1.extBut _ _ D.TOz zo)
 refine Γa (wpAny_seqItems o2 rfl (Γa (wpAny_updateSeq_pair o2 fun g3 o3 b3=>?_)))
 replace o3:IsPair g3 TO x b:=o3
 refine Γa (wpAny_letGo (Γb (Γa (Γa (wpAny_onRaise ?_))))); show wpAny _ _ (Builtin.SmallTypes.nextOf (.ref i2) >>= _) _ _ _
 refine Γa (a7s (((t2.move b1.extBut D.i2z).move b2.extBut D.i12.symm).move b3.extBut D.TOi2.symm) (((m2.move b1.extBut D.l2z).move b2.extBut D.l2i1).move b3.extBut D.l2TO) ey fun g4 t24 b4=>Γb ?_)
 have o4:IsPair g4 TO x b:=b4.extBut _ _ D.TOi2 o3
 refine Γa (wpAny_seqItems o4 rfl (Γa (wpAny_updateSeq_pair o4 fun g5 o5 b5=>?_)))
 replace o5:IsPair g5 TO x y:=o5
 refine Γa (wpAny_letGo (Γb (Γb (Γa (wpAny_seqItems o5 rfl (Γa (wpAny_newTuple ?_)))))))
 have sz:g5.objs.size=s.heap.objs.size:=by rw [b5.1,b4.1,b3.1,b2.1,b1.1]
 have z5:IsZip g5 z TI TO .ellipsis:=b5.extBut _ _ D.TOz.symm (b4.extBut _ _ D.i2z.symm (b3.extBut _ _ D.TOz.symm (b2.extBut _ _ D.i1z.symm z1)))
 have kk:∀ c o,c≠z→c≠TO→c≠i1→c≠i2→s.heap.get? c=some o→g5.get? c=some o:=fun c o c1 c2 c3 c4 e=>b5.extBut _ _ c2 (b4.extBut _ _ c4 (b3.extBut _ _ c2 (b2.extBut _ _ c3 (b1.extBut _ _ c1 e))))
 have t15:IterB p g5 i1 l1 (k1 + 1):=((t12.move b3.extBut D.TOi1.symm).move b4.extBut D.i12).move b5.extBut D.TOi1.symm
 have t25:IterB q g5 i2 l2 (k2 + 1):=t24.move b5.extBut D.TOi2.symm
 have zlt:z < g5.objs.size:=Γl z5
 show wpAny _ _ (Builtin.SmallTypes.ownedTupleHandOut (.ref z) (.ref g5.objs.size) >>= _) _ _ _; refine Γa ?_; unfold Builtin.SmallTypes.ownedTupleHandOut
 have z6:IsZip (g5.push { cls:=.type "tuple",data:=.seq #[x,y] }) z TI TO .ellipsis:=Γc _ z5
 refine Γa (wpAny_setField_rec z6 (by simp) fun g7 z7 b7=>?_); replace z7:IsZip g7 z TI TO (rawInt g5.objs.size):=z7
 refine wpAny_setField_rec z7 (by simp) fun g8 z8 b8=>?_; replace z8:IsZip g8 z TI TO (rawInt g5.objs.size):=z8
 have up:∀ c o,c≠z→g5.get? c=some o→g8.get? c=some o:=fun c o c1 e=>b8.extBut _ _ c1 (b7.extBut _ _ c1 (Γc _ e))
 have tt:IsPair g8 g5.objs.size x y:=b8.extBut _ _ (Nat.ne_of_gt zlt) (b7.extBut _ _ (Nat.ne_of_gt zlt) (Γm _ rfl))
 rw [sz] at z8 tt
 refine Γb ⟨_,rfl,?_⟩; show Q (.ref g5.objs.size) _; rw [sz]
 exact K g8 z8 (up _ _ D.TOz o5) (t15.to fun o e=>up _ o D.i1z e) (t25.to fun o e=>up _ o D.i2z e) tt fun c o c1 c2 c3 c4 e=>up c o c1 (kk c o c1 c2 c3 c4 e)
theorem c1g {Q:Fin→Shared→Prop} (hh:A.handled=none) (D:ZipApart z TI TO i1 i2 l1 l2) (zz:IsZip s.heap z TI TO .none) (zi:IsPair s.heap TI (.ref i1) (.ref i2)) (zo:IsPair s.heap TO a b)
  (t1:IterB p s.heap i1 l1 k1) (t2:IterB q s.heap i2 l2 k2) (m1:SeqB p s.heap l1 xs) (m2:SeqB q s.heap l2 ys) (en:xs[k1]?=none ∨ ys[k2]?=none)
  (K:∀ h' e,(∀ c o,c≠z→c≠TO→c≠i1→c≠i2→s.heap.get? c=some o→h'.get? c=some o)→(∃ o,h'.get? e=some o∧o.cls=.type "StopIteration")→E (.ref e) { s with heap:=h' }) :
  wpAny (model P w) A (Builtin.«zip.__next__» ⟨[.ref z],[]⟩) Q E s:=by
 show wpAny _ _ (field (.ref z) 2 >>= _) _ _ _; refine Γa (wpAny_field zz rfl (x:=.bool false) rfl ?_)
 show wpAny _ _ (field (.ref z) 3 >>= _) _ _ _; refine Γa (wpAny_field zz rfl (x:=.ref TI) rfl (Γa (wpAny_seqItems zi rfl ?_)))
 show wpAny _ _ (Builtin.SmallTypes.ownedTupleIsFree (.ref z) >>= _) _ _ _; refine Γa ?_; unfold Builtin.SmallTypes.ownedTupleIsFree
 refine Γa (wpAny_field zz rfl (x:=.none) rfl (Γb ?_)); simp only [if_true]
 refine Γa (wpAny_rule (Γa (wpAny_field zz rfl (x:=.ref TO) rfl (Γa (wpAny_setField_rec zz (by simp) fun g1 z1 b1=>?_)))))
 replace z1:IsZip g1 z TI TO .ellipsis:=z1
 refine Γa ?_; simp only [List.zipIdx_cons,List.zipIdx_nil,List.forIn_cons,List.forIn_nil]
 refine Γa (Γa (wpAny_onRaise ?_)); show wpAny _ _ (Builtin.SmallTypes.nextOf (.ref i1) >>= _) _ _ _
 have fin:∀ {g:Heap} {e:Addr} {o:Obj},IsZip g z TI TO .ellipsis→g.get? e=some o→o.cls=.type "StopIteration"→e≠z:=fun h1 h2 h3 x=>by subst x; rw [h1] at h2; cases h2; simp at h3
 cases hx:xs[k1]? with
 | none =>
  refine Γa (b2j hh (t1.move b1.extBut D.i1z) (m1.move b1.extBut D.l1z) hx fun g2 e b2 he=>?_)
  obtain ⟨oe,e1,e2⟩:=he
  have z2:IsZip g2 z TI TO .ellipsis:=b2 _ _ D.i1z.symm z1
  exact wpAny_setField_rec z2 (by simp) fun g3 _ b3=>K g3 e (fun c o c1 _ c3 _ x=>b3.extBut _ _ c1 (b2 _ _ c3 (b1.extBut _ _ c1 x))) ⟨oe,b3.extBut _ _ (fin z2 e1 e2) e1,e2⟩
 | some x =>
  have hy:ys[k2]?=none:=by rcases en with h | h; rw [hx] at h; cases h; exact h
  refine Γa (a7s (t1.move b1.extBut D.i1z) (m1.move b1.extBut D.l1z) hx fun g2 t12 b2=>Γb ?_)
  have o2:IsPair g2 TO a b:=b2.extBut _ _ D.TOi1 (b1.extBut _ _ D.TOz zo)
  refine Γa (wpAny_seqItems o2 rfl (Γa (wpAny_updateSeq_pair o2 fun g3 o3 b3=>Γa (wpAny_letGo (Γb (Γa (Γa (wpAny_onRaise ?_))))))))
  show wpAny _ _ (Builtin.SmallTypes.nextOf (.ref i2) >>= _) _ _ _
  refine Γa (b2j hh (((t2.move b1.extBut D.i2z).move b2.extBut D.i12.symm).move b3.extBut D.TOi2.symm) (((m2.move b1.extBut D.l2z).move b2.extBut D.l2i1).move b3.extBut D.l2TO) hy fun g4 e b4 he=>?_)
  obtain ⟨oe,e1,e2⟩:=he
  have z4:IsZip g4 z TI TO .ellipsis:=b4 _ _ D.i2z.symm (b3.extBut _ _ D.TOz.symm (b2.extBut _ _ D.i1z.symm z1))
  exact wpAny_setField_rec z4 (by simp) fun g5 _ b5=>K g5 e (fun c o c1 c2 c3 c4 x=>b5.extBut _ _ c1 (b4 _ _ c4 (b3.extBut _ _ c2 (b2.extBut _ _ c3 (b1.extBut _ _ c1 x))))) ⟨oe,b5.extBut _ _ (fin z4 e1 e2) e1,e2⟩
theorem b6r {Q:Option Value→Shared→Prop} (D:ZipApart z TI TO i1 i2 l1 l2) (zz:IsZip s.heap z TI TO .none) (zi:IsPair s.heap TI (.ref i1) (.ref i2)) (zo:IsPair s.heap TO a b)
  (t1:IterB p s.heap i1 l1 k1) (t2:IterB q s.heap i2 l2 k2) (m1:SeqB p s.heap l1 xs) (m2:SeqB q s.heap l2 ys) (ex:xs[k1]?=some x) (ey:ys[k2]?=some y)
  (K:∀ h',IsZip h' z TI TO (rawInt s.heap.objs.size)→IsPair h' TO x y→IterB p h' i1 l1 (k1 + 1)→IterB q h' i2 l2 (k2 + 1)→IsPair h' s.heap.objs.size x y →
   (∀ c o,c≠z→c≠TO→c≠i1→c≠i2→s.heap.get? c=some o→h'.get? c=some o)→Q (some (.ref s.heap.objs.size)) { s with heap:=h' }):wpAny (model P w) A (pyNext (.ref z)) Q E s:=by
 have ty:s.TypeIs (.ref z) "zip":=⟨_,zz,rfl⟩
 unfold pyNext
 exact Γa (wpAny_attempt (wpAny_callSpecial?_slot (name:=Γe "__next__") ty F.slot_zip_next (wpAny_call_entry F.slot_zip_next ty F.entry_zip_next (b6s D zz zi zo t1 t2 m1 m2 ex ey fun h' a1 a2 a3 a4 a5 a6=>Γb (K h' a1 a2 a3 a4 a5 a6)) (F.args_zip_next_1 _))))
theorem b6q {Q:Option Value→Shared→Prop} (hh:A.handled=none) (D:ZipApart z TI TO i1 i2 l1 l2) (zz:IsZip s.heap z TI TO .none) (zi:IsPair s.heap TI (.ref i1) (.ref i2)) (zo:IsPair s.heap TO a b)
  (t1:IterB p s.heap i1 l1 k1) (t2:IterB q s.heap i2 l2 k2) (m1:SeqB p s.heap l1 xs) (m2:SeqB q s.heap l2 ys) (en:xs[k1]?=none ∨ ys[k2]?=none)
  (K:∀ h',(∀ c o,c≠z→c≠TO→c≠i1→c≠i2→s.heap.get? c=some o→h'.get? c=some o)→Q none { s with heap:=h' }):wpAny (model P w) A (pyNext (.ref z)) Q E s:=by
 have ty:s.TypeIs (.ref z) "zip":=⟨_,zz,rfl⟩
 unfold pyNext
 refine Γa (wpAny_attempt (wpAny_callSpecial?_slot (name:=Γe "__next__") ty F.slot_zip_next (wpAny_call_entry F.slot_zip_next ty F.entry_zip_next (c1g hh D zz zi zo t1 t2 m1 m2 en fun h' e hk he=>?_) (F.args_zip_next_1 _))))
 obtain ⟨o,e1,e2⟩:=he
 exact Γa (wpAny_isInstance (T:="StopIteration") (b:=true) ⟨o,e1,e2⟩ isSubtype_stop (Γb (K _ hk)))
end
abbrev zb1 (p:Bool) (h:Heap) (l1:Addr):Heap:=h.push { cls:=.type (a9y p),data:=.fields #[.ref l1,.int 0 0] }
abbrev zb2 (p q:Bool) (h:Heap) (l1 l2:Addr):Heap:=(zb1 p h l1).push { cls:=.type (a9y q),data:=.fields #[.ref l2,.int 0 0] }
abbrev zb3 (p q:Bool) (h:Heap) (l1 l2:Addr):Heap:=(zb2 p q h l1 l2).push { cls:=.type "tuple",data:=.seq #[.ref h.objs.size,.ref (zb1 p h l1).objs.size] }
abbrev zb4 (p q:Bool) (h:Heap) (l1 l2:Addr):Heap:=(zb3 p q h l1 l2).push { cls:=.type "tuple",data:=.seq #[.none,.none] }
abbrev zb5 (p q:Bool) (h:Heap) (l1 l2:Addr):Heap:=(zb4 p q h l1 l2).push { cls:=.type "zip",data:=.fields #[.none,.bool false,.bool false,.ref (zb2 p q h l1 l2).objs.size,.ref (zb3 p q h l1 l2).objs.size] }
theorem b5m (p q:Bool) (l1 l2:Addr) (xs ys:Array Value) :
  Meets (Builtin.«zip.__new__» ⟨[.type "zip",.ref l1,.ref l2],[]⟩) (fun _ R s=>SeqB p s.heap l1 xs∧SeqB q s.heap l2 ys∧R (.ok (.ret (.ref (zb4 p q s.heap l1 l2).objs.size))) { s with heap:=zb5 p q s.heap l1 l2 }) :=
 .of_wp fun prog w A R s h=>by
  obtain ⟨hp,g,d,tk,os⟩:=s; obtain ⟨m1,m2,h⟩:=h
  have hsub:=sub_zip
  have M1:SeqB p (Shared.heap ⟨hp,g,d,tk,os⟩) l1 xs:=m1
  have M2:SeqB q (Shared.heap ⟨hp.push { cls:=.type (a9y p),data:=.fields #[.ref l1,.int 0 0] },g,d,tk,os⟩) l2 ys:=SeqB.push m2
  wp_walk using b9e M1,b9e M2
  exact ⟨_,rfl,h⟩
section
variable {P:Program} {w:World} {A:Around} {E:Value→Shared→Prop} {s:Shared}
theorem b1w {p q:Bool} {l1 l2:Addr} {xs ys:Array Value} {Q:Value→Shared→Prop} (m1:SeqB p s.heap l1 xs) (m2:SeqB q s.heap l2 ys)
  (K:∀ h',IsZip h' (s.heap.objs.size + 4) (s.heap.objs.size + 2) (s.heap.objs.size + 3) .none→IsPair h' (s.heap.objs.size + 2) (.ref s.heap.objs.size) (.ref (s.heap.objs.size + 1)) →
   IsPair h' (s.heap.objs.size + 3) .none .none→IterB p h' s.heap.objs.size l1 0→IterB q h' (s.heap.objs.size + 1) l2 0→(∀ c o,s.heap.get? c=some o→h'.get? c=some o)→Q (.ref (s.heap.objs.size + 4)) { s with heap:=h' }) :
  wpAny (model P w) A (call (.type "zip") [.ref l1,.ref l2]) Q E s:=by
 refine callType_new F.called_zip (by decide) (F.typeCall_zip_2 _ _) (F.newCall_zip_2 _ _) (fun obj=>F.args_object_init_3 obj _ _) F.entry_zip_new (b5m p q l1 l2 xs ys) ⟨m1,m2,?_⟩
 have z1:(zb1 p s.heap l1).objs.size=s.heap.objs.size + 1:=Heap.size_push ..
 have z2:(zb2 p q s.heap l1 l2).objs.size=s.heap.objs.size + 2:=by rw [Heap.size_push,z1]
 have z3:(zb3 p q s.heap l1 l2).objs.size=s.heap.objs.size + 3:=by rw [Heap.size_push,z2]
 have z4:(zb4 p q s.heap l1 l2).objs.size=s.heap.objs.size + 4:=by rw [Heap.size_push,z3]
 have f5:(zb5 p q s.heap l1 l2).get? (zb4 p q s.heap l1 l2).objs.size=some _:=Γm _ rfl
 have f4:(zb5 p q s.heap l1 l2).get? (zb3 p q s.heap l1 l2).objs.size=some _:=Γc _ (Γm _ rfl)
 have f3:(zb5 p q s.heap l1 l2).get? (zb2 p q s.heap l1 l2).objs.size=some _:=Γc _ (Γc _ (Γm _ rfl))
 have f2:(zb5 p q s.heap l1 l2).get? (zb1 p s.heap l1).objs.size=some _:=Γc _ (Γc _ (Γc _ (Γm _ rfl)))
 have f1:(zb5 p q s.heap l1 l2).get? s.heap.objs.size=some _:=Γc _ (Γc _ (Γc _ (Γc _ (Γm _ rfl))))
 show _∧_
 rw [z2,z3,z4] at f5; rw [z1,z2] at f3; rw [z3] at f4; rw [z1] at f2; rw [z4]
 refine ⟨⟨_,f5,rfl⟩,K _ f5 f3 f4 ?_ ?_ fun c o x=>Γc _ (Γc _ (Γc _ (Γc _ (Γc _ x))))⟩
 ·cases p <;> exact ⟨_,f1,rfl,rfl⟩
 ·cases q <;> exact ⟨_,f2,rfl,rfl⟩
end
end L2
end
section
namespace L2
open PySem PySem.Spec PyProof.Rows
open AutoSeq1 (wpAny_loadPart')
section
variable {P:Program} {w:World} {A:Around} {E:Value→Shared→Prop} {s:Shared} {p:Bool} {e it l:Addr} {i:Nat} {xs:Array Value} {x old:Value}
theorem b5z {Q:Value→Shared→Prop} (ee:IsEnum s.heap e it i old) (t1:IterB p s.heap it l i) (m1:SeqB p s.heap l xs) (ex:xs[i]?=some x) (ne:e≠it)
  (K:∀ h',IsEnumOut h' e it ((i:Int) + 1) x s.heap.objs.size→IterB p h' it l (i + 1)→h'.get? s.heap.objs.size=some { cls:=.type "tuple",data:=.seq #[.int i s.toks,x] } →
   (∀ b o,b≠e→b≠it→s.heap.get? b=some o→h'.get? b=some o)→Q (.ref s.heap.objs.size) { s with heap:=h',toks:=s.toks + 1 }) :
  wpAny (model P w) A (Builtin.«enumerate.__next__» ⟨[.ref e],[]⟩) (fun fin s'=>∃ v,fin=.done (.ret v)∧Q v s') E s:=by
 obtain ⟨hp,g,d,tk,os⟩:=s
 show wpAny _ _ (field (.ref e) 2 >>= _) _ _ _; refine Γa (wpAny_field ee rfl (x:=.ref it) rfl (Γa (a7s t1 m1 ex fun g1 t11 b1=>?_)))
 replace b1:Heap.SameBut it hp g1:=b1
 have e1:IsEnum g1 e it i old:=(b1.2 e ne).trans ee
 show wpAny _ _ (field (.ref e) 3 >>= _) _ _ ⟨g1,g,d,tk,os⟩; refine Γa (wpAny_field e1 rfl (x:=rawInt i) rfl ?_)
 show wpAny _ _ (field (.ref e) 4 >>= _) _ _ ⟨g1,g,d,tk,os⟩; refine Γa (wpAny_field e1 rfl (x:=.none) rfl ?_)
 show wpAny _ _ (mkInt i >>= _) _ _ ⟨g1,g,d,tk,os⟩; refine Γa (wpAny_mkInt ?_)
 show wpAny _ _ (setField (.ref e) 3 (rawInt ((i:Int) + 1)) >>= _) _ _ ⟨g1,g,d,tk + 1,os⟩; refine Γa (wpAny_setField_rec e1 (by simp) fun g2 e2 b2=>?_)
 replace b2:Heap.SameBut e g1 g2:=b2
 replace e2:IsEnum g2 e it ((i:Int) + 1) old:=e2
 show wpAny _ _ (setField (.ref e) 4 .none >>= _) _ _ ⟨g2,g,d,tk + 1,os⟩; refine Γa (wpAny_setField_rec e2 (by simp) fun g3 e3 b3=>?_)
 replace b3:Heap.SameBut e g2 g3:=b3
 replace e3:IsEnum g3 e it ((i:Int) + 1) old:=e3
 show wpAny _ _ (newTuple [.int i tk,x] >>= _) _ _ ⟨g3,g,d,tk + 1,os⟩; refine Γa (wpAny_newTuple ?_)
 have e4:IsEnum (g3.push { cls:=.type "tuple",data:=.seq #[.int i tk,x] }) e it ((i:Int) + 1) old:=Γc _ e3
 generalize hg4:g3.push { cls:=.type "tuple",data:=.seq #[.int i tk,x] } = g4 at e4
 have sz:g3.objs.size=hp.objs.size:=by rw [b3.1,b2.1,b1.1]
 have el:e < hp.objs.size:=Γl ee
 have t4:g4.get? hp.objs.size=some { cls:=.type "tuple",data:=.seq #[.int i tk,x] }:=by rw [← hg4,← sz]; exact Γm _ rfl
 have k4:∀ b o,b≠e→b≠it→hp.get? b=some o→g4.get? b=some o:=fun b o c1 c2 h=>by rw [← hg4]; exact Γc _ (b3.extBut b o c1 (b2.extBut b o c1 (b1.extBut b o c2 h)))
 have i4:IterB p g4 it l (i + 1):=by
  rw [← hg4]; exact ((t11.move b2.extBut (Ne.symm ne)).move b3.extBut (Ne.symm ne)).to fun o h=>Γc _ h
 show wpAny _ _ (Builtin.SmallTypes.ownedTupleIsFree (.ref e) >>= _) _ _ ⟨g4,g,d,tk + 1,os⟩
 rw [sz]
 clear hg4 e3 b3 e2 b2 e1 b1 t11 sz g3 g2 g1
 refine Γa ?_; unfold Builtin.SmallTypes.ownedTupleIsFree
 refine Γa (wpAny_field e4 rfl (x:=.none) rfl (Γb ?_)); simp only [if_true]
 refine Γa (wpAny_rule (Γa (wpAny_field e4 rfl (x:=old) rfl (Γa (wpAny_setField_rec e4 (by simp) fun g5 e5 b5=>?_)))))
 replace b5:Heap.SameBut e g4 g5:=b5
 replace e5:IsEnum g5 e it ((i:Int) + 1) x:=e5
 show wpAny _ _ (Builtin.SmallTypes.ownedTupleHandOut (.ref e) (.ref hp.objs.size) >>= _) _ _ ⟨g5,g,d,tk + 1,os⟩; refine Γa ?_; unfold Builtin.SmallTypes.ownedTupleHandOut
 refine Γa (wpAny_setField_rec e5 (by simp) fun g6 e6 b6=>?_)
 replace b6:Heap.SameBut e g5 g6:=b6
 replace e6:IsEnumOut g6 e it ((i:Int) + 1) x hp.objs.size:=e6
 refine wpAny_setField_rec e6 (by simp) fun g7 e7 b7=>?_
 replace b7:Heap.SameBut e g6 g7:=b7
 replace e7:IsEnumOut g7 e it ((i:Int) + 1) x hp.objs.size:=e7
 refine Γa (wpAny_letGo (Γb ⟨_,rfl,K g7 e7 (((i4.move b5.extBut (Ne.symm ne)).move b6.extBut (Ne.symm ne)).move b7.extBut (Ne.symm ne)) ?_ fun b o c1 c2 h=>b7.extBut b o c1 (b6.extBut b o c1 (b5.extBut b o c1 (k4 b o c1 c2 h)))⟩))
 exact b7.extBut _ _ (Nat.ne_of_gt el) (b6.extBut _ _ (Nat.ne_of_gt el) (b5.extBut _ _ (Nat.ne_of_gt el) t4))
theorem b5y {Q:Option Value→Shared→Prop} (ee:IsEnum s.heap e it i old) (t1:IterB p s.heap it l i) (m1:SeqB p s.heap l xs) (ex:xs[i]?=some x) (ne:e≠it)
  (K:∀ h',IsEnumOut h' e it ((i:Int) + 1) x s.heap.objs.size→IterB p h' it l (i + 1)→h'.get? s.heap.objs.size=some { cls:=.type "tuple",data:=.seq #[.int i s.toks,x] } →
   (∀ b o,b≠e→b≠it→s.heap.get? b=some o→h'.get? b=some o)→Q (some (.ref s.heap.objs.size)) { s with heap:=h',toks:=s.toks + 1 }):wpAny (model P w) A (pyNext (.ref e)) Q E s:=by
 have ty:s.TypeIs (.ref e) "enumerate":=⟨_,ee,rfl⟩
 unfold pyNext
 exact Γa (wpAny_attempt (wpAny_callSpecial?_slot (name:=Γe "__next__") ty F.slot_enumerate_next (wpAny_call_entry F.slot_enumerate_next ty F.entry_enumerate_next (b5z ee t1 m1 ex ne fun h' a b c d=>Γb (K h' a b c d)) (F.args_enumerate_next_1 _))))
theorem b5x {Q:Option Value→Shared→Prop} (hh:A.handled=none) (ee:IsEnum s.heap e it i old) (t1:IterB p s.heap it l i) (m1:SeqB p s.heap l xs) (ex:xs[i]?=none) (K:∀ h',Heap.ExtBut it s.heap h'→Q none { s with heap:=h' }):wpAny (model P w) A (pyNext (.ref e)) Q E s:=by
 have ty:s.TypeIs (.ref e) "enumerate":=⟨_,ee,rfl⟩
 unfold pyNext
 refine Γa (wpAny_attempt (wpAny_callSpecial?_slot (name:=Γe "__next__") ty F.slot_enumerate_next (wpAny_call_entry F.slot_enumerate_next ty F.entry_enumerate_next ?_ (F.args_enumerate_next_1 _))))
 show wpAny _ _ (field (.ref e) 2 >>= _) _ _ _; refine Γa (wpAny_field ee rfl (x:=.ref it) rfl (Γa (b2j hh t1 m1 ex fun h' v k hv=>?_)))
 obtain ⟨o,e1,e2⟩:=hv
 exact Γa (wpAny_isInstance (T:="StopIteration") (b:=true) ⟨o,e1,e2⟩ isSubtype_stop (Γb (K _ k)))
end
theorem b2y (p:Bool) (l:Addr) (xs:Array Value) :
  Meets (Builtin.«enumerate.__new__» ⟨[.type "enumerate",.ref l],[]⟩) (fun _ R s=>SeqB p s.heap l xs ∧
   R (.ok (.ret (.ref (zb1 p s.heap l).objs.size))) { s with heap:=(zb1 p s.heap l).push { cls:=.type "enumerate",data:=.fields #[.none,.bool false,.ref s.heap.objs.size,rawInt 0,.none,.none] } }) :=
 .of_wp fun prog w A R s h=>by
  obtain ⟨hp,g,d,tk,os⟩:=s; obtain ⟨m1,h⟩:=h
  have hsub:=sub_enumerate
  have M1:SeqB p (Shared.heap ⟨hp,g,d,tk,os⟩) l xs:=m1
  have hob:∃ o,hp.get? l=some o:=by cases p <;> (obtain ⟨o,e,_⟩:=m1; exact ⟨o,e⟩)
  obtain ⟨ob,hl⟩:=hob
  wp_walk using wpAny_loadPart' hl
  refine wpAny_stack_any fun st=>Γb ?_
  split
  ·rename_i c _ _ _ _ _
   cases (c == Value.type "enumerate")
   ·wp_walk using wpAny_loadPart' hl,b9e M1
    exact ⟨_,rfl,h⟩
   ·wp_walk using wpAny_loadPart' hl,b9e M1
    exact ⟨_,rfl,h⟩
  ·wp_walk using wpAny_loadPart' hl,b9e M1
   exact ⟨_,rfl,h⟩
section
variable {P:Program} {w:World} {A:Around} {E:Value→Shared→Prop} {s:Shared}
theorem b6g {p:Bool} {l:Addr} {xs:Array Value} {Q:Value→Shared→Prop} (m1:SeqB p s.heap l xs)
  (K:∀ h',IsEnum h' (s.heap.objs.size + 1) s.heap.objs.size 0 .none→IterB p h' s.heap.objs.size l 0→(∀ b o,s.heap.get? b=some o→h'.get? b=some o)→Q (.ref (s.heap.objs.size + 1)) { s with heap:=h' }) :
  wpAny (model P w) A (call (.type "enumerate") [.ref l]) Q E s:=by
 refine callType_new F.called_enumerate (by decide) (F.typeCall_enumerate_1 _) (F.newCall_enumerate_1 _) (fun obj=>F.args_object_init_2 obj _) F.entry_enumerate_new (b2y p l xs) ⟨m1,?_⟩
 have z1:(zb1 p s.heap l).objs.size=s.heap.objs.size + 1:=Heap.size_push ..
 show _∧_
 rw [z1]
 have f2:IsEnum ((zb1 p s.heap l).push { cls:=.type "enumerate",data:=.fields #[.none,.bool false,.ref s.heap.objs.size,rawInt 0,.none,.none] }) (s.heap.objs.size + 1) s.heap.objs.size 0 .none:=by
  have:=Γm (zb1 p s.heap l) (o:={ cls:=.type "enumerate",data:=.fields #[.none,.bool false,.ref s.heap.objs.size,rawInt 0,.none,.none] }) rfl
  rw [z1] at this; exact this
 refine ⟨⟨_,f2,rfl⟩,K _ f2 ?_ fun b o x=>Γc _ (Γc _ x)⟩
 cases p <;> exact ⟨_,Γc _ (Γm _ rfl),rfl,rfl⟩
end
def SqB (b:Bool) (K:Γd) (H:Hp) (a:Addr) (xs:List V):Prop:=match b with | true=>SqL K H a xs | false=>SqT K H a xs
section
variable {X:Cx} {pins:List (Addr×Obj)} {σ:St} {H:Hp} {s:Shared} {a:Addr} {xs ys:List V} {b:Bool}
theorem Inv.seqB (I:Inv X pins σ H s) (h:SqB b X.K H a xs):∃ its:List Value,Vals xs its∧SeqB b s.heap a its.toArray∧xs.length=its.length:=by
 cases b
 ·obtain ⟨its,r,q,_⟩:=I.tuple h
  exact ⟨its,r,q,r.length⟩
 ·obtain ⟨its,r,q,_⟩:=I.list h
  exact ⟨its,r,q.isList,r.length⟩
theorem Inv.seqB_inj (I:Inv X pins σ H s) (h:SqB b X.K H a xs) (h':SqB b X.K H a ys):xs=ys:=by
 cases b
 ·exact I.tuple_inj h h'
 ·exact I.list_inj h h'
end
def Iz2 (K : Γd) (p q : Bool) (a b : Addr) : It :=
  ⟨fun i H => ∃ xs ys x y, SqB p K H a xs ∧ SqB q K H b ys ∧ xs[i]? = some x ∧ ys[i]? = some y,
   fun i H v H' => ∃ c, H c = none ∧ v = .ref c ∧ ∀ xs ys x y, SqB p K H a xs → SqB q K H b ys → xs[i]? = some x → ys[i]? = some y → H' = upd H c (.tup [x, y]),
   fun i H => ∃ xs ys, SqB p K H a xs ∧ SqB q K H b ys ∧ (xs.length ≤ i ∨ ys.length ≤ i)⟩
def Ien (K : Γd) (p : Bool) (a : Addr) : It :=
  ⟨fun i H => ∃ xs x, SqB p K H a xs ∧ xs[i]? = some x,
   fun i H v H' => ∃ c, H c = none ∧ v = .ref c ∧ ∀ xs x, SqB p K H a xs → xs[i]? = some x → H' = upd H c (.tup [.int i, x]),
   fun i H => ∃ xs, SqB p K H a xs ∧ xs.length ≤ i⟩
theorem c5q {P:Program} {w:World} {K:Γd} {p q:Bool} {elts:List Expr} {k:Nat} {pos:Pos} {a b z TI TO i1 i2:Addr} (D:ZipApart z TI TO i1 i2 a b) :
  Turn P w K (.Tuple elts k pos) (Iz2 K p q a b) [z,TO,i1,i2,TI] z (fun i h=>IsZip h z TI TO .none∧IsPair h TI (.ref i1) (.ref i2)∧(∃ c d,IsPair h TO c d)∧IterB p h i1 a i∧IterB q h i2 b i) where
 mem:=by simp
 obj:=fun i h st c hc=>by
  obtain ⟨zz,zi,⟨x,y,zo⟩,t1,t2⟩:=st
  simp only [List.mem_cons,List.not_mem_nil,or_false] at hc
  rcases hc with rfl | rfl | rfl | rfl | rfl
  ·exact ⟨_,zz,fun v z=>by cases z⟩
  ·exact ⟨_,zo,fun v z=>by cases z⟩
  ·exact t1.obj
  ·exact t2.obj
  ·exact ⟨_,zi,fun v z=>by cases z⟩
 keep:=fun i h h' st kk=>by
  obtain ⟨zz,zi,⟨x,y,zo⟩,t1,t2⟩:=st
  exact ⟨kk z (by simp) _ zz,kk TI (by simp) _ zi,⟨x,y,kk TO (by simp) _ zo⟩,t1.to fun o e=>kk i1 (by simp) o e,t2.to fun o e=>kk i2 (by simp) o e⟩
 item:=by
  intro X hP hw hK hc i pins s σ H E I hf st hg
  subst hP hw hK
  obtain ⟨xs,ys,x,y,q1,q2,hx,hy⟩:=hg
  obtain ⟨zz,zi,⟨u0,v0,zo⟩,t1,t2⟩:=st
  obtain ⟨its,rv,m1,_⟩:=I.seqB q1
  obtain ⟨jts,rw',m2,_⟩:=I.seqB q2
  obtain ⟨u,hu,ru⟩:=rv.get hx
  obtain ⟨u',hu',ru'⟩:=rw'.get hy
  refine b6r D zz zi zo t1 t2 m1 m2 (x:=u) (y:=u') (by simpa using hu) (by simpa using hu') fun h' a1 a2 a3 a4 a5 hk=>?_
  refine ⟨_,rfl,wpAny_letOwnedTupleGo_zip a1 fun h'' z'' hs''=>?_⟩
  have szn:z≠s.heap.objs.size:=Γo (Γl zz)
  have T'':IsPair h'' s.heap.objs.size u u':=hs''.extBut _ _ (Ne.symm szn) a5
  have I1:Inv X pins σ (upd H s.heap.objs.size (.tup [x,y])) { s with heap:=h'' }:=I.turnedNew (t':=s.toks) (ch:=[z,TO,i1,i2]) (Γi _)
   (fun c ob hc e=>by simp only [List.mem_cons,List.not_mem_nil,or_false,not_or] at hc; exact hs''.extBut _ _ hc.1 (hk c ob hc.1 hc.2.1 hc.2.2.1 hc.2.2.2 e))
   (fun c hc=>hf c (by simp only [List.mem_cons,List.not_mem_nil,or_false] at hc ⊢; rcases hc with z | z | z | z <;> simp [z])) ⟨by show 2≤sizeLine; decide,[u,u'],.cons ru (.cons ru' .nil),⟨_,T'',rfl,_,rfl⟩⟩
  refine ⟨.ref s.heap.objs.size,_,I1,rfl,⟨_,I.fresh,rfl,fun xs' ys' x' y' r1 r2 hx' hy'=>?_⟩,⟨z'',hs''.extBut _ _ D.TIz (hk _ _ D.TIz D.TITO D.TIi1 D.TIi2 zi),⟨_,_,hs''.extBut _ _ D.TOz a2⟩,a3.move hs''.extBut D.i1z,a4.move hs''.extBut D.i2z⟩,fun c hc=>?_⟩
  ·have e1:=I.seqB_inj r1 q1
   have e2:=I.seqB_inj r2 q2
   subst e1 e2
   rw [hx] at hx'; rw [hy] at hy'; cases hx'; cases hy'; rfl
  ·have:c≠s.heap.objs.size:=by
    have hlt:c < s.heap.objs.size:=by
     simp only [List.mem_cons,List.not_mem_nil,or_false] at hc
     rcases hc with rfl | rfl | rfl | rfl | rfl
     ·exact Γl zz
     ·exact Γl zo
     ·exact t1.lt
     ·exact t2.lt
     ·exact Γl zi
    exact Γo hlt
   rw [a0e this]; exact (hf c hc).1
 done:=by
  intro X hP hw hK hc i pins s σ H E I hf st hg
  subst hP hw hK
  obtain ⟨xs,ys,q1,q2,hx⟩:=hg
  obtain ⟨zz,zi,⟨u0,v0,zo⟩,t1,t2⟩:=st
  obtain ⟨its,rv,m1,l1⟩:=I.seqB q1
  obtain ⟨jts,rw',m2,l2⟩:=I.seqB q2
  refine b6q (I.ok.hd hc) D zz zi zo t1 t2 m1 m2 (hx.elim (fun z=>.inl (by simp; lia)) fun z=>.inr (by simp; lia)) fun h' hk=>⟨rfl,?_⟩
  exact I.turnedL (t':=s.toks) (ch:=[z,TO,i1,i2]) (fun c ob hc e=>by simp only [List.mem_cons,List.not_mem_nil,or_false,not_or] at hc; exact hk c ob hc.1 hc.2.1 hc.2.2.1 hc.2.2.2 e)
   (fun c hc=>hf c (by simp only [List.mem_cons,List.not_mem_nil,or_false] at hc ⊢; rcases hc with z | z | z | z <;> simp [z]))
 self:=fun _ _ _ _ _ st h=>wpAny_pyIter_zip st.1 h
theorem c5s {P:Program} {w:World} {K:Γd} {p:Bool} {elts:List Expr} {k:Nat} {pos:Pos} {a e it:Addr} (ne:e≠it) :
  Turn P w K (.Tuple elts k pos) (Ien K p a) [e,it] e (fun i h=>(∃ old,IsEnum h e it i old)∧IterB p h it a i) where
 mem:=by simp
 obj:=fun i h st c hc=>by
  obtain ⟨⟨old,ee⟩,t1⟩:=st
  simp only [List.mem_cons,List.not_mem_nil,or_false] at hc
  rcases hc with rfl | rfl
  ·exact ⟨_,ee,fun v z=>by cases z⟩
  ·exact t1.obj
 keep:=fun i h h' st kk=>by
  obtain ⟨⟨old,ee⟩,t1⟩:=st
  exact ⟨⟨old,kk e (by simp) _ ee⟩,t1.to fun o q=>kk it (by simp) o q⟩
 item:=by
  intro X hP hw hK hc i pins s σ H E I hf st hg
  subst hP hw hK
  obtain ⟨xs,x,q1,hx⟩:=hg
  obtain ⟨⟨old,ee⟩,t1⟩:=st
  obtain ⟨its,rv,m1,_⟩:=I.seqB q1
  obtain ⟨u,hu,ru⟩:=rv.get hx
  refine b5y ee t1 m1 (x:=u) (by simpa using hu) ne fun h' a1 a2 a3 hk=>?_
  refine ⟨_,rfl,wpAny_letOwnedTupleGo_enum a1 fun h'' z'' hs''=>?_⟩
  have szn:e≠s.heap.objs.size:=Γo (Γl ee)
  have T'':=hs''.extBut _ _ (Ne.symm szn) a3
  have I1:Inv X pins σ (upd H s.heap.objs.size (.tup [.int i,x])) { s with heap:=h'',toks:=s.toks + 1 }:=I.turnedNew (t':=s.toks + 1) (ch:=[e,it]) (Γi _)
   (fun c ob hc q=>by simp only [List.mem_cons,List.not_mem_nil,or_false,not_or] at hc; exact hs''.extBut _ _ hc.1 (hk c ob hc.1 hc.2 q))
   (fun c hc=>hf c hc) ⟨by show 2≤sizeLine; decide,[.int i s.toks,u],.cons ⟨_,rfl⟩ (.cons ru .nil),⟨_,T'',rfl,_,rfl⟩⟩
  refine ⟨.ref s.heap.objs.size,_,I1,rfl,⟨_,I.fresh,rfl,fun xs' x' r1 hx'=>?_⟩,⟨⟨_,z''⟩,a2.move hs''.extBut (Ne.symm ne)⟩,fun c hc=>?_⟩
  ·have e1:=I.seqB_inj r1 q1
   subst e1
   rw [hx] at hx'; cases hx'; rfl
  ·have:c≠s.heap.objs.size:=by
    have hlt:c < s.heap.objs.size:=by
     simp only [List.mem_cons,List.not_mem_nil,or_false] at hc
     rcases hc with rfl | rfl
     ·exact Γl ee
     ·exact t1.lt
    exact Γo hlt
   rw [a0e this]; exact (hf c hc).1
 done:=by
  intro X hP hw hK hc i pins s σ H E I hf st hg
  subst hP hw hK
  obtain ⟨xs,q1,hx⟩:=hg
  obtain ⟨⟨old,ee⟩,t1⟩:=st
  obtain ⟨its,rv,m1,l1⟩:=I.seqB q1
  refine b5x (I.ok.hd hc) ee t1 m1 (by simp; lia) fun h' hk=>⟨rfl,?_⟩
  exact I.turnedL (t':=s.toks) (ch:=[it]) (fun c ob hc q=>hk c ob (by simpa using hc) q) (fun c hc=>hf c (by simp at hc; simp [hc]))
 self:=fun _ _ _ _ _ st h=>wpAny_pyIter_enum st.1.choose_spec h
section
variable {X:Cx}
def iZ2 (K:Γd) (ta:TA):TI:=fun σ H R=>ta σ H fun vs H1=>∃ p q a b,vs=[.ref a,.ref b]∧(∃ xs,SqB p K H1 a xs)∧(∃ ys,SqB q K H1 b ys)∧R (Iz2 K p q a b) H1
theorem d0r {elts:List Expr} {k:Nat} {tp:Pos} {e1 e2:Expr} {ta:TA} {p pos:Pos} (hg:Gl X "zip") (hm:X.mg "zip" = none) (ha:PA X [e1,e2] ta)
  (hs:starEach [e1,e2] X.env=[(false,eval e1 X.env),(false,eval e2 X.env)]) (hs2:starEach [e2] X.env=[(false,eval e2 X.env)]):PI X (.Tuple elts k tp) (.Call (.Name "zip" p) [e1,e2] [] pos) (iZ2 X.K ta):=by
 intro pins s σ H R I h
 refine wpAny_Call_Name_kw (a4r I hg hm PyProof.Rows.boot_zip ?_ (by decide) (by decide))
 refine PyProof.Rows.callWith_type1 (thn (ha pos pins s σ H _ I h) fun us s1 ⟨vs,H1,I1,r1,q1⟩=>?_) (by rw [hs,hs2]) (by rw [hs2]; rfl)
 obtain ⟨p,q,a,b,e,⟨xs,hq1⟩,⟨ys,hq2⟩,kk⟩:=q1
 subst e
 obtain ⟨u1,u2,rfl,ra,rb⟩:=b6v r1
 cases ra; cases rb
 obtain ⟨its,rv,m1,_⟩:=I1.seqB hq1
 obtain ⟨jts,rw',m2,_⟩:=I1.seqB hq2
 refine b1w m1 m2 fun h' zz zi zo t1 t2 hk=>wpAny_pyIter_zip (f0:=.none) zz ?_
 have I2:Inv X pins σ H1 { s1 with heap:=h' }:=I1.kept (t':=s1.toks) fun c o e=>hk c o e
 refine ⟨_,_,_,Iz2 X.K p q a b,H1,rfl,I2,c5q (zipApart_new m1.lt m2.lt),⟨zz,zi,⟨_,_,zo⟩,t1,t2⟩,fun c hc=>?_,kk⟩
 have hge:s1.heap.objs.size≤c:=by
  simp only [List.mem_cons,List.not_mem_nil,or_false] at hc
  rcases hc with rfl | rfl | rfl | rfl | rfl <;> first | exact Γi _ | exact Nat.le_add_right _ _
 exact I1.fpOk hge (I1.hok.fresh hge)
def iEn (K:Γd) (ta:TA):TI:=fun σ H R=>ta σ H fun vs H1=>∃ p a,vs=[.ref a]∧(∃ xs,SqB p K H1 a xs)∧R (Ien K p a) H1
theorem d6h {elts:List Expr} {k:Nat} {tp:Pos} {e1:Expr} {ta:TA} {p pos:Pos} (hg:Gl X "enumerate") (hm:X.mg "enumerate" = none) (ha:PA X [e1] ta) (hs:starEach [e1] X.env=[(false,eval e1 X.env)]) :
  PI X (.Tuple elts k tp) (.Call (.Name "enumerate" p) [e1] [] pos) (iEn X.K ta):=by
 intro pins s σ H R I h
 refine wpAny_Call_Name_kw (a4r I hg hm PyProof.Rows.boot_enumerate ?_ (by decide) (by decide))
 refine PyProof.Rows.callWith_type1 (thn (ha pos pins s σ H _ I h) fun us s1 ⟨vs,H1,I1,r1,q1⟩=>?_) (by rw [hs]; rfl) rfl
 obtain ⟨p,a,e,⟨xs,hq1⟩,kk⟩:=q1
 subst e
 obtain ⟨u1,rfl,ra⟩:=a3t r1
 cases ra
 obtain ⟨its,rv,m1,_⟩:=I1.seqB hq1
 refine b6g m1 fun h' ee t1 hk=>wpAny_pyIter_enum ee ?_
 have I2:Inv X pins σ H1 { s1 with heap:=h' }:=I1.kept (t':=s1.toks) fun c o e=>hk c o e
 refine ⟨_,_,_,Ien X.K p a,H1,rfl,I2,c5s (Nat.ne_of_gt (Nat.lt_succ_self _)),⟨⟨_,ee⟩,t1⟩,fun c hc=>?_,kk⟩
 have hge:s1.heap.objs.size≤c:=by
  simp only [List.mem_cons,List.not_mem_nil,or_false] at hc
  rcases hc with rfl | rfl <;> first | exact Γi _ | exact Nat.le_add_right _ _
 exact I1.fpOk hge (I1.hok.fresh hge)
end
end L2
end
section
namespace L2
open PySem PySem.Spec PyProof.Rows
section
variable {prog:Program} {w:World} {A:Around} {R:Result→Shared→Prop} {s:Shared}
theorem b3h {kx vx target iter:Expr} {ifs:List Expr} {scope:Scope} {pos:Pos} {it:Value} {D:Addr} {env:Env} (I:Nat→Shared→Prop)
  (turn:∀ n s,I n s→wpAny (model prog w) A (pyNext it) (fun r s1=>match r with
   | none=>R (.ok .next) s1
   | some v=>wpAny (model prog w) A (letOwnedTupleGo target it v) (fun _ s2=>wpAny (model prog w) A (assign target env v) (fun _ s3=>wpAny (model prog w) A (a6m ifs env) (fun ok s4 =>
     if ok=true then wpAny (model prog w) A (eval kx env) (fun kv s5=>wpAny (model prog w) A (eval vx env) (fun vv s6=>wpAny (model prog w) A (dictSet D kv vv) (fun _ s7=>∃ m,m < n∧I m s7) (fun _ _=>False) s6) (fun _ _=>False) s5) (fun _ _=>False) s4
     else ∃ m,m < n∧I m s4) (fun _ _=>False) s3) (fun _ _=>False) s2) (fun _ _=>False) s1) (fun _ _=>False) s)
  (n:Nat) (h:I n s):codeAny (model prog w) A (.compLoop (.DictComp kx vx [⟨target,iter,ifs,0⟩] scope pos) 0 it (.ref D) env) R s:=by
 refine codeAny_loop rfl I (fun n s hI=>?_) n h
 show wpAny _ A ((compTurn (.DictComp kx vx [⟨target,iter,ifs,0⟩] scope pos) 0 it (.ref D) env).onRaise (fun x=>do noteFrame x env; theTreesLotGoes x)) _ _ s
 refine wpAny_noted ?_
 rw [compTurn_dict]
 have no:∀ (e:Value) (s':Shared),(fun (_:Value) (_:Shared)=>False) e s'→notedBy (model prog w) A env (fun e s'=>R (.error e) s') e s':=fun _ _ z=>z.elim
 refine Γa (wpAny_standAt (Γa (wpAny_mono (turn n s hI) (fun r s1 h1=>?_) no)))
 cases r with
 | none=>exact Γb h1
 | some v =>
  refine Γa (wpAny_mono h1 (fun _ s2 h2=>Γa (wpAny_mono h2 (fun _ s3 h3=>Γa (wpAny_mono h3 (fun ok s4 h4=>?_) no)) no)) no)
  cases ok with
  | true =>
   rw [if_pos rfl] at h4
   simp only [if_true]
   exact Γa (Γa (wpAny_mono h4 (fun kv s5 h5=>Γa (Γg (wpAny_mono h5 (fun vv s6 h6=>Γa (wpAny_standAt (Γg (wpAny_mono h6 (fun _ s7 h7=>Γb ⟨rfl,h7⟩) no)))) no))) no))
  | false =>
   rw [if_neg Γk] at h4
   simp only [Γp,if_false]
   first
    | exact Γb ⟨rfl,h4⟩
    | exact Γa (Γb (Γb ⟨rfl,h4⟩))
end
def c9o (wi:TI) (g:TG) (tt:TT) (tk tv:TE) (own:Nat):TE:=fun σ H Q=>wi σ H fun J H1=>∀ acc,H1 acc=none→∃ W:Nat→Nat→Hp→Prop,(∃ m,W 0 m (upd H1 acc (.dT [])))∧∀ i m H,W i m H →
 (J.stop i H∧Q (.ref acc) H) ∨ (J.go i H∧∀ x H',J.yld i H x H'→g x (σ++Γj own none) H' fun σ2 H2=>Wk (σ++Γj own none) σ2∧tt σ2 H2 fun b H3 =>
  if b=true then tk σ2 H3 fun y H4=>tv σ2 H4 fun v H5=>∃ kvs k b,H5 acc=some (.dT kvs)∧y=.ref b∧H5 b=some (.tup (k.map kV))∧kvs.length < sizeLine∧∃ m',m' < m∧W (i + 1) m' (upd H5 acc (.dT (a5e kvs k v))) else ∃ m',m' < m∧W (i + 1) m' H3)
section
variable {X:Cx} {kx vx tg iter:Expr} {ifs:List Expr} {scope:Scope} {own:List Str} {pos:Pos} {wi:TI} {g:TG} {tt:TT} {tk tv:TE}
theorem c0r {pins:List (Addr×Obj)} {σ:St} {H2:Hp} {s2:Shared} {Q:VK} {it:Addr} {fp:List Addr} {tn:Nat→Heap→Prop} {J:It} {RR:Value→Addr→Result→Shared→Prop}
  (hu:X.A.units + 1 < cLine) (hc:X.calm=true) (SC:CScope X scope own)
  (hblock:∀ C s H,PG (cxC X scope own fp C s H) tg g∧PTs (cxC X scope own fp C s H) ifs tt∧PE (cxC X scope own fp C s H) kx tk∧PE (cxC X scope own fp C s H) vx tv)
  (I2:Inv X pins σ H2 s2) (T:Turn X.prog X.w X.K tg J fp it tn) (st2:tn 0 s2.heap) (f2:∀ b∈fp,b0k X pins H2 b)
  (h:∀ acc,H2 acc=none→∃ W:Nat→Nat→Hp→Prop,(∃ m,W 0 m (upd H2 acc (.dT [])))∧∀ i m H,W i m H →
   (J.stop i H∧Q (.ref acc) H) ∨ (J.go i H∧∀ x H',J.yld i H x H'→g x (σ++Γj own.length none) H' fun σ2 H2=>Wk (σ++Γj own.length none) σ2∧tt σ2 H2 fun b H3 =>
    if b=true then tk σ2 H3 fun y H4=>tv σ2 H4 fun v H5=>∃ kvs k b,H5 acc=some (.dT kvs)∧y=.ref b∧H5 b=some (.tup (k.map kV))∧kvs.length < sizeLine∧∃ m',m' < m∧W (i + 1) m' (upd H5 acc (.dT (a5e kvs k v))) else ∃ m',m' < m∧W (i + 1) m' H3))
  (hRR:∀ acc C H' m s',Inv X pins σ H' s'→s'.heap.Ns C m→C≠X.env.locals→(∀ x c,X.env.cells.lookup x=some c→c≠C)→s2.heap.objs.size≤C→H' C=none→Q (.ref acc) H'→RR (.ref acc) C (.ok .next) s') {E:Value→Shared→Prop} :
  wpAny (model X.prog X.w) X.A (newDict) (fun acc s3=>wpAny (model X.prog X.w) X.A (newFunctionEnv scope X.env.globals (a8r X.env.cells scope.names []) [] X.env.qual none .none (some X.env)) (fun cenv s4 =>
   codeAny (model X.prog X.w) X.A (.compStart (.DictComp kx vx [⟨tg,iter,ifs,0⟩] scope pos) 0 (.ref it) acc { cenv with scope:=relabel scope X.env }) (RR acc cenv.locals) s4) E s3) E s2:=by
 have hacc:=I2.fresh
 have I3:Inv X pins σ (upd H2 s2.heap.objs.size (.dT [])) { s2 with heap:=s2.heap.push { cls:=.type "dict",data:=.dict #[] },toks:=s2.toks }:=I2.laid (a:=s2.heap.objs.size) (o:=.dT []) (t':=s2.toks) (fun _ _ q=>Γc _ q) (Γi _) (b4v s2.heap I2.big)
 refine wpAny_newObj_type ?_
 obtain ⟨W,⟨m0,w0⟩,turn⟩:=h _ hacc
 generalize hs3:({ s2 with heap:=s2.heap.push { cls:=.type "dict",data:=.dict #[] },toks:=s2.toks }:Shared)=s3 at I3
 have keep23:∀ b o,s2.heap.get? b=some o→s3.heap.get? b=some o:=fun b o e=>by rw [← hs3]; exact Γc _ e
 have hf3:∀ b∈fp,b0k X pins (upd H2 s2.heap.objs.size (.dT [])) b:=fun b hb=>by
  obtain ⟨o,ho,_⟩:=T.obj _ _ st2 b hb
  exact ⟨by rw [a0e (Γo (Γl ho))]; exact (f2 b hb).1,(f2 b hb).2⟩
 have st3:tn 0 s3.heap:=T.keep _ _ _ st2 fun b hb o e=>keep23 b o e
 refine a3j fun h4 hns' keep34 ok34=>?_
 have I4:=b0a (t4:=s3.toks + ([]:List (Str×Value)).length) I3 SC hc hf3 (fun b hb=>by obtain ⟨o,ho,_⟩:=T.obj _ _ st3 b hb; exact ⟨o,ho⟩) hns' keep34 ok34
 have st4:tn 0 h4:=T.keep _ _ _ st3 fun b hb o e=>keep34 b o e
 obtain ⟨hg,ht,hk',hv'⟩:=hblock s3.heap.objs.size s3 (upd H2 s2.heap.objs.size (.dT []))
 have e5:(cxC X scope own fp s3.heap.objs.size s3 (upd H2 s2.heap.objs.size (.dT []))).env=compEnvC scope (cellsFrom (s3.heap.objs.size + 1) scope.names (a8r X.env.cells scope.names [])) s3.heap.objs.size X.env:=rfl
 generalize hY:cxC X scope own fp s3.heap.objs.size s3 (upd H2 s2.heap.objs.size (.dT []))=Y at hg ht hk' hv' I4 e5
 have fpY:∀ {H':Hp},(∀ b∈fp,H' b=none)→∀ b∈fp,b0k Y [] H' b:=fun hn b hb=>by
  obtain ⟨o,ho,_⟩:=T.obj _ _ st3 b hb
  refine ⟨hn b hb,?_,?_,?_,?_,?_⟩
  ·rw [← hY]; exact Γo (Γl ho)
  ·have:=I4.ok.exfs b (by rw [← hY]; exact hb)
   exact this
  ·exact .inl (by rw [← hY]; exact hb)
  ·exact fun x c h=>(I4.ok.exf b (by rw [← hY]; exact hb)).2 x c h
  ·intro p hp; rw [← hY] at hp; exact absurd (show p∈([]:List (Addr×Obj)) from hp) (by simp)
 have hYp:Y.prog=X.prog∧Y.w=X.w∧Y.K=X.K∧Y.calm=true∧Y.A=X.A∧Y.xe=(fun _ _=>False)∧Y.s₀=s3∧Y.H₀=upd H2 s2.heap.objs.size (.dT [])∧Y.outer=X.stack∧Y.ex=fp:=by rw [← hY]; exact ⟨rfl,rfl,rfl,hc,rfl,rfl,rfl,rfl,rfl,rfl⟩
 obtain ⟨y1,y2,y3,y4,y5,y6,y7,y8,y9,y10⟩:=hYp
 have loop:∀ s5:Shared,s5 = { s3 with heap:=h4,toks:=s3.toks + ([]:List (Str×Value)).length } →
   codeAny (model X.prog X.w) X.A (.compLoop (.DictComp kx vx [⟨tg,iter,ifs,0⟩] scope pos) 0 (.ref it) (.ref s2.heap.objs.size) Y.env) (RR (.ref s2.heap.objs.size) s3.heap.objs.size) s5:=by
  rintro s5 rfl
  refine b3h (fun n s'=>∃ i H',Inv Y [] (σ++Γj own.length none) H' s'∧tn i s'.heap∧(∀ b∈fp,H' b=none)∧W i n H') ?_ m0 ⟨0,_,I4,st4,fun b hb=>(hf3 b hb).1,w0⟩
  rintro n s6 ⟨i,H6,I6,st6,fr6,w6⟩
  rcases turn i n H6 w6 with ⟨stop,q⟩ | ⟨go,step⟩
  ·have d:=T.done Y y1 y2 y3 y4 i [] s6 _ H6 (fun _ _=>False) I6 (fpY fr6) st6 stop
   rw [y5] at d
   refine thn d fun r s7 ⟨hr,I7⟩=>?_
   subst hr
   obtain ⟨m,hn,_⟩:=I7.loc
   have hL:Y.env.locals=s3.heap.objs.size:=by rw [e5]; rfl
   rw [hL] at hn
   have b7:=I7.base
   rw [y7,y8,y10] at b7
   have b7':Un (frs X.stack) fp (upd H2 s2.heap.objs.size (.dT [])) H6 s3.heap s7.heap:=by
    have z:Y.fs=frs X.stack:=by show frs Y.outer=_; rw [y9]
    rw [z] at b7
    exact b7
   have hok7:=I7.hok
   rw [y1,y2] at hok7
   have os7:=I7.os
   rw [y7] at os7
   have I8:Inv X pins σ H6 s7:=I3.call' os7 b7' hok7 I7.bare fun b hb=>⟨(hf3 b hb).2.2.2.1,(hf3 b hb).2.1,(hf3 b hb).2.2.2.2.1,(hf3 b hb).2.2.2.2.2⟩
   have hfree:=I7.free
   rw [hL] at hfree
   refine hRR _ _ H6 m s7 I8 hn (Nat.ne_of_gt I3.lt) (fun x c h z=>?_) ?_ hfree q
   ·obtain ⟨v,y⟩:=I3.cell x c h
    exact absurd y.lt (by rw [z]; exact Nat.lt_irrefl _)
   ·rw [← hs3,Heap.size_push]; exact Nat.le_succ _
  ·have d:=T.item Y y1 y2 y3 y4 i [] s6 _ H6 (fun _ _=>False) I6 (fpY fr6) st6 go
   rw [y5] at d
   refine thn d fun r s7 ⟨u,hr,h7⟩=>?_
   subst hr
   refine thn h7 fun _ s8 ⟨x,H8,I8,r8,y8',st8,fr8⟩=>?_
   have I8':=I8.pinned (fpY fr8) (T.obj _ _ st8)
   have pinK:∀ {σ':St} {H':Hp} {s':Shared},Inv Y ([]++a4l fp s8.heap) σ' H' s'→tn (i + 1) s'.heap∧∀ b∈fp,H' b=none:=fun {σ' H' s'} I' =>
    ⟨T.keep _ _ _ st8 fun b hb o e=>(I'.pin (b,o) (List.mem_append_right _ (List.mem_append_right _ (a1c hb e)))).1,fun b hb=>by
     obtain ⟨o,e,_⟩:=T.obj _ _ st8 b hb
     exact (I'.pin (b,o) (List.mem_append_right _ (List.mem_append_right _ (a1c hb e)))).2.1⟩
   have dg:=hg _ s8 _ H8 x u _ I8' r8 (step x H8 y8')
   rw [y1,y2,y5,y6] at dg
   refine thn dg fun _ s9 ⟨σ9,H9,I9,wk,q9⟩=>?_
   have dt:=ht _ s9 σ9 H9 _ I9 q9
   rw [y1,y2,y5,y6] at dt
   refine thn dt fun ok s10 ⟨H10,I10,q10⟩=>?_
   cases ok with
   | true =>
    rw [if_pos rfl] at q10 ⊢
    have dk:=hk' _ s10 σ9 H10 _ I10 q10
    rw [y1,y2,y5,y6] at dk
    refine thn dk fun ky s11 ⟨v11,H11,I11,r11,q11⟩=>?_
    have dv:=hv' _ s11 σ9 H11 _ I11 q11
    rw [y1,y2,y5,y6] at dv
    refine thn dv fun y s12 ⟨v12,H12,I12,r12,kvs,k,b,hys,hyb,hkb,hz,m',hm,w12⟩=>?_
    subst hyb
    cases (show ky=Value.ref b from r11)
    obtain ⟨z,hd,xs,rel,dd⟩:=d2y I12.hok hys
    rw [y1,y2] at dd
    have hz':xs.length≤sizeLine:=by rw [← Paired.length rel]; exact z
    have hl:(a5e kvs k v12).length≤sizeLine:=by have:=a2k kvs k v12; lia
    have ko:=a7c I12.hok hkb
    rw [y1,y2] at ko
    refine wpAny_dictSet_heap (knd:=tupleKind (a0t X.prog X.w)) (hsz:=hz') (show X.A.units < cLine by lia) ko dd fun h' dd' hs=>?_
    obtain ⟨q,es,ep,hq,h2',h3',h4',h5',h6'⟩:=dd'
    rw [← y1,← y2] at h4'
    have I13:Inv Y ([]++a4l fp s8.heap) σ9 (upd H12 s2.heap.objs.size (.dT (a5e kvs k v12))) { s12 with heap:=h',toks:=s12.toks + (tupleKind (a0t X.prog X.w)).draws k }:=by
     refine b3g I12 (by rw [hys]; exact True.intro) hs ⟨q,hq⟩ ⟨hl,hd,_,(rel.put k hkb r12).keeps fun c ys ec=>?_,q,es,ep,hq,h2',h3',h4',h6'⟩
     rw [a0e (d1n ec hys (fun z=>nomatch z))]
     exact ec
    obtain ⟨t13,f13⟩:=pinK I13
    exact ⟨m',hm,i + 1,_,(I13.unpinned).weak wk.1.symm wk.2,t13,f13,w12⟩
   | false =>
    rw [if_neg Γk] at q10 ⊢
    obtain ⟨m',hm,w10⟩:=q10
    obtain ⟨t10,f10⟩:=pinK I10
    exact ⟨m',hm,i + 1,_,(I10.unpinned).weak wk.1.symm wk.2,t10,f10,w10⟩
 rw [e5] at loop
 exact codeAny_compStart_dict (loop _ rfl) (T.self _ 0 _ _ _ st4 (loop _ rfl))
theorem c2q (hu:X.A.units + 1 < cLine) (hc:X.calm=true) (SC:CScope X scope own) (hi:PI X.nox tg iter wi)
  (hblock:∀ fp C s H,PG (cxC X scope own fp C s H) tg g∧PTs (cxC X scope own fp C s H) ifs tt∧PE (cxC X scope own fp C s H) kx tk∧PE (cxC X scope own fp C s H) vx tv)
  (hs:∀ x,foldedSetIterable iter X.env x=pure x:=by intro _; rfl) :
  PE X.nox (.DictComp kx vx [⟨tg,iter,ifs,0⟩] scope pos) (c9o wi g tt tk tv own.length):=by
 intro pins s σ H Q I h
 have fr:∀ p∈scope.names,p.2=.free→∃ c,X.env.cells.lookup p.1=some c:=fun p hp hq=>I.ok.has p.1 (SC.free p hp hq)
 rw [arm_eval_DictComp]
 refine wpAny_comprehension_free (use:=none) rfl hs (a3b fr) SC.kind SC.names (thn (hi pins s σ H _ I h) fun v s1 h1=>thn h1 fun itv s2 h2=>?_)
 obtain ⟨it,fp,tn,J,H2,e,I2,T,st2,f2,h2⟩:=h2
 subst e
 refine c0r (X:=X.nox) (own:=own) (RR:=fun acc C=>compPost (model X.prog X.w) X.A (fun _ _=>False) none (EP X.nox pins σ Q) acc C) hu hc ⟨SC.kind,SC.nocell,SC.names,SC.free,SC.apart,SC.hid⟩ (fun C s H=>hblock fp C s H) I2 T st2 f2 h2 ?_
 intro acc C H' m s' I' hn hL hcl hC hH q
 obtain ⟨f0,f1,f2',f3,f4,f5⟩:=I2.fpOk hC hH
 refine ⟨m,hn,fun h' hsb=>⟨.ref acc,H',?_,rfl,q⟩⟩
 exact I'.turned (t':=s'.toks) (fun b o hb e=>(hsb.2 b hb).trans e) f0 f1 f3 f4 f5
end
end L2
end
section
namespace L2
open PySem PySem.Spec PyProof.Rows
def b3n (target iter:Expr) (ifs:List Expr) (it:Value) (env:Env) (fin:Sem Fin) (c:Code):Sem Fin:=do
 standAt iter.pos
 match ← pyNext it with
 | none=>pure (.done .next)
 | some v =>
  letOwnedTupleGo target it v
  assign target env v
  let mut ok:=true
  for c in ifs do
   if ok then ok ← isTrue c env (eval c env)
  if ok then fin else again c
def c5f (elt:Expr) (acc:Value) (env:Env) (c:Code):Sem Fin:=do
 (do let _ ← call (.builtin "list.append") [acc,← eval elt env])
 again c
def b3d (e iter2:Expr) (acc:Value) (env:Env) (c:Code):Sem Fin:=do
 let x ← eval iter2 env
 standAt iter2.pos
 let x ← foldedSetIterable iter2 env x
 let _ ← runOwn (.compStart e 1 (← holding [x] (pyIter x)) acc env) env
 again c
theorem c5r (elt:Expr) (g1:Comprehension) (target iter:Expr) (ifs:List Expr) (scope:Scope) (pos:Pos) (it acc:Value) (env:Env) :
  compTurn (.ListComp elt [g1,⟨target,iter,ifs,0⟩] scope pos) 1 it acc env=b3n target iter ifs it env (c5f elt acc env (.compLoop (.ListComp elt [g1,⟨target,iter,ifs,0⟩] scope pos) 1 it acc env)) (.compLoop (.ListComp elt [g1,⟨target,iter,ifs,0⟩] scope pos) 1 it acc env):=rfl
theorem c1k (elt target iter:Expr) (ifs:List Expr) (tg2 iter2:Expr) (ifs2:List Expr) (scope:Scope) (pos:Pos) (it acc:Value) (env:Env) :
  compTurn (.ListComp elt [⟨target,iter,ifs,0⟩,⟨tg2,iter2,ifs2,0⟩] scope pos) 0 it acc env=b3n target iter ifs it env (b3d (.ListComp elt [⟨target,iter,ifs,0⟩,⟨tg2,iter2,ifs2,0⟩] scope pos) iter2 acc env (.compLoop (.ListComp elt [⟨target,iter,ifs,0⟩,⟨tg2,iter2,ifs2,0⟩] scope pos) 0 it acc env)) (.compLoop (.ListComp elt [⟨target,iter,ifs,0⟩,⟨tg2,iter2,ifs2,0⟩] scope pos) 0 it acc env):=rfl
section
variable {prog:Program} {w:World} {A:Around} {R:Result→Shared→Prop} {s:Shared}
theorem b1m {elt:Expr} {gs:List Comprehension} {scope:Scope} {pos:Pos} {dp:Nat} {target iter:Expr} {ifs:List Expr} {it acc:Value} {env:Env} {fin:Sem Fin} (ht:compTurn (.ListComp elt gs scope pos) dp it acc env=b3n target iter ifs it env fin (.compLoop (.ListComp elt gs scope pos) dp it acc env)) (I:Nat→Shared→Prop)
  (turn:∀ n s,I n s→wpAny (model prog w) A (pyNext it) (fun r s1=>match r with
   | none=>R (.ok .next) s1
   | some v=>wpAny (model prog w) A (letOwnedTupleGo target it v) (fun _ s2=>wpAny (model prog w) A (assign target env v) (fun _ s3=>wpAny (model prog w) A (a6m ifs env) (fun ok s4 =>
     if ok=true then wpAny (model prog w) A fin (fun f s6=>f=.again (.compLoop (.ListComp elt gs scope pos) dp it acc env)∧∃ m,m < n∧I m s6) (fun _ _=>False) s4
     else ∃ m,m < n∧I m s4) (fun _ _=>False) s3) (fun _ _=>False) s2) (fun _ _=>False) s1) (fun _ _=>False) s)
  (n:Nat) (h:I n s):codeAny (model prog w) A (.compLoop (.ListComp elt gs scope pos) dp it acc env) R s:=by
 refine codeAny_loop rfl I (fun n s hI=>?_) n h
 show wpAny _ A ((compTurn (.ListComp elt gs scope pos) dp it acc env).onRaise (fun x=>do noteFrame x env; theTreesLotGoes x)) _ _ s
 refine wpAny_noted ?_
 rw [ht]
 unfold b3n
 have no:∀ (e:Value) (s':Shared),(fun (_:Value) (_:Shared)=>False) e s'→notedBy (model prog w) A env (fun e s'=>R (.error e) s') e s':=fun _ _ z=>z.elim
 refine Γa (wpAny_standAt (Γa (wpAny_mono (turn n s hI) (fun r s1 h1=>?_) no)))
 cases r with
 | none=>exact Γb h1
 | some v =>
  refine Γa (wpAny_mono h1 (fun _ s2 h2=>Γa (wpAny_mono h2 (fun _ s3 h3=>Γa (wpAny_mono h3 (fun ok s4 h4=>?_) no)) no)) no)
  cases ok with
  | true =>
   rw [if_pos rfl] at h4
   simp only [if_true]
   exact wpAny_mono h4 (fun f s6 ⟨e6,h6⟩=>by rw [e6]; exact ⟨rfl,h6⟩) no
  | false =>
   rw [if_neg Γk] at h4
   simp only [Γp,if_false]
   first
    | exact Γb ⟨rfl,h4⟩
    | exact Γa (Γb (Γb ⟨rfl,h4⟩))
theorem c1r {elt:Expr} {g1:Comprehension} {target iter:Expr} {ifs:List Expr} {scope:Scope} {pos:Pos} {it acc:Value} {env:Env}
  (h0:codeAny (model prog w) A (.compLoop (.ListComp elt [g1,⟨target,iter,ifs,0⟩] scope pos) 1 it acc env) R s)
  (h:wpAny (model prog w) A (pyIter it) (fun it' s'=>codeAny (model prog w) A (.compLoop (.ListComp elt [g1,⟨target,iter,ifs,0⟩] scope pos) 1 it' acc env) R s')
   (notedBy (model prog w) A env fun x s'=>R (.error x) s') s) :
  codeAny (model prog w) A (.compStart (.ListComp elt [g1,⟨target,iter,ifs,0⟩] scope pos) 1 it acc env) R s:=by
 refine codeAny_of_tree ?_
 show wpAny _ _ ((compStart (.ListComp elt [g1,⟨target,iter,ifs,0⟩] scope pos) 1 it acc env).onRaise (fun x=>do noteFrame x env; standAt theWindowsPlace)) _ _ s
 refine wpAny_notedAt ?_
 unfold compStart
 show wpAny _ _ (ask >>= _) _ _ s
 refine Γa (wpAny_askSetting (wpAny_ite ?_))
 split
 ·first
   | exact Γa (Γb (Γb (And.intro rfl h0)))
   | exact Γb (And.intro rfl h0)
 ·first
   | exact Γa (wpAny_rule (Γa (wpAny_standAt (Γa (wpAny_mono h (fun it' s' h'=>Γb (And.intro rfl h')) fun _ _ x=>x)))))
   | (refine Γa (wpAny_rule ?_); show wpAny _ _ (standAt iter.pos >>= _) _ _ s; exact Γa (wpAny_standAt (Γa (wpAny_mono h (fun it' s' h'=>Γb (And.intro rfl h')) fun _ _ x=>x))))
end
def tIn (wi:TI) (g:TG) (tt:TT) (te:TE) (acc:Addr) (σ:St) (H:Hp) (R:St→Hp→Prop):Prop:=wi σ H fun J H1=>∃ W:Nat→Nat→St→Hp→Prop,(∃ m,W 0 m σ H1)∧∀ i m σ H,W i m σ H →
 (J.stop i H∧R σ H) ∨ (J.go i H∧∀ x H',J.yld i H x H'→g x σ H' fun σ2 H2=>tt σ2 H2 fun b H3 =>
  if b=true then te σ2 H3 fun v H4=>∃ ys,H4 acc=some (.lst ys)∧ys.length < sizeLine∧∃ m',m' < m∧W (i + 1) m' σ2 (upd H4 acc (.lst (ys++[v]))) else ∃ m',m' < m∧W (i + 1) m' σ2 H3)
theorem d2e {Y:Cx} {elt:Expr} {g1:Comprehension} {tg iter:Expr} {ifs:List Expr} {scope:Scope} {pos:Pos} {wi:TI} {g:TG} {tt:TT} {te:TE} {acc:Addr} {c:Code}
  (hc:Y.calm=true) (hx:Y.xe=fun _ _=>False) (hi:PI Y tg iter wi) (hg:PG Y tg g) (ht:PTs Y ifs tt) (he:PE Y elt te) (hs:∀ x,foldedSetIterable iter Y.env x=pure x)
  {pins:List (Addr×Obj)} {s:Shared} {σ:St} {H:Hp} {R:St→Hp→Prop} (I:Inv Y pins σ H s) (h:tIn wi g tt te acc σ H R) :
  wpAny (model Y.prog Y.w) Y.A (b3d (.ListComp elt [g1,⟨tg,iter,ifs,0⟩] scope pos) iter (.ref acc) Y.env c) (fun f s'=>f=.again c∧∃ σ' H',Inv Y pins σ' H' s'∧R σ' H') (fun _ _=>False) s:=by
 unfold b3d
 have hi':=hi pins s σ H _ I h
 rw [hx] at hi'
 refine Γa (thn hi' fun v s1 h1=>Γa (wpAny_standAt (Γa (wpAny_of_eq (hs v) ?_))))
 refine Γa (Γg (thn h1 fun itv s2 h2=>Γa (wpAny_runOwn ?_)))
 obtain ⟨it,fp,tn,J,H2,e,I2,T,st2,f2,W,⟨m0,w0⟩,turn⟩:=h2
 subst e
 have stat:∀ {H':Hp},(∀ b∈fp,H' b=none)→∀ b∈fp,b0k Y pins H' b:=fun hn b hb=>⟨hn b hb,(f2 b hb).2⟩
 have loop:codeAny (model Y.prog Y.w) Y.A (.compLoop (.ListComp elt [g1,⟨tg,iter,ifs,0⟩] scope pos) 1 (.ref it) (.ref acc) Y.env) (fun r s'=>match r with
   | .ok f=>wpAny (model Y.prog Y.w) Y.A (again c) (fun f s'=>f=.again c∧∃ σ' H',Inv Y pins σ' H' s'∧R σ' H') (fun _ _=>False) s'
   | .error e=>cameBackBy (model Y.prog Y.w) Y.A Y.env (fun _ _=>False) e s') s2:=by
  refine b1m (c5r ..) (fun n s'=>∃ i σ' H',Inv Y pins σ' H' s'∧tn i s'.heap∧(∀ b∈fp,H' b=none)∧W i n σ' H') ?_ m0 ⟨0,σ,H2,I2,st2,fun b hb=>(f2 b hb).1,w0⟩
  rintro n s3 ⟨i,σ3,H3,I3,st3,fr3,w3⟩
  rcases turn i n σ3 H3 w3 with ⟨stop,qn⟩ | ⟨go,step⟩
  ·refine thn (T.done Y rfl rfl rfl hc i pins s3 σ3 H3 (fun _ _=>False) I3 (stat fr3) st3 stop) fun r s4 ⟨hr,I4⟩=>?_
   subst hr
   exact Γb ⟨rfl,σ3,H3,I4,qn⟩
  ·refine thn (T.item Y rfl rfl rfl hc i pins s3 σ3 H3 (fun _ _=>False) I3 (stat fr3) st3 go) fun r s4 ⟨u,hr,h4⟩=>?_
   subst hr
   refine thn h4 fun _ s5 ⟨x,H5,I5,r5,y5,st5,fr5⟩=>?_
   have I5':=I5.pinned (stat fr5) (T.obj _ _ st5)
   have pinK:∀ {σ':St} {H':Hp} {s':Shared},Inv Y (pins++a4l fp s5.heap) σ' H' s'→tn (i + 1) s'.heap∧∀ b∈fp,H' b=none:=fun {σ' H' s'} I' =>
    ⟨T.keep _ _ _ st5 fun b hb o e=>(I'.pin (b,o) (List.mem_append_right _ (List.mem_append_right _ (a1c hb e)))).1,fun b hb=>by
     obtain ⟨o,e,_⟩:=T.obj _ _ st5 b hb
     exact (I'.pin (b,o) (List.mem_append_right _ (List.mem_append_right _ (a1c hb e)))).2.1⟩
   have dg:=hg _ s5 _ H5 x u _ I5' r5 (step x H5 y5)
   rw [hx] at dg
   refine thn dg fun _ s6 ⟨σ6,H6,I6,q6⟩=>?_
   have dt:=ht _ s6 σ6 H6 _ I6 q6
   rw [hx] at dt
   refine thn dt fun ok s7 ⟨H7,I7,q7⟩=>?_
   cases ok with
   | true =>
    rw [if_pos rfl] at q7 ⊢
    have de:=he _ s7 σ6 H7 _ I7 q7
    rw [hx] at de
    unfold c5f
    refine Γa (Γa (thn de fun y s8 ⟨v8,H8,I8,r8,ys,hys,hz,m',hm,w8⟩=>?_))
    have da:=a6v (X:=Y) _ s8 σ6 H8 (.ref acc) [v8] (.ref acc) [y] (fun _ H'=>H'=upd H8 acc (.lst (ys++[v8]))) I8 rfl (.cons r8 .nil) ⟨_,ys,v8,rfl,rfl,hys,hz,rfl⟩
    rw [hx] at da
    refine Γa (thn da fun _ s9 ⟨v9,H9,I9,r9,e9⟩=>Γb (Γb ?_))
    subst e9
    obtain ⟨t9,f9⟩:=pinK I9
    exact ⟨rfl,m',hm,i + 1,_,_,I9.unpinned,t9,f9,w8⟩
   | false =>
    rw [if_neg Γk] at q7 ⊢
    obtain ⟨m',hm,w7⟩:=q7
    obtain ⟨t7,f7⟩:=pinK I7
    exact ⟨m',hm,i + 1,_,_,I7.unpinned,t7,f7,w7⟩
 exact c1r loop (T.self _ 0 _ _ _ st2 loop)
def b7a (wi:TI) (g:TG) (tt:TT) (wi2:TI) (g2:TG) (tt2:TT) (te:TE) (own:Nat):TE:=fun σ H Q=>wi σ H fun J H1=>∀ acc,H1 acc=none→∃ W:Nat→Nat→Hp→Prop,(∃ m,W 0 m (upd H1 acc (.lst [])))∧∀ i m H,W i m H →
 (J.stop i H∧Q (.ref acc) H) ∨ (J.go i H∧∀ x H',J.yld i H x H'→g x (σ++Γj own none) H' fun σ2 H2=>Wk (σ++Γj own none) σ2∧tt σ2 H2 fun b H3 =>
  if b=true then tIn wi2 g2 tt2 te acc σ2 H3 fun σ3 H4=>Wk (σ++Γj own none) σ3∧∃ m',m' < m∧W (i + 1) m' H4 else ∃ m',m' < m∧W (i + 1) m' H3)
section
variable {X:Cx} {elt tg iter tg2 iter2:Expr} {ifs ifs2:List Expr} {scope:Scope} {own:List Str} {pos:Pos} {wi wi2:TI} {g g2:TG} {tt tt2:TT} {te:TE}
theorem b1u {pins:List (Addr×Obj)} {σ:St} {H2:Hp} {s2:Shared} {Q:VK} {it:Addr} {fp:List Addr} {tn:Nat→Heap→Prop} {J:It} {RR:Value→Addr→Result→Shared→Prop}
  (hc:X.calm=true) (SC:CScope X scope own)
  (hblock:∀ C s H,PG (cxC X scope own fp C s H) tg g∧PTs (cxC X scope own fp C s H) ifs tt∧(PI (cxC X scope own fp C s H) tg2 iter2 wi2∧PG (cxC X scope own fp C s H) tg2 g2∧PTs (cxC X scope own fp C s H) ifs2 tt2∧PE (cxC X scope own fp C s H) elt te∧∀ x,foldedSetIterable iter2 (cxC X scope own fp C s H).env x=pure x))
  (I2:Inv X pins σ H2 s2) (T:Turn X.prog X.w X.K tg J fp it tn) (st2:tn 0 s2.heap) (f2:∀ b∈fp,b0k X pins H2 b)
  (h:∀ acc,H2 acc=none→∃ W:Nat→Nat→Hp→Prop,(∃ m,W 0 m (upd H2 acc (.lst [])))∧∀ i m H,W i m H →
   (J.stop i H∧Q (.ref acc) H) ∨ (J.go i H∧∀ x H',J.yld i H x H'→g x (σ++Γj own.length none) H' fun σ2 H2=>Wk (σ++Γj own.length none) σ2∧tt σ2 H2 fun b H3 =>
    if b=true then tIn wi2 g2 tt2 te acc σ2 H3 fun σ3 H4=>Wk (σ++Γj own.length none) σ3∧∃ m',m' < m∧W (i + 1) m' H4 else ∃ m',m' < m∧W (i + 1) m' H3))
  (hRR:∀ acc C H' m s',Inv X pins σ H' s'→s'.heap.Ns C m→C≠X.env.locals→(∀ x c,X.env.cells.lookup x=some c→c≠C)→s2.heap.objs.size≤C→H' C=none→Q (.ref acc) H'→RR (.ref acc) C (.ok .next) s') {E:Value→Shared→Prop} :
  wpAny (model X.prog X.w) X.A (newList []) (fun acc s3=>wpAny (model X.prog X.w) X.A (newFunctionEnv scope X.env.globals (a8r X.env.cells scope.names []) [] X.env.qual none .none (some X.env)) (fun cenv s4 =>
   codeAny (model X.prog X.w) X.A (.compStart (.ListComp elt [⟨tg,iter,ifs,0⟩,⟨tg2,iter2,ifs2,0⟩] scope pos) 0 (.ref it) acc { cenv with scope:=relabel scope X.env }) (RR acc cenv.locals) s4) E s3) E s2:=by
 have hacc:=I2.fresh
 have I3:Inv X pins σ (upd H2 s2.heap.objs.size (.lst [])) { s2 with heap:=s2.heap.push { cls:=.type "list",data:=.seq ([]:List Value).toArray },toks:=s2.toks }:=I2.lnew .nil (Nat.zero_le _)
 refine wpAny_newObj_type ?_
 obtain ⟨W,⟨m0,w0⟩,turn⟩:=h _ hacc
 generalize hs3:({ s2 with heap:=s2.heap.push { cls:=.type "list",data:=.seq ([]:List Value).toArray },toks:=s2.toks }:Shared)=s3 at I3
 have keep23:∀ b o,s2.heap.get? b=some o→s3.heap.get? b=some o:=fun b o e=>by rw [← hs3]; exact Γc _ e
 have hf3:∀ b∈fp,b0k X pins (upd H2 s2.heap.objs.size (.lst [])) b:=fun b hb=>by
  obtain ⟨o,ho,_⟩:=T.obj _ _ st2 b hb
  exact ⟨by rw [a0e (Γo (Γl ho))]; exact (f2 b hb).1,(f2 b hb).2⟩
 have st3:tn 0 s3.heap:=T.keep _ _ _ st2 fun b hb o e=>keep23 b o e
 refine a3j fun h4 hns' keep34 ok34=>?_
 have I4:=b0a (t4:=s3.toks + ([]:List (Str×Value)).length) I3 SC hc hf3 (fun b hb=>by obtain ⟨o,ho,_⟩:=T.obj _ _ st3 b hb; exact ⟨o,ho⟩) hns' keep34 ok34
 have st4:tn 0 h4:=T.keep _ _ _ st3 fun b hb o e=>keep34 b o e
 obtain ⟨hg,ht,he⟩:=hblock s3.heap.objs.size s3 (upd H2 s2.heap.objs.size (.lst []))
 have e5:(cxC X scope own fp s3.heap.objs.size s3 (upd H2 s2.heap.objs.size (.lst []))).env=compEnvC scope (cellsFrom (s3.heap.objs.size + 1) scope.names (a8r X.env.cells scope.names [])) s3.heap.objs.size X.env:=rfl
 generalize hY:cxC X scope own fp s3.heap.objs.size s3 (upd H2 s2.heap.objs.size (.lst []))=Y at hg ht he I4 e5
 have fpY:∀ {H':Hp},(∀ b∈fp,H' b=none)→∀ b∈fp,b0k Y [] H' b:=fun hn b hb=>by
  obtain ⟨o,ho,_⟩:=T.obj _ _ st3 b hb
  refine ⟨hn b hb,?_,?_,?_,?_,?_⟩
  ·rw [← hY]; exact Γo (Γl ho)
  ·have:=I4.ok.exfs b (by rw [← hY]; exact hb)
   exact this
  ·exact .inl (by rw [← hY]; exact hb)
  ·exact fun x c h=>(I4.ok.exf b (by rw [← hY]; exact hb)).2 x c h
  ·intro p hp; rw [← hY] at hp; exact absurd (show p∈([]:List (Addr×Obj)) from hp) (by simp)
 have hYp:Y.prog=X.prog∧Y.w=X.w∧Y.K=X.K∧Y.calm=true∧Y.A=X.A∧Y.xe=(fun _ _=>False)∧Y.s₀=s3∧Y.H₀=upd H2 s2.heap.objs.size (.lst [])∧Y.outer=X.stack∧Y.ex=fp:=by rw [← hY]; exact ⟨rfl,rfl,rfl,hc,rfl,rfl,rfl,rfl,rfl,rfl⟩
 obtain ⟨y1,y2,y3,y4,y5,y6,y7,y8,y9,y10⟩:=hYp
 have loop:∀ s5:Shared,s5 = { s3 with heap:=h4,toks:=s3.toks + ([]:List (Str×Value)).length } →
   codeAny (model X.prog X.w) X.A (.compLoop (.ListComp elt [⟨tg,iter,ifs,0⟩,⟨tg2,iter2,ifs2,0⟩] scope pos) 0 (.ref it) (.ref s2.heap.objs.size) Y.env) (RR (.ref s2.heap.objs.size) s3.heap.objs.size) s5:=by
  rintro s5 rfl
  refine b1m (c1k ..) (fun n s'=>∃ i H',Inv Y [] (σ++Γj own.length none) H' s'∧tn i s'.heap∧(∀ b∈fp,H' b=none)∧W i n H') ?_ m0 ⟨0,_,I4,st4,fun b hb=>(hf3 b hb).1,w0⟩
  rintro n s6 ⟨i,H6,I6,st6,fr6,w6⟩
  rcases turn i n H6 w6 with ⟨stop,q⟩ | ⟨go,step⟩
  ·have d:=T.done Y y1 y2 y3 y4 i [] s6 _ H6 (fun _ _=>False) I6 (fpY fr6) st6 stop
   rw [y5] at d
   refine thn d fun r s7 ⟨hr,I7⟩=>?_
   subst hr
   obtain ⟨m,hn,_⟩:=I7.loc
   have hL:Y.env.locals=s3.heap.objs.size:=by rw [e5]; rfl
   rw [hL] at hn
   have b7:=I7.base
   rw [y7,y8,y10] at b7
   have b7':Un (frs X.stack) fp (upd H2 s2.heap.objs.size (.lst [])) H6 s3.heap s7.heap:=by
    have z:Y.fs=frs X.stack:=by show frs Y.outer=_; rw [y9]
    rw [z] at b7
    exact b7
   have hok7:=I7.hok
   rw [y1,y2] at hok7
   have os7:=I7.os
   rw [y7] at os7
   have I8:Inv X pins σ H6 s7:=I3.call' os7 b7' hok7 I7.bare fun b hb=>⟨(hf3 b hb).2.2.2.1,(hf3 b hb).2.1,(hf3 b hb).2.2.2.2.1,(hf3 b hb).2.2.2.2.2⟩
   have hfree:=I7.free
   rw [hL] at hfree
   refine hRR _ _ H6 m s7 I8 hn (Nat.ne_of_gt I3.lt) (fun x c h z=>?_) ?_ hfree q
   ·obtain ⟨v,y⟩:=I3.cell x c h
    exact absurd y.lt (by rw [z]; exact Nat.lt_irrefl _)
   ·rw [← hs3,Heap.size_push]; exact Nat.le_succ _
  ·have d:=T.item Y y1 y2 y3 y4 i [] s6 _ H6 (fun _ _=>False) I6 (fpY fr6) st6 go
   rw [y5] at d
   refine thn d fun r s7 ⟨u,hr,h7⟩=>?_
   subst hr
   refine thn h7 fun _ s8 ⟨x,H8,I8,r8,y8',st8,fr8⟩=>?_
   have I8':=I8.pinned (fpY fr8) (T.obj _ _ st8)
   have pinK:∀ {σ':St} {H':Hp} {s':Shared},Inv Y ([]++a4l fp s8.heap) σ' H' s'→tn (i + 1) s'.heap∧∀ b∈fp,H' b=none:=fun {σ' H' s'} I' =>
    ⟨T.keep _ _ _ st8 fun b hb o e=>(I'.pin (b,o) (List.mem_append_right _ (List.mem_append_right _ (a1c hb e)))).1,fun b hb=>by
     obtain ⟨o,e,_⟩:=T.obj _ _ st8 b hb
     exact (I'.pin (b,o) (List.mem_append_right _ (List.mem_append_right _ (a1c hb e)))).2.1⟩
   have dg:=hg _ s8 _ H8 x u _ I8' r8 (step x H8 y8')
   rw [y1,y2,y5,y6] at dg
   refine thn dg fun _ s9 ⟨σ9,H9,I9,wk,q9⟩=>?_
   have dt:=ht _ s9 σ9 H9 _ I9 q9
   rw [y1,y2,y5,y6] at dt
   refine thn dt fun ok s10 ⟨H10,I10,q10⟩=>?_
   cases ok with
   | true =>
    rw [if_pos rfl] at q10 ⊢
    obtain ⟨hi2,hg2,ht2,he2,hs2⟩:=he
    have de:=d2e (c:=.compLoop (.ListComp elt [⟨tg,iter,ifs,0⟩,⟨tg2,iter2,ifs2,0⟩] scope pos) 0 (.ref it) (.ref s2.heap.objs.size) Y.env) (g1:=⟨tg,iter,ifs,0⟩) (scope:=scope) (pos:=pos) y4 y6 hi2 hg2 ht2 he2 hs2 I10 q10
    rw [y1,y2,y5] at de
    refine thn de fun _ s12 ⟨e12,σ12,H12,I12,wk2,m',hm,w11⟩=>⟨e12,?_⟩
    obtain ⟨t12,f12⟩:=pinK I12
    exact ⟨m',hm,i + 1,_,(I12.unpinned).weak wk2.1.symm wk2.2,t12,f12,w11⟩
   | false =>
    rw [if_neg Γk] at q10 ⊢
    obtain ⟨m',hm,w10⟩:=q10
    obtain ⟨t10,f10⟩:=pinK I10
    exact ⟨m',hm,i + 1,_,(I10.unpinned).weak wk.1.symm wk.2,t10,f10,w10⟩
 rw [e5] at loop
 exact codeAny_compStart_list (loop _ rfl) (T.self _ 0 _ _ _ st4 (loop _ rfl))
theorem c2r (hc:X.calm=true) (SC:CScope X scope own) (hi:PI X.nox tg iter wi)
  (hblock:∀ fp C s H,PG (cxC X scope own fp C s H) tg g∧PTs (cxC X scope own fp C s H) ifs tt∧(PI (cxC X scope own fp C s H) tg2 iter2 wi2∧PG (cxC X scope own fp C s H) tg2 g2∧PTs (cxC X scope own fp C s H) ifs2 tt2∧PE (cxC X scope own fp C s H) elt te∧∀ x,foldedSetIterable iter2 (cxC X scope own fp C s H).env x=pure x))
  (hs:∀ x,foldedSetIterable iter X.env x=pure x:=by intro _; rfl) :
  PE X.nox (.ListComp elt [⟨tg,iter,ifs,0⟩,⟨tg2,iter2,ifs2,0⟩] scope pos) (b7a wi g tt wi2 g2 tt2 te own.length):=by
 intro pins s σ H Q I h
 have fr:∀ p∈scope.names,p.2=.free→∃ c,X.env.cells.lookup p.1=some c:=fun p hp hq=>I.ok.has p.1 (SC.free p hp hq)
 rw [eval_ListComp]
 refine wpAny_comprehension_free (use:=none) rfl hs (a3b fr) SC.kind SC.names (thn (hi pins s σ H _ I h) fun v s1 h1=>thn h1 fun itv s2 h2=>?_)
 obtain ⟨it,fp,tn,J,H2,e,I2,T,st2,f2,h2⟩:=h2
 subst e
 refine b1u (X:=X.nox) (own:=own) (RR:=fun acc C=>compPost (model X.prog X.w) X.A (fun _ _=>False) none (EP X.nox pins σ Q) acc C) hc ⟨SC.kind,SC.nocell,SC.names,SC.free,SC.apart,SC.hid⟩ (fun C s H=>hblock fp C s H) I2 T st2 f2 h2 ?_
 intro acc C H' m s' I' hn hL hcl hC hH q
 obtain ⟨f0,f1,f2',f3,f4,f5⟩:=I2.fpOk hC hH
 refine ⟨m,hn,fun h' hsb=>⟨.ref acc,H',?_,rfl,q⟩⟩
 exact I'.turned (t':=s'.toks) (fun b o hb e=>(hsb.2 b hb).trans e) f0 f1 f3 f4 f5
theorem b2r {i:Nat} {x:Str} {px:Pos} {spos:Pos} (hc:X.calm=true) (SC:CScope X scope own) (hN:X.N.Nodup) (hx:X.N[i]?=some x) (hl:X.env.scope.names.lookup x=some .local) (hi:PI X.nox tg iter wi)
  (hblock:∀ fp C s H,PG (cxC X scope own fp C s H) tg g∧PTs (cxC X scope own fp C s H) ifs tt∧(PI (cxC X scope own fp C s H) tg2 iter2 wi2∧PG (cxC X scope own fp C s H) tg2 g2∧PTs (cxC X scope own fp C s H) ifs2 tt2∧PE (cxC X scope own fp C s H) elt te∧∀ x,foldedSetIterable iter2 (cxC X scope own fp C s H).env x=pure x))
  (hsw:swapsWith (.ListComp elt [⟨tg,iter,ifs,0⟩,⟨tg2,iter2,ifs2,0⟩] scope pos) (some (.Name x px)) spos.line X.env=pure true)
  (hs:∀ x,foldedSetIterable iter X.env x=pure x:=by intro _; rfl) :
  PS X.nox (.Assign [.Name x px] (.ListComp elt [⟨tg,iter,ifs,0⟩,⟨tg2,iter2,ifs2,0⟩] scope pos) spos) (c1c (b7a wi g tt wi2 g2 tt2 te own.length) (a4v i)):=by
 intro pins s σ H D I h
 have fr:∀ p∈scope.names,p.2=.free→∃ c,X.env.cells.lookup p.1=some c:=fun p hp hq=>I.ok.has p.1 (SC.free p hp hq)
 show wpAny (model X.prog X.w) X.A (exec _ X.env) _ _ s
 rw [exec_Assign_Name_used _ _ _ _ hsw]
 refine Γa (wpAny_standAt (Γa ?_))
 show wpAny _ X.A (do let _ ← comprehension (.ListComp elt [⟨tg,iter,ifs,0⟩,⟨tg2,iter2,ifs2,0⟩] scope pos) scope X.env _ (newList []) false (eval iter X.env) (some (assign (.Name x px) X.env))) _ _ s
 refine Γa (wpAny_mono (wpAny_comprehension_free (use:=some (assign (.Name x px) X.env)) (Q:=fun _ s'=>SP X.nox pins D .next s') rfl hs (a3b fr) SC.kind SC.names
  (thn (hi pins s σ H _ I h) fun v s1 h1=>thn h1 fun itv s2 h2=>?_)) (fun _ s' hq=>Γb (Γb hq)) fun _ _ e=>e)
 obtain ⟨it,fp,tn,J,H2,e,I2,T,st2,f2,h2⟩:=h2
 subst e
 refine b1u (X:=X.nox) (own:=own) (Q:=fun v H1=>a4v i v σ H1 D.nx) (RR:=fun acc C=>compPost (model X.prog X.w) X.A (fun _ _=>False) (some (assign (.Name x px) X.env)) (fun _ s'=>SP X.nox pins D .next s') acc C) hc ⟨SC.kind,SC.nocell,SC.names,SC.free,SC.apart,SC.hid⟩ (fun C s H=>hblock fp C s H) I2 T st2 f2 h2 ?_
 intro acc C H' m s' I' hn hL hcl hC hH q
 obtain ⟨f0,f1,f2',f3,f4,f5⟩:=I2.fpOk hC hH
 show wpAny (model X.prog X.w) X.A (assign (.Name x px) X.env (.ref acc)) _ _ s'
 refine wpAny_assign_Name (a6n (X:=X.nox) I' hN hx (.inl hl) (v:=.ref acc) rfl (fun s'' I'' hch=>?_) (.inr hl))
 obtain ⟨a,hsa,ha⟩:=hch
 have hCa:C≠a:=by
  rcases ha with z | z
  ·rw [z]; exact hL
  ·exact fun y=>hcl x a z y.symm
 refine ⟨m,hn.sameBut hsa hCa,fun h' hsb=>?_⟩
 exact ⟨_,H',I''.turned (t':=s''.toks) (fun b o hb e=>(hsb.2 b hb).trans e) f0 f1 f3 f4 f5,q⟩
end
end L2
end
section
namespace Kq
open PySem PySem.Spec PyProof.Rows L2
inductive D where
 | non | bl (b:Bool) | int (i:Int) | str (x:String) | tup (xs:List D) | lst (xs:List D)
mutual
noncomputable def D.eqv:D→D→Bool
 | .non,.non=>true
 | .bl a,.bl b=>a == b
 | .bl a,.int j=>(if a then 1 else 0) == j
 | .int i,.bl b=>i == (if b then 1 else 0)
 | .int a,.int b=>a == b
 | .str a,.str b=>a == b
 | .tup a,.tup b=>D.eqvs a b
 | .lst a,.lst b=>D.eqvs a b
 | _,_=>false
noncomputable def D.eqvs:List D→List D→Bool
 | [],[]=>true
 | a :: r,b :: q=>D.eqv a b && D.eqvs r q
 | _,_=>false
end
mutual
noncomputable def D.wt:D→Nat
 | .non=>0 | .bl _=>0
 | .int i=>if -(2 ^ 40) < i∧i < 2 ^ 40 then 41 else 151
 | .str x=>x.length
 | .tup xs=>D.wts xs
 | .lst xs=>D.wts xs
noncomputable def D.wts:List D→Nat
 | []=>0
 | a :: r=>D.wt a + 1 + D.wts r
end
mutual
noncomputable def D.fit:D→Bool
 | .int i=>decide (-(2 ^ 150) < i∧i < 2 ^ 150)
 | .tup xs=>D.fits xs
 | .lst xs=>D.fits xs
 | _=>true
noncomputable def D.fits:List D→Bool
 | []=>true
 | a :: r=>D.fit a && D.fits r
end
inductive FV where
 | non | bl (b:Bool) | int (i:Int) | str (x:String) | tup (xs:List FV) | lst (xs:List FV)
 | scr (ns:List Int)
 | shn (d:D)
 | dct (ks:List (List Int)) (vs:List FV)
 | dci (ks:List Int) (vs:List FV)
 | dcz (o:Obj) (ks:List (List Int)) (vs:List FV)
noncomputable def big:Nat:=100000
inductive Mo where | imm | own | frz
 deriving DecidableEq
abbrev Md:=List Mo
abbrev a0d:=List (Option FV)
noncomputable def a0m:Md→Nat→Mo
 | [],_=>.imm
 | m :: _,0=>m
 | _ :: ms,n + 1=>a0m ms n
noncomputable def lk:a0d→Nat→Option FV
 | [],_=>none
 | x :: _,0=>x
 | _ :: L,n + 1=>lk L n
theorem a2p:∀ (L:a0d) (i:Nat) (v:FV),lk L i=some v↔L[i]?=some (some v)
 | [],i,v=>by simp [lk]
 | x :: L,0,v=>by simp [lk]
 | x :: L,i + 1,v=>by simpa [lk] using a2p L i v
noncomputable def wp {α:Type} (r:Option α) (Q:α→Prop):Prop:=match r with
 | some x=>Q x
 | none=>False
theorem wpx {α:Type} {r:Option α} {Q:α→Prop} (h:wp r Q):∃ x,r=some x∧Q x:=by
 cases r with
 | none=>exact h.elim
 | some x=>exact ⟨x,rfl,h⟩
mutual
noncomputable def dPy:D→PyData
 | .non=>.none
 | .bl b=>.bool b
 | .int i=>.int i
 | .str x=>.str (Γe x)
 | .tup xs=>.tuple (a4z xs)
 | .lst xs=>.list (a4z xs)
noncomputable def a4z:List D→List PyData
 | []=>[]
 | a :: r=>dPy a :: a4z r
end
noncomputable def a0y (ks:List (List Int)):List (List (Int ⊕ Str)):=ks.map fun k=>k.map Sum.inl
noncomputable def a3x (ks:List Int):List (Int ⊕ Str):=ks.map Sum.inl
noncomputable def ScrAt (K:Γd) (S:Hp) (a:Addr) (ns:List Int):Prop:=(∃ o,S a=some (.frz o (.lst (ns.map V.int)))) ∨ SqL K (fun _=>none) a (ns.map V.int)
mutual
noncomputable def RV (K:Γd) (S:Hp):FV→V→Prop
 | .non,v=>v=.non
 | .bl b,v=>v=.bl b
 | .int i,v=>v=.int i
 | .str x,v=>v=.str (Γe x)
 | .tup ps,v=>∃ a xs,v=.ref a∧S a=some (.tup xs)∧RVs K S ps xs
 | .lst ps,v=>∃ a xs,v=.ref a∧S a=some (.lst xs)∧RVs K S ps xs
 | .scr ns,v=>∃ a,v=.ref a∧ScrAt K S a ns
 | .shn d,v=>v=.str (dPy d).shown
 | .dct ks vs,v=>∃ a xs,v=.ref a∧ks.length=vs.length∧S a=some (.dT ((a0y ks).zip xs))∧RVs K S vs xs
 | .dci ks vs,v=>∃ a xs,v=.ref a∧ks.length=vs.length∧S a=some (.dK ((a3x ks).zip xs))∧RVs K S vs xs
 | .dcz o ks vs,v=>∃ a xs,v=.ref a∧ks.length=vs.length∧S a=some (.frz o (.dT ((a0y ks).zip xs)))∧RVs K S vs xs
noncomputable def RVs (K:Γd) (S:Hp):List FV→List V→Prop
 | [],vs=>vs=[]
 | p :: ps,vs=>∃ v r,vs=v :: r∧RV K S p v∧RVs K S ps r
end
mutual
theorem RV.mono {K:Γd} {S S':Hp} (x:Same S S'):∀ {p:FV} {v:V},RV K S p v→RV K S' p v
 | .non,v,h=>h
 | .bl b,v,h=>h
 | .int i,v,h=>h
 | .str _,v,h=>h
 | .shn _,v,h=>h
 | .tup ps,v,⟨a,xs,e,h1,h2⟩=>⟨a,xs,e,x _ _ h1,RVs.mono x h2⟩
 | .lst ps,v,⟨a,xs,e,h1,h2⟩=>⟨a,xs,e,x _ _ h1,RVs.mono x h2⟩
 | .dct ks vs,v,⟨a,xs,e,h0,h1,h2⟩=>⟨a,xs,e,h0,x _ _ h1,RVs.mono x h2⟩
 | .dci ks vs,v,⟨a,xs,e,h0,h1,h2⟩=>⟨a,xs,e,h0,x _ _ h1,RVs.mono x h2⟩
 | .dcz o ks vs,v,⟨a,xs,e,h0,h1,h2⟩=>⟨a,xs,e,h0,x _ _ h1,RVs.mono x h2⟩
 | .scr ns,v,⟨a,e,h⟩=>⟨a,e,h.elim (fun ⟨o,h⟩=>.inl ⟨o,x _ _ h⟩) .inr⟩
theorem RVs.mono {K:Γd} {S S':Hp} (x:Same S S'):∀ {ps:List FV} {vs:List V},RVs K S ps vs→RVs K S' ps vs
 | [],vs,h=>h
 | p :: ps,vs,⟨v,r,e,h1,h2⟩=>⟨v,r,e,RV.mono x h1,RVs.mono x h2⟩
end
section
variable {K:Γd} {S H:Hp}
theorem RVs.length:∀ {ps:List FV} {vs:List V},RVs K S ps vs→ps.length=vs.length
 | [],vs,h=>by cases (show vs=[] from h); rfl
 | p :: ps,vs,h=>by
  obtain ⟨v,r,e,_,h2⟩:=h
  subst e
  rw [List.length_cons,List.length_cons,RVs.length h2]
theorem RVs.get:∀ {ps:List FV} {vs:List V} {i:Nat} {p:FV},RVs K S ps vs→ps[i]?=some p→∃ v,vs[i]?=some v∧RV K S p v
 | [],vs,i,p,_,e=>by simp at e
 | q :: ps,vs,0,p,⟨v,r,e',h1,_⟩,e=>by
  subst e'
  simp at e; subst e
  exact ⟨v,rfl,h1⟩
 | q :: ps,vs,i + 1,p,⟨v,r,e',_,h2⟩,e=>by
  subst e'
  simpa using RVs.get (i:=i) (p:=p) h2 (by simpa using e)
theorem RVs.append:∀ {ps qs:List FV} {vs us:List V},RVs K S ps vs→RVs K S qs us→RVs K S (ps++qs) (vs++us)
 | [],qs,vs,us,h,g=>by cases (show vs=[] from h); exact g
 | p :: ps,qs,vs,us,⟨v,r,e,h1,h2⟩,g=>by
  subst e
  exact ⟨v,r++us,rfl,h1,RVs.append h2 g⟩
theorem RVs.one {p:FV} {v:V} (h:RV K S p v):RVs K S [p] [v]:=⟨v,[],rfl,h,rfl⟩
theorem RVs.take:∀ {ps:List FV} {vs:List V} (n:Nat),RVs K S ps vs→RVs K S (ps.take n) (vs.take n)
 | [],vs,n,h=>by cases (show vs=[] from h); simp [RVs]
 | p :: ps,vs,0,h=>by simp [RVs]
 | p :: ps,vs,n + 1,⟨v,r,e,h1,h2⟩=>by
  subst e
  exact ⟨v,r.take n,rfl,h1,RVs.take n h2⟩
theorem RVs.drop:∀ {ps:List FV} {vs:List V} (n:Nat),RVs K S ps vs→RVs K S (ps.drop n) (vs.drop n)
 | [],vs,n,h=>by cases (show vs=[] from h); simp [RVs]
 | p :: ps,vs,0,h=>h
 | p :: ps,vs,n + 1,⟨v,r,e,h1,h2⟩=>by
  subst e
  exact RVs.drop n h2
theorem RVs.set:∀ {ps:List FV} {vs:List V} (n:Nat) {p:FV} {v:V},RVs K S ps vs→RV K S p v→RVs K S (ps.set n p) (vs.set n v)
 | [],vs,n,p,v,h,_=>by cases (show vs=[] from h); simp [RVs]
 | q :: ps,vs,0,p,v,⟨v',r,e,h1,h2⟩,g=>by
  subst e
  exact ⟨v,r,rfl,g,h2⟩
 | q :: ps,vs,n + 1,p,v,⟨v',r,e,h1,h2⟩,g=>by
  subst e
  exact ⟨v',r.set n v,rfl,h1,RVs.set n h2 g⟩
theorem RVs.rev:∀ {ps:List FV} {vs:List V},RVs K S ps vs→RVs K S ps.reverse vs.reverse
 | [],vs,h=>by cases (show vs=[] from h); exact h
 | p :: ps,vs,⟨v,r,e,h1,h2⟩=>by
  subst e
  rw [List.reverse_cons,List.reverse_cons]
  exact (RVs.rev h2).append (RVs.one h1)
theorem RVs.rep {ps:List FV} {vs:List V} (h:RVs K S ps vs):∀ k:Nat,RVs K S (Γj k ps).flatten (Γj k vs).flatten
 | 0=>rfl
 | k + 1=>by
  rw [List.replicate_succ,List.replicate_succ,List.flatten_cons,List.flatten_cons]
  exact h.append (h.rep k)
theorem RVs.ns:∀ (ns:List Int),RVs K S (ns.map .int) (ns.map V.int)
 | []=>rfl
 | n :: ns=>⟨_,_,rfl,rfl,RVs.ns ns⟩
theorem RVs.one_of {p:FV} {us:List V} (h:RVs K S [p] us):∃ u,us=[u]∧RV K S p u:=by
 obtain ⟨v,r,rfl,h1,h2⟩:=h
 cases (show r=[] from h2)
 exact ⟨v,rfl,h1⟩
theorem RVs.two_of {p q:FV} {us:List V} (h:RVs K S [p,q] us):∃ u v,us=[u,v]∧RV K S p u∧RV K S q v:=by
 obtain ⟨v,r,rfl,h1,h2⟩:=h
 obtain ⟨u,rfl,h3⟩:=h2.one_of
 exact ⟨v,u,rfl,h1,h3⟩
noncomputable def d3q:FV→Option (List FV)
 | .lst ps=>some ps
 | .dct ks vs=>if ks.length=vs.length then some vs else none
 | .dci ks vs=>if ks.length=vs.length then some vs else none
 | .dcz _ ks vs=>if ks.length=vs.length then some vs else none
 | _=>none
noncomputable def d3r:FV→List V→HO
 | .dct ks _,xs=>.dT ((a0y ks).zip xs)
 | .dci ks _,xs=>.dK ((a3x ks).zip xs)
 | .dcz o ks _,xs=>.frz o (.dT ((a0y ks).zip xs))
 | _,xs=>.lst xs
noncomputable def a4f (K:Γd) (S H:Hp) (a:Addr) (v:FV):Prop:=S a=none∧∃ ps xs,d3q v=some ps∧H a=some (d3r v xs)∧RVs K S ps xs
noncomputable def RH (K:Γd) (S H:Hp) (v:FV) (x:V):Prop:=RV K S v x ∨ ∃ a,x=.ref a∧a4f K S H a v
theorem RH.lst {ps:List FV} {x:V} (s:Same S H) (h:RH K S H (.lst ps) x):∃ a xs,x=.ref a∧H a=some (.lst xs)∧RVs K S ps xs:=by
 rcases h with ⟨a,xs,e,h1,h2⟩ | ⟨a,e,_,qs,xs,e2,h1,h2⟩
 ·exact ⟨a,xs,e,s _ _ h1,h2⟩
 ·cases e2; exact ⟨a,xs,e,h1,h2⟩
theorem RH.val {v:FV} {x:V} (h:RH K S H v x) (n:d3q v=none):RV K S v x:=by
 rcases h with h | ⟨a,_,_,ps,xs,e,_⟩
 ·exact h
 ·rw [n] at e; cases e
theorem RH.tup {ps:List FV} {x:V} (s:Same S H) (h:RH K S H (.tup ps) x):∃ a xs,x=.ref a∧H a=some (.tup xs)∧RVs K S ps xs:=by
 obtain ⟨a,xs,e,h1,h2⟩:=h.val rfl
 exact ⟨a,xs,e,s _ _ h1,h2⟩
theorem ScrAt.sq {a:Addr} {ns:List Int} (s:Same S H) (h:ScrAt K S a ns):SqL K H a (ns.map V.int):=by
 rcases h with ⟨o,h⟩ | h
 ·exact .inl (.inr ⟨o,s _ _ h⟩)
 ·rcases h with (h | ⟨o,h⟩) | h
  ·cases h
  ·cases h
  ·exact .inr h
noncomputable def a2a:FV→Option (List FV)
 | .lst xs=>some xs
 | .scr ns=>some (ns.map .int)
 | _=>none
noncomputable def a3v:FV→Option (List FV)
 | .tup xs=>some xs
 | v=>a2a v
theorem RH.list {v:FV} {ps:List FV} {x:V} (s:Same S H) (h:RH K S H v x) (e:a2a v=some ps):∃ a xs,x=.ref a∧SqL K H a xs∧RVs K S ps xs:=by
 cases v with
 | lst qs =>
  cases e
  obtain ⟨a,xs,rfl,h1,h2⟩:=h.lst s
  exact ⟨a,xs,rfl,SqL.of h1,h2⟩
 | scr ns =>
  cases e
  obtain ⟨a,rfl,g⟩:=h.val rfl
  exact ⟨a,_,rfl,ScrAt.sq s g,RVs.ns ns⟩
 | _=>cases e
noncomputable def isL:FV→Bool
 | .tup _=>false
 | _=>true
theorem RH.seq {v:FV} {ps:List FV} {x:V} (s:Same S H) (h:RH K S H v x) (e:a3v v=some ps):∃ a xs,x=.ref a∧SqB (isL v) K H a xs∧RVs K S ps xs:=by
 cases v with
 | tup qs =>
  cases e
  obtain ⟨a,xs,rfl,h1,h2⟩:=h.tup s
  exact ⟨a,xs,rfl,SqT.of h1,h2⟩
 | lst qs=>exact h.list s e
 | scr qs=>exact h.list s e
 | _=>cases e
end
noncomputable def a9z:HO→Bool
 | .tup _=>true
 | _=>false
theorem a6u (v:FV) (xs:List V):a9z (d3r v xs)=false:=by cases v <;> rfl
structure Cn where
 H0:Hp
 S0:Hp
 P0:Option Addr
 fz:List (Nat×Addr)
 pr:List (Addr×HO)
structure Iv (K:Γd) (c:Cn) (md:Md) (L:a0d) (σ:L2.St) (S H:Hp):Prop where
 len:L.length=σ.length
 imm:∀ i v,a0m md i=.imm→L[i]?=some (some v)→∃ x,σ[i]?=some (some x)∧RV K S v x
 own:∀ i v,a0m md i≠.imm→L[i]?=some (some v)→∃ a,σ[i]?=some (some (.ref a))∧a4f K S H a v∧(c.P0=some a ∨ c.H0 a=none)
 dis:∀ i j v w a,a0m md i≠.imm→a0m md j≠.imm→L[i]?=some (some v)→L[j]?=some (some w)→σ[i]?=some (some (.ref a))→σ[j]?=some (some (.ref a))→i=j
 sub:Same S H
 frame:∀ a o,c.H0 a=some o→c.P0≠some a→H a=some o
 s0:Same c.S0 S
 grow:∀ a o,S a=some o→c.S0 a=some o ∨ c.H0 a=none ∨ a9z o=true
 lent:∀ a,c.P0=some a→a0m md 0≠.imm∧σ[0]?=some (some (.ref a))∧∃ v,L[0]?=some (some v)
 fzs:∀ p∈c.fz,a0m md p.1=.frz∧σ[p.1]?=some (some (.ref p.2))∧∃ v,L[p.1]?=some (some v)
 fzm:∀ i v,a0m md i=.frz→L[i]?=some (some v)→∃ a,(i,a)∈c.fz
 fzp:∀ p∈c.fz,∃ o,(p.2,o)∈c.pr
 prs:∀ p∈c.pr,H p.1=some p.2∧S p.1=none∧∀ i v,a0m md i=.own→L[i]?=some (some v)→σ[i]?≠some (some (.ref p.1))
 ntp:∀ p∈c.pr,a9z p.2=false
section
variable {K:Γd} {c:Cn} {md:Md} {L:a0d} {σ:L2.St} {S H S' H':Hp}
theorem Iv.h0 (I:Iv K c md L σ S H) {p:Addr} (h:H p=none):c.H0 p=none:=by
 cases e:c.H0 p with
 | none=>rfl
 | some o =>
  by_cases z:c.P0=some p
  ·obtain ⟨m,e1,v,e2⟩:=I.lent p z
   obtain ⟨a,e3,⟨_,_,_,_,e4,_⟩,_⟩:=I.own 0 v m e2
   rw [e1] at e3; cases e3
   rw [h] at e4; cases e4
  ·rw [I.frame p o e z] at h; cases h
theorem Iv.sn (I:Iv K c md L σ S H) {p:Addr} (h:H p=none):S p=none:=by
 cases e:S p with
 | none=>rfl
 | some o=>rw [I.sub p o e] at h; cases h
theorem Iv.go3 (I:Iv K c md L σ S H) (s:Same S S') (sub:Same S' H') (g:∀ a o,S' a=some o→S a=some o ∨ H a=none ∨ a9z o=true) (k:∀ a o,H a=some o→H' a=some o):Iv K c md L σ S' H' where
 len:=I.len
 imm:=fun i v h e=>let ⟨x,e1,r⟩:=I.imm i v h e; ⟨x,e1,r.mono s⟩
 own:=fun i v h e=>by
  obtain ⟨a,e1,⟨h1,ps,xs,e2,h2,h3⟩,h4⟩:=I.own i v h e
  refine ⟨a,e1,⟨?_,ps,xs,e2,k _ _ h2,h3.mono s⟩,h4⟩
  cases q:S' a with
  | none=>rfl
  | some o =>
   rcases g a o q with z | z | z
   ·rw [h1] at z; cases z
   ·rw [h2] at z; cases z
   ·have:=sub a o q
    rw [k _ _ h2] at this
    rw [← Option.some.inj this,a6u] at z; cases z
 dis:=I.dis
 sub:=sub
 frame:=fun a o h n=>k _ _ (I.frame a o h n)
 s0:=I.s0.trans s
 grow:=fun a o h=>(g a o h).elim (I.grow a o) fun z=>z.elim (fun z=>.inr (.inl (I.h0 z))) fun z=>.inr (.inr z)
 lent:=I.lent
 fzs:=I.fzs
 fzm:=I.fzm
 fzp:=I.fzp
 prs:=fun p hp=>by
  obtain ⟨h1,h2,h3⟩:=I.prs p hp
  refine ⟨k _ _ h1,?_,h3⟩
  cases q:S' p.1 with
  | none=>rfl
  | some o =>
   rcases g _ o q with z | z | z
   ·rw [h2] at z; cases z
   ·rw [h1] at z; cases z
   ·have:=sub _ o q
    rw [k _ _ h1] at this
    rw [← Option.some.inj this,I.ntp p hp] at z; cases z
 ntp:=I.ntp
theorem Iv.go (I:Iv K c md L σ S H) (s:Same S S') (sub:Same S' H') (g:∀ a o,S' a=some o→S a=some o ∨ H a=none) (k:∀ a o,H a=some o→H' a=some o):Iv K c md L σ S' H':=I.go3 s sub (fun a o e=>(g a o e).imp_right .inl) k
theorem a0h {p:Addr} {o:HO} (h:H p=none):Same H (upd H p o):=fun a u e=>by rw [a0e (a0w e h)]; exact e
theorem Iv.new (I:Iv K c md L σ S H) {p:Addr} (h:H p=none) (o:HO):Iv K c md L σ (upd S p o) (upd H p o) :=
 I.go (a0h (I.sn h)) (fun a u e=>by
  by_cases z:a=p
  ·subst z; rw [a0f] at e ⊢; exact e
  ·rw [a0e z] at e ⊢; exact I.sub a u e) (fun a u e=>by
  by_cases z:a=p
  ·subst z; exact .inr h
  ·rw [a0e z] at e; exact .inl e) (a0h h)
theorem Iv.lay (I:Iv K c md L σ S H) {p:Addr} (h:H p=none) (o:HO):Iv K c md L σ S (upd H p o) :=
 I.go (Same.refl S) (I.sub.trans (a0h h)) (fun a u e=>.inl e) (a0h h)
theorem Iv.back3 (I:Iv K c md L σ S H) {i:Nat} {v w:FV} {a:Addr} (m:a0m md i=.own) (e:L[i]?=some (some v)) (e1:σ[i]?=some (some (.ref a))) (s:Same S S') (sub:Same S' H') (g:∀ a o,S' a=some o→S a=some o ∨ H a=none ∨ a9z o=true)
  (k:∀ b o,H b=some o→b≠a→H' b=some o) (new:a4f K S' H' a w):Iv K c md (L.set i (some w)) σ S' H':=by
 have mi:a0m md i≠.imm:=fun z=>by rw [m] at z; cases z
 have hi:=(List.getElem?_eq_some_iff.mp e).1
 obtain ⟨a',e1',⟨h1,qs,ys,_,h2,h3⟩,h4⟩:=I.own i v mi e
 rw [e1] at e1'; cases e1'
 have look:∀ j u,(L.set i (some w))[j]?=some (some u)→(j=i∧u=w) ∨ (j≠i∧L[j]?=some (some u)):=fun j u z=>by
  by_cases q:j=i
  ·subst q; rw [List.getElem?_set_self hi] at z; cases z; exact .inl ⟨rfl,rfl⟩
  ·rw [List.getElem?_set_ne (Ne.symm q)] at z; exact .inr ⟨q,z⟩
 have lookx:∀ j,(∃ u,L[j]?=some (some u))→∃ u,(L.set i (some w))[j]?=some (some u):=fun j h=>by
  obtain ⟨u,z⟩:=h
  by_cases q:j=i
  ·subst q; exact ⟨_,List.getElem?_set_self hi⟩
  ·exact ⟨u,by rw [List.getElem?_set_ne (Ne.symm q)]; exact z⟩
 have old:∀ j u,(L.set i (some w))[j]?=some (some u)→∃ u,L[j]?=some (some u):=fun j u z=>(look j u z).elim (fun q=>⟨v,by rw [q.1]; exact e⟩) fun q=>⟨u,q.2⟩
 refine ⟨by rw [List.length_set]; exact I.len,fun j u hm z=>?_,fun j u hm z=>?_,fun j k u u2 b m1 m2 z1 z2=>?_,sub,fun b o z n=>?_,I.s0.trans s,fun b o z=>(g b o z).elim (I.grow b o) fun z=>z.elim (fun z=>.inr (.inl (I.h0 z))) fun z=>.inr (.inr z),fun b z=>?_,fun p hp=>?_,fun j u hm z=>?_,I.fzp,fun p hp=>?_,I.ntp⟩
 ·rcases look j u z with ⟨q,_⟩ | ⟨_,z⟩
  ·rw [q,m] at hm; cases hm
  ·obtain ⟨x,f1,f2⟩:=I.imm j u hm z
   exact ⟨x,f1,f2.mono s⟩
 ·rcases look j u z with ⟨rfl,rfl⟩ | ⟨q,z⟩
  ·exact ⟨a,e1,new,h4⟩
  ·obtain ⟨b,f1,⟨g1,rs,zs,g2,g3,g4⟩,g5⟩:=I.own j u hm z
   have hb:b≠a:=fun y=>by subst y; exact q (I.dis j i u v b hm mi z e f1 e1)
   refine ⟨b,f1,⟨?_,rs,zs,g2,k b _ g3 hb,g4.mono s⟩,g5⟩
   cases q':S' b with
   | none=>rfl
   | some o =>
    rcases g b o q' with z | z | z
    ·rw [g1] at z; cases z
    ·rw [g3] at z; cases z
    ·have:=sub b o q'
     rw [k b _ g3 hb] at this
     rw [← Option.some.inj this,a6u] at z; cases z
 ·obtain ⟨w',z1⟩:=old j u z1
  obtain ⟨u',z2⟩:=old k u2 z2
  exact I.dis j k w' u' b m1 m2 z1 z2
 ·refine k b o (I.frame b o z n) fun y=>?_
  subst y
  rcases h4 with y | y
  ·exact n y
  ·rw [z] at y; cases y
 ·obtain ⟨g1,g2,g3⟩:=I.lent b z
  exact ⟨g1,g2,lookx 0 g3⟩
 ·obtain ⟨g1,g2,g4⟩:=I.fzs p hp
  exact ⟨g1,g2,lookx _ g4⟩
 ·rcases look j u z with ⟨q,_⟩ | ⟨_,z⟩
  ·rw [q,m] at hm; cases hm
  ·exact I.fzm j u hm z
 ·obtain ⟨g1,g2,g3⟩:=I.prs p hp
  have kp:=k _ _ g1 fun y=>g3 i v m e (by rw [y]; exact e1)
  refine ⟨kp,?_,fun j u hm z=>let ⟨u',z'⟩:=old j u z; g3 j u' hm z'⟩
  cases q':S' p.1 with
  | none=>rfl
  | some o =>
   rcases g _ o q' with z | z | z
   ·rw [g2] at z; cases z
   ·rw [g1] at z; cases z
   ·have:=sub _ o q'
    rw [kp] at this
    rw [← Option.some.inj this,I.ntp p hp] at z; cases z
theorem Iv.back (I:Iv K c md L σ S H) {i:Nat} {v w:FV} {a:Addr} (m:a0m md i=.own) (e:L[i]?=some (some v)) (e1:σ[i]?=some (some (.ref a))) (s:Same S S') (sub:Same S' H') (g:∀ a o,S' a=some o→S a=some o ∨ H a=none)
  (k:∀ b o,H b=some o→b≠a→H' b=some o) (new:a4f K S' H' a w):Iv K c md (L.set i (some w)) σ S' H':=I.back3 m e e1 s sub (fun a o e=>(g a o e).imp_right .inl) k new
theorem Iv.write (I:Iv K c md L σ S H) {i:Nat} {v:FV} {a:Addr} {ps:List FV} {xs:List V} (m:a0m md i=.own) (e:L[i]?=some (some v)) (e1:σ[i]?=some (some (.ref a))) (r:RVs K S ps xs) :
  Iv K c md (L.set i (some (.lst ps))) σ S (upd H a (.lst xs)):=by
 obtain ⟨a',e1',⟨h1,_⟩,_⟩:=I.own i v (fun z=>by rw [m] at z; cases z) e
 rw [e1] at e1'; cases e1'
 exact I.back m e e1 (Same.refl S) (fun b o z=>by rw [a0e fun y=>by subst y; rw [h1] at z; cases z]; exact I.sub b o z) (fun b o z=>.inl z) (fun b o z n=>by rw [a0e n]; exact z) ⟨h1,ps,xs,rfl,a0f,r⟩
theorem Iv.set (I:Iv K c md L σ S H) {i:Nat} {v:FV} {x:V} (ni:∀ a,c.P0=some a→i≠0) (nf:a0m md i≠.frz) (h:(a0m md i=.imm∧RV K S v x) ∨ (a0m md i=.own∧∃ a,x=.ref a∧a4f K S H a v∧c.H0 a=none∧(∀ p∈c.pr,p.1≠a)∧∀ j w,j≠i→a0m md j≠.imm→L[j]?=some (some w)→σ[j]?≠some (some (.ref a)))) :
  Iv K c md (L.set i (some v)) (σ.set i (some x)) S H:=by
 have look:∀ j w,(L.set i (some v))[j]?=some (some w)→(j=i∧w=v∧(σ.set i (some x))[j]?=some (some x)) ∨ (j≠i∧L[j]?=some (some w)∧(σ.set i (some x))[j]?=σ[j]?):=fun j w z=>by
  by_cases q:j=i
  ·subst q
   have hj:j < L.length:=by have:=(List.getElem?_eq_some_iff.mp z).1; rwa [List.length_set] at this
   rw [List.getElem?_set_self hj] at z; cases z
   exact .inl ⟨rfl,rfl,by rw [List.getElem?_set_self (by rw [← I.len]; exact hj)]⟩
  ·rw [List.getElem?_set_ne (Ne.symm q)] at z
   exact .inr ⟨q,z,List.getElem?_set_ne (Ne.symm q)⟩
 have far:∀ j,j≠i→(L.set i (some v))[j]?=L[j]?∧(σ.set i (some x))[j]?=σ[j]?:=fun j q=>⟨List.getElem?_set_ne (Ne.symm q),List.getElem?_set_ne (Ne.symm q)⟩
 refine ⟨by rw [List.length_set,List.length_set]; exact I.len,fun j w hm z=>?_,fun j w hm z=>?_,fun j k w u b m1 m2 z1 z2 y1 y2=>?_,I.sub,I.frame,I.s0,I.grow,fun b z=>?_,fun p hp=>?_,fun j w hm z=>?_,I.fzp,fun p hp=>?_,I.ntp⟩
 ·rcases look j w z with ⟨rfl,rfl,y⟩ | ⟨q,z,y⟩
  ·rcases h with ⟨_,r⟩ | ⟨hm',_⟩
   ·exact ⟨x,y,r⟩
   ·rw [hm] at hm'; cases hm'
  ·rw [y]; exact I.imm j w hm z
 ·rcases look j w z with ⟨rfl,rfl,y⟩ | ⟨q,z,y⟩
  ·rcases h with ⟨hm',_⟩ | ⟨_,a,rfl,o,h0,_,_⟩
   ·exact absurd hm' hm
   ·exact ⟨a,y,o,.inr h0⟩
  ·rw [y]; exact I.own j w hm z
 ·rcases look j w z1 with ⟨p1,p2,p3⟩ | ⟨p1,p2,p3⟩
  ·rcases look k u z2 with ⟨q1,q2,q3⟩ | ⟨q1,q2,q3⟩
   ·rw [p1,q1]
   ·rcases h with ⟨hm',_⟩ | ⟨_,a,rfl,_,_,_,n⟩
    ·rw [p1] at m1; exact absurd hm' m1
    ·rw [p3] at y1; cases y1
     rw [q3] at y2
     exact absurd y2 (n k u q1 m2 q2)
  ·rw [p3] at y1
   rcases look k u z2 with ⟨q1,q2,q3⟩ | ⟨q1,q2,q3⟩
   ·rcases h with ⟨hm',_⟩ | ⟨_,a,rfl,_,_,_,n⟩
    ·rw [q1] at m2; exact absurd hm' m2
    ·rw [q3] at y2; cases y2
     exact absurd y1 (n j w p1 m1 p2)
   ·rw [q3] at y2
    exact I.dis j k w u b m1 m2 p2 q2 y1 y2
 ·obtain ⟨g1,g2,g3⟩:=I.lent b z
  obtain ⟨f1,f2⟩:=far 0 (Ne.symm (ni b z))
  rw [f1,f2]; exact ⟨g1,g2,g3⟩
 ·obtain ⟨g1,g2,g4⟩:=I.fzs p hp
  obtain ⟨f1,f2⟩:=far p.1 fun y=>nf (by rw [← y]; exact g1)
  rw [f1,f2]; exact ⟨g1,g2,g4⟩
 ·rcases look j w z with ⟨rfl,_,_⟩ | ⟨_,z,_⟩
  ·exact absurd hm nf
  ·exact I.fzm j w hm z
 ·obtain ⟨g1,g2,g3⟩:=I.prs p hp
  refine ⟨g1,g2,fun j w hm z=>?_⟩
  rcases look j w z with ⟨q1,q2,q3⟩ | ⟨q1,q2,q3⟩
  ·rcases h with ⟨hm',_⟩ | ⟨_,a,rfl,_,_,n,_⟩
   ·rw [q1,hm'] at hm; cases hm
   ·rw [q3]; exact fun y=>n p hp (by cases y; rfl)
  ·rw [q3]; exact g3 j w hm q2
theorem Iv.tup (I:Iv K c md L σ S H) {b:Addr} {xs:List V} (h:H b=some (.tup xs)):Iv K c md L σ (upd S b (.tup xs)) H∧Same S (upd S b (.tup xs)):=by
 have s:Same S (upd S b (.tup xs)):=fun a o e=>by
  by_cases z:a=b
  ·subst z; rw [I.sub _ _ e] at h; rw [h,a0f]
  ·rw [a0e z]; exact e
 refine ⟨I.go3 s (fun a o e=>?_) (fun a o e=>?_) fun a o e=>e,s⟩
 ·by_cases z:a=b
  ·subst z; rw [a0f] at e; rw [← e]; exact h
  ·rw [a0e z] at e; exact I.sub a o e
 ·by_cases z:a=b
  ·subst z; rw [a0f] at e; cases e; exact .inr (.inr rfl)
  ·rw [a0e z] at e; exact .inl e
end
end Kq
end
section
namespace Kq
noncomputable def b6l {α β:Type} (f:α→Option β):List α→Option (List β)
 | []=>some []
 | x :: xs=>(f x).bind fun y=>(b6l f xs).map (y :: ·)
noncomputable def fD:Nat→FV→Option D
 | 0,_=>none
 | n + 1,v=>match v with
  | .non=>some .non
  | .bl b=>some (.bl b)
  | .int i=>some (.int i)
  | .str x=>some (.str x)
  | .tup xs=>(b6l (fD n) xs).map .tup
  | .lst xs=>(b6l (fD n) xs).map .lst
  | .scr _=>none
  | .shn _=>none
  | .dct _ _=>none
  | .dci _ _=>none
  | .dcz _ _ _=>none
noncomputable def a1e:Nat:=40
noncomputable def c1l:FV→Option Bool
 | .non=>some false
 | .bl b=>some b
 | .int i=>some (i != 0)
 | .str _=>none
 | .tup xs=>some (!xs.isEmpty)
 | .lst xs=>some (!xs.isEmpty)
 | .scr xs=>some (!xs.isEmpty)
 | .shn _=>none
 | .dct _ _=>none
 | .dci _ _=>none
 | .dcz _ _ _=>none
noncomputable def a5f:FV→Option Int | .int i=>some i | _=>none
noncomputable def blF:FV→Option Bool | .bl b=>some b | _=>none
noncomputable def a8y:FV→Option (List FV) | .tup xs=>some xs | _=>none
noncomputable def a8f:FV→Option (List FV) | .lst xs=>some xs | _=>none
noncomputable def a2h (i:Int):Bool:=decide (-(2 ^ 64) < i∧i < 2 ^ 64)
noncomputable def a1v (i:Int):Bool:=decide (-(2 ^ 62)≤i∧i < 2 ^ 62)
noncomputable def a9c (i:Int):Bool:=decide (-(2 ^ 40)≤i∧i≤2 ^ 40)
noncomputable def eqD (a b:FV):Option Bool:=(fD a1e a).bind fun x=>(fD a1e b).bind fun y=>some (D.eqv x y)
noncomputable def eqF (a b:FV):Option Bool:=match a,b with
 | .shn x,.shn y=>open Classical in if x=y then some true else none
 | a,b=>eqD a b
noncomputable def inD:D→D→Option Bool
 | x,.lst xs=>some (xs.any fun y=>D.eqv y x)
 | x,.tup xs=>some (xs.any fun y=>D.eqv y x)
 | _,_=>none
noncomputable def inF (a b:FV):Option Bool:=(fD a1e a).bind fun x=>(fD a1e b).bind fun y=>inD x y
noncomputable def a0o:List FV→Option (List Int)
 | []=>some []
 | .int i :: r=>(a0o r).map (i :: ·)
 | _=>none
noncomputable def a5b:List FV→Option (List Bool)
 | []=>some []
 | .bl b :: r=>(a5b r).map (b :: ·)
 | _=>none
noncomputable def c9j:List FV→Option (List (List Int))
 | []=>some []
 | .tup xs :: r=>(a0o xs).bind fun t=>(c9j r).map (t :: ·)
 | _=>none
noncomputable def lexLt:List Int→List Int→Bool
 | [],[]=>false
 | [],_ :: _=>true
 | _ :: _,[]=>false
 | a :: r,b :: q=>if a=b then lexLt r q else decide (a < b)
noncomputable def lexLe:List Int→List Int→Bool
 | [],[]=>true
 | [],_ :: _=>true
 | _ :: _,[]=>false
 | a :: r,b :: q=>if a=b then lexLe r q else decide (a≤b)
noncomputable def a3k (f:Int→Int→Option FV) (v w:FV):Option FV:=(a5f v).bind fun i=>(a5f w).bind fun j=>f i j
noncomputable def a3s (v w:FV):Option FV:=match v with
 | .tup xs=>(a8y w).bind fun ys=>if xs.length + ys.length≤big then some (.tup (xs++ys)) else none
 | .lst xs=>(a8f w).bind fun ys=>if xs.length + ys.length≤big then some (.lst (xs++ys)) else none
 | v=>a3k (fun i j=>some (.int (i + j))) v w
noncomputable def d3o:FV→FV→Option FV:=a3k fun i j=>some (.int (i - j))
noncomputable def b6k (v w:FV):Option FV:=match v with
 | .lst xs=>(a5f w).bind fun k=>if -(2 ^ 63)≤k∧k < 2 ^ 63∧xs.length * k.toNat≤big then some (.lst (Γj k.toNat xs).flatten) else none
 | v=>a3k (fun i j=>if (a2h i || a2h j)=true then some (.int (i * j)) else none) v w
noncomputable def b9r:FV→FV→Option FV:=a3k fun i j=>if 0 < j∧j < 1073741824 then some (.int (i / j)) else none
noncomputable def c4w:FV→FV→Option FV:=a3k fun i j=>if 0 < j then some (.int (i % j)) else none
noncomputable def d0q:FV→FV→Option FV:=a3k fun i j=>if 0≤j∧j≤1000∧a2h i=true then some (.int (i ^ j.toNat)) else none
noncomputable def eqB (a b:FV):Option FV:=(eqF a b).map .bl
noncomputable def neB (a b:FV):Option FV:=(eqF a b).map fun r=>.bl (!r)
noncomputable def inB (a b:FV):Option FV:=(inF a b).map .bl
noncomputable def niB (a b:FV):Option FV:=(inF a b).map fun r=>.bl (!r)
noncomputable def ltB (v w:FV):Option FV:=match v with
 | .tup xs=>(a8y w).bind fun ys=>(a0o xs).bind fun a=>(a0o ys).bind fun b=>some (.bl (lexLt a b))
 | v=>a3k (fun i j=>some (.bl (decide (i < j)))) v w
noncomputable def leB (v w:FV):Option FV:=match v with
 | .tup xs=>(a8y w).bind fun ys=>(a0o xs).bind fun a=>(a0o ys).bind fun b=>some (.bl (lexLe a b))
 | v=>a3k (fun i j=>some (.bl (decide (i≤j)))) v w
noncomputable def gtB:FV→FV→Option FV:=a3k fun i j=>some (.bl (decide (j < i)))
noncomputable def geB:FV→FV→Option FV:=a3k fun i j=>some (.bl (decide (j≤i)))
noncomputable def ixN (n:Nat) (i:Int):Option Nat:=if 0≤i then (if i < n then some i.toNat else none) else if -(n:Int)≤i then some (i + n).toNat else none
noncomputable def atF (xs:List FV) (i:Int):Option FV:=(ixN xs.length i).bind fun j=>xs[j]?
noncomputable def ixF (v w:FV):Option FV:=(a5f w).bind fun j=>(a3v v).bind fun xs=>atF xs j
noncomputable def b5l:FV→FV→Option FV:=a3k fun i j=>some (.int (if j < i then j else i))
noncomputable def b8l:FV→FV→Option FV:=a3k fun i j=>some (.int (if j > i then j else i))
noncomputable def a2l:FV→Option FV | .non=>some (.bl true) | _=>some (.bl false)
noncomputable def a0n:FV→Option FV | .non=>some (.bl false) | _=>some (.bl true)
noncomputable def b9j (c:Bool):FV→Option FV | .bl b=>some (.bl (b == c)) | _=>some (.bl false)
noncomputable def a5w (c:Bool):FV→Option FV | .bl b=>some (.bl (b != c)) | _=>some (.bl true)
noncomputable def d6t (v:FV):Option FV:=(blF v).map fun b=>.bl (!b)
noncomputable def negF (v:FV):Option FV:=(a5f v).map fun i=>.int (-i)
noncomputable def turnF (v:FV):Option FV:=(a8y v).map fun xs=>.tup xs.reverse
noncomputable def a8h (v:FV):Option FV:=(a3v v).map fun xs=>.int xs.length
noncomputable def d3m (v:FV):Option FV:=(a5f v).map fun i=>.int (if i < 0 then -i else i)
noncomputable def b3p:FV→Option FV | .int i=>some (.int i) | .bl b=>some (.int (if b then 1 else 0)) | _=>none
noncomputable def c9c (xs:List FV):Option Int:=(a0o xs).bind fun ns=>if ns.length≤big∧ns.all a9c=true then some ns.sum else none
noncomputable def c9p (v:FV):Option FV:=(a2a v).bind fun xs=>(c9c xs).map .int
noncomputable def d4r (v:FV):Option FV:=(a2a v).bind fun xs=>(a5b xs).map fun bs=>.bl (bs.all id)
noncomputable def c9f (v:FV):Option FV:=(a2a v).bind fun xs=>(a5b xs).map fun bs=>.bl (bs.any id)
noncomputable def a1p (b:Int):List Int→Int
 | []=>b
 | x :: r=>a1p (if x < b then x else b) r
noncomputable def c5c (b:List Int):List (List Int)→List Int
 | []=>b
 | x :: r=>c5c (if lexLt x b=true then x else b) r
noncomputable def d3u (xs:List FV):Option FV:=(a0o xs).bind fun ns=>match ns with
 | n :: r=>some (.int (a1p n r))
 | []=>none
noncomputable def minT (xs:List FV):Option FV:=(c9j xs).bind fun ns=>match ns with
 | n :: r=>some (.tup ((c5c n r).map .int))
 | []=>none
noncomputable def c2t (v:FV):Option FV:=(a2a v).bind d3u
noncomputable def minTF (v:FV):Option FV:=(a2a v).bind minT
noncomputable def a2x (v:FV):Option FV:=(a3v v).map .tup
noncomputable def a6z (v:FV):Option FV:=(a3v v).map .lst
noncomputable def shnF (v:FV):Option FV:=(fD a1e v).bind fun d=>if d.fit=true∧d.wt≤big then some (.shn d) else none
noncomputable def strF (v:FV):Option FV:=match v with
 | .non=>some (.str "None")
 | .bl b=>some (.str (if b then "True" else "False"))
 | .str x=>some (.str x)
 | .int i=>if -(2 ^ 150) < i∧i < 2 ^ 150 then some (.str (toString i)) else none
 | .tup xs=>shnF (.tup xs)
 | .lst xs=>shnF (.lst xs)
 | .scr _=>none | .shn _=>none | .dct _ _=>none | .dci _ _=>none | .dcz _ _ _=>none
inductive Ty where | int | bool | str | list | tuple
 deriving DecidableEq
noncomputable def a7d:FV→Ty→Option Bool
 | .non,_=>some false
 | .bl _,t=>some (t == .int || t == .bool)
 | .int _,t=>some (t == .int)
 | .str _,t=>some (t == .str)
 | .tup _,t=>some (t == .tuple)
 | .lst _,t=>some (t == .list)
 | .scr _,_=>none
 | .shn _,t=>some (t == .str)
 | .dct _ _,_=>none
 | .dci _ _,_=>none
 | .dcz _ _ _,_=>none
noncomputable def d2b (t:Ty) (v:FV):Option FV:=(a7d v t).map .bl
noncomputable def isi2F (t u:Ty) (v:FV):Option FV:=(a7d v t).bind fun a=>(a7d v u).map fun b=>.bl (a || b)
noncomputable def sIx (n d:Nat):Option Int→Nat
 | none=>d
 | some v=>if v < 0 then (v + n).toNat else min v.toNat n
noncomputable def b2f {α:Type} (xs:List α) (lo hi:Option Int):List α:=(xs.drop (sIx xs.length 0 lo)).take (sIx xs.length xs.length hi - sIx xs.length 0 lo)
noncomputable def a5v (v:FV) (lo hi:Option Int):Option FV:=match v with
 | .tup xs=>some (.tup (b2f xs lo hi))
 | .lst xs=>some (.lst (b2f xs lo hi))
 | _=>none
abbrev EW:=a0d→(FV→a0d→Prop)→Prop
abbrev BW:=a0d→(Bool→a0d→Prop)→Prop
abbrev AW:=a0d→(List FV→a0d→Prop)→Prop
abbrev OW:=a0d→(Option Int→a0d→Prop)→Prop
noncomputable def a0b (i:Nat):EW:=fun L Q=>wp (lk L i) fun x=>Q x L
noncomputable def eC (v:FV):EW:=fun L Q=>Q v L
noncomputable def eUn (f:FV→Option FV) (a:EW):EW:=fun L Q=>a L fun x L1=>wp (f x) fun z=>Q z L1
noncomputable def eOp (f:FV→FV→Option FV) (a b:EW):EW:=fun L Q=>a L fun x L1=>b L1 fun y L2=>wp (f x y) fun z=>Q z L2
noncomputable def b0n (f:FV→FV→Option FV) (i:Nat) (b:EW):EW:=fun L Q=>wp (lk L i) fun _=>b L fun y L1=>wp (lk L1 i) fun x=>wp (f x y) fun z=>Q z L1
noncomputable def eChain (f g:FV→FV→Option FV) (a b c:EW):EW:=fun L Q=>a L fun x L1=>b L1 fun y L2=>wp (f x y) fun r=>wp (blF r) fun r=>if r=true then c L2 fun z L3=>wp (g y z) fun q=>Q q L3 else Q (.bl false) L2
noncomputable def d2x (a b:EW):EW:=fun L Q=>a L fun x L1=>wp (c1l x) fun r=>if r=true then b L1 Q else Q x L1
noncomputable def eOr (a b:EW):EW:=fun L Q=>a L fun x L1=>wp (c1l x) fun r=>if r=true then Q x L1 else b L1 Q
noncomputable def eIf (c:BW) (a b:EW):EW:=fun L Q=>c L fun r L1=>if r=true then a L1 Q else b L1 Q
noncomputable def a2c (a:EW):BW:=fun L Q=>a L fun x L1=>wp (c1l x) fun b=>Q b L1
noncomputable def c3x (a b:BW):BW:=fun L Q=>a L fun r L1=>if r=true then b L1 Q else Q false L1
noncomputable def bOr (a b:BW):BW:=fun L Q=>a L fun r L1=>if r=true then Q true L1 else b L1 Q
noncomputable def d3k (a:BW):BW:=fun L Q=>a L fun r L1=>Q (!r) L1
noncomputable def a2b:BW:=fun L Q=>Q true L
noncomputable def a0k:AW:=fun L Q=>Q [] L
noncomputable def a0a (a:EW) (r:AW):AW:=fun L Q=>a L fun x L1=>r L1 fun xs L2=>Q (x :: xs) L2
noncomputable def a3y (a:AW):EW:=fun L Q=>a L fun xs L1=>xs.length≤big∧Q (.tup xs) L1
noncomputable def b0o (a:AW):EW:=fun L Q=>a L fun xs L1=>xs.length≤big∧Q (.lst xs) L1
noncomputable def b2v:OW:=fun L Q=>Q none L
noncomputable def b2u (a:EW):OW:=fun L Q=>a L fun x L1=>wp (a5f x) fun i=>Q (some i) L1
noncomputable def eSl (a:EW) (l h:OW):EW:=fun L Q=>a L fun x L1=>l L1 fun i L2=>h L2 fun j L3=>wp (a5v x i j) fun z=>Q z L3
noncomputable def d2s (k:Nat) (l h:OW):EW:=fun L Q=>wp (lk L k) fun _=>l L fun i L2=>h L2 fun j L3=>wp (lk L3 k) fun x=>wp (a5v x i j) fun z=>Q z L3
abbrev CW:=Nat→List FV→(FV×FV→Prop)→Prop
noncomputable def a1q (call:CW) (f:Nat) (a:AW):EW:=fun L Q=>a L fun xs L1=>call f xs fun z=>Q z.1 L1
noncomputable def a0q (call:CW) (f i:Nat) (a:AW):EW:=fun L Q=>wp (lk L i) fun _=>a L fun xs L1=>wp (lk L1 i) fun x=>call f (x :: xs) fun z=>Q z.1 (L1.set i (some z.2))
noncomputable def d3l (v y:FV):Option FV:=(a8f v).bind fun xs=>if xs.length < big then some (.lst (xs++[y])) else none
noncomputable def nscF:FV→Option (List FV) | .tup xs=>some xs | .lst xs=>some xs | _=>none
noncomputable def d9n (v y:FV):Option FV:=(a8f v).bind fun xs=>(nscF y).bind fun ys=>if xs.length + ys.length≤big then some (.lst (xs++ys)) else none
noncomputable def b3e (f:FV→FV→Option FV) (i:Nat) (a:EW):EW:=fun L Q=>wp (lk L i) fun v=>wp (a8f v) fun _=>a L fun y L1=>wp (lk L1 i) fun x=>wp (f x y) fun z=>Q .non (L1.set i (some z))
noncomputable def upF (lo:Int):Nat→List FV
 | 0=>[]
 | n + 1=>.int lo :: upF (lo + 1) n
noncomputable def a3w (xs ys:List FV):List FV:=xs.zipWith (fun p q=>.tup [p,q]) ys
noncomputable def a8n (a:EW):AW:=fun L Q=>a L fun x L1=>wp (a3v x) fun xs=>Q xs L1
noncomputable def b0m (a:EW):AW:=fun L Q=>a L fun x L1=>wp (a5f x) fun j=>a1v j=true∧Q (upF 0 j.toNat) L1
noncomputable def iRng2 (a b:EW):AW:=fun L Q=>a L fun x L1=>b L1 fun y L2=>wp (a5f x) fun i=>wp (a5f y) fun j=>(a1v i && a1v j)=true∧Q (upF i (j - i).toNat) L2
noncomputable def d2h (a b:EW):AW:=fun L Q=>a L fun x L1=>b L1 fun y L2=>wp (a3v x) fun xs=>wp (a3v y) fun ys=>Q (a3w xs ys) L2
noncomputable def b5v (a:EW):AW:=fun L Q=>a L fun x L1=>wp (a3v x) fun xs=>Q (a3w (upF 0 xs.length) xs) L1
inductive Tg where | nm (i:Nat) | tp (is:List Nat) | tn (i:Nat) (is:List Nat)
noncomputable def d6m:List FV→Option (FV×FV) | [a,b]=>some (a,b) | _=>none
noncomputable def a9f:a0d→List Nat→List FV→Option a0d
 | L,[],[]=>some L
 | L,i :: is,v :: vs=>a9f (L.set i (some v)) is vs
 | _,_,_=>none
noncomputable def gW (tg:Tg) (v:FV) (L:a0d) (Q:a0d→Prop):Prop:=match tg with
 | .nm i=>Q (L.set i (some v))
 | .tp is=>wp (a8y v) fun xs=>wp (a9f L is xs) Q
 | .tn i is=>wp (a8y v) fun xs=>wp (d6m xs) fun p=>wp (a8y p.2) fun ys=>wp (a9f (L.set i (some p.1)) is ys) Q
noncomputable def a5s (n m:Nat) (tg:Tg) (t:BW) (e:EW):List FV→List FV→a0d→(List FV→a0d→Prop)→Prop
 | [],acc,L,Q=>Q acc L
 | x :: xs,acc,L,Q=>gW tg x (L++Γj m none) fun L1=>t L1 fun b L2=>if b=true then e L2 fun v L3=>a5s n m tg t e xs (acc++[v]) (L3.take n) Q else a5s n m tg t e xs acc (L2.take n) Q
noncomputable def a1z (n m:Nat) (it:AW) (tg:Tg) (t:BW) (e:EW):EW:=fun L Q=>it L fun xs L1=>L1.length=n∧xs.length≤big∧a5s n m tg t e xs [] L1 fun ys L2=>Q (.lst ys) L2
inductive FFl where | next | ret (v:FV) | brk | cont
abbrev SW:=a0d→(FFl→a0d→Prop)→Prop
noncomputable def aft (k:a0d→Prop) (Q:FFl→a0d→Prop):FFl→a0d→Prop
 | .next,L=>k L
 | .ret v,L=>Q (.ret v) L
 | .brk,L=>Q .brk L
 | .cont,L=>Q .cont L
noncomputable def a9i:SW:=fun L Q=>Q .next L
noncomputable def a0u (s r:SW):SW:=fun L Q=>s L (aft (fun L1=>r L1 Q) Q)
noncomputable def a1g (e:EW) (tg:Tg):SW:=fun L Q=>e L fun x L1=>gW tg x L1 fun L2=>Q .next L2
noncomputable def d5j (v j x:FV):Option FV:=(a8f v).bind fun xs=>(a5f j).bind fun n=>(ixN xs.length n).map fun p=>.lst (xs.set p x)
noncomputable def c6d (k:Nat) (i e:EW):SW:=fun L Q=>wp (lk L k) fun _=>e L fun x L1=>i L1 fun j L2=>wp (lk L2 k) fun y=>wp (d5j y j x) fun z=>Q .next (L2.set k (some z))
noncomputable def sAug (f:FV→FV→Option FV) (i:Nat) (e:EW):SW:=fun L Q=>wp (lk L i) fun a=>e L fun x L1=>wp (f a x) fun z=>Q .next (L1.set i (some z))
noncomputable def a2n (e:EW):SW:=fun L Q=>e L fun x L1=>Q (.ret x) L1
noncomputable def sRetN:SW:=fun L Q=>Q (.ret .non) L
noncomputable def c4l (e:EW):SW:=fun L Q=>e L fun _ L1=>Q .next L1
noncomputable def sIf (c:BW) (a b:SW):SW:=fun L Q=>c L fun r L1=>if r=true then a L1 Q else b L1 Q
noncomputable def sBrk:SW:=fun L Q=>Q .brk L
noncomputable def sCont:SW:=fun L Q=>Q .cont L
noncomputable def b2h (k:a0d→Prop) (Q:FFl→a0d→Prop):FFl→a0d→Prop
 | .next,L=>k L
 | .cont,L=>k L
 | .brk,L=>Q .next L
 | .ret v,L=>Q (.ret v) L
noncomputable def c8f (tg:Tg) (b:SW):List FV→a0d→(FFl→a0d→Prop)→Prop
 | [],L,Q=>Q .next L
 | x :: xs,L,Q=>gW tg x L fun L1=>b L1 (b2h (fun L2=>c8f tg b xs L2 Q) Q)
noncomputable def a8c (it:AW) (tg:Tg) (b:SW):SW:=fun L Q=>it L fun xs L1=>c8f tg b xs L1 Q
noncomputable def c9a (c:BW) (b:SW):Nat→a0d→(FFl→a0d→Prop)→Prop
 | 0,_,_=>False
 | n + 1,L,Q=>c L fun r L1=>if r=true then b L1 (b2h (fun L2=>c9a c b n L2 Q) Q) else Q .next L1
noncomputable def c9d (c:BW) (b:SW):SW:=fun L Q=>∃ n,c9a c b n L Q
structure FD where
 np:Nat
 ns:Nat
 body:CW→SW
 io:Bool
 fr:Bool
noncomputable def c1e (io fr:Bool) (Q:FV×FV→Prop):FFl→a0d→Prop
 | .ret v,L=>match io with
  | true=>wp (lk L 0) fun x=>Q (v,x)
  | false=>Q (v,.non)
 | .next,L=>match fr with
  | true=>False
  | false=>match io with
   | true=>wp (lk L 0) fun x=>Q (.non,x)
   | false=>Q (.non,.non)
 | _,_=>False
noncomputable def callW (tb:List FD):Nat→CW
 | 0,_,_,_=>False
 | d + 1,f,args,Q=>match tb[f]? with
  | none=>False
  | some fd=>args.length=fd.np∧fd.body (callW tb d) (args.map some++Γj (fd.ns - fd.np) none) (c1e fd.io fd.fr Q)
end Kq
end
section
namespace Kq
open PySem PySem.Spec PyProof.Rows L2
theorem b1b {x y:String} (h:Γe x=Γe y):x=y:=by
 rw [Str.ofString_eq_toList,Str.ofString_eq_toList] at h
 have h2:x.toList.map Char.toNat=y.toList.map Char.toNat:=by
  injection h with h
  simpa using congrArg Array.toList h
 have inj:∀ (a b:List Char),a.map Char.toNat=b.map Char.toNat→a=b:=by
  intro a
  induction a with
  | nil=>intro b hb; cases b <;> simp_all
  | cons c a ih =>
   intro b hb
   cases b with
   | nil=>simp at hb
   | cons d b =>
    simp only [List.map_cons,List.cons.injEq] at hb
    rw [ih b hb.2,Char.toNat_inj.mp hb.1]
 exact String.toList_inj.mp (inj _ _ h2)
theorem c9r (a b:String):(Γe a == Γe b)=(a == b):=by
 rw [Bool.eq_iff_iff]
 simp only [beq_iff_eq]
 exact ⟨b1b,fun h=>by rw [h]⟩
theorem c9q (x:String):PyData.strOk (Γe x)=true:=by
 rw [Str.ofString_eq_toList]
 unfold PyData.strOk
 simp only [List.all_toArray,List.all_map,List.all_eq_true,Function.comp_apply,decide_eq_true_eq]
 intro c _
 have h:c.val.toNat < 0xd800 ∨ (0xdfff < c.val.toNat∧c.val.toNat < 0x110000):=c.valid
 show c.val.toNat < 1114112
 lia
mutual
theorem a7m:∀ d:D,(dPy d).canLay0=true
 | .non=>rfl
 | .bl _=>rfl
 | .int _=>rfl
 | .str x=>by simp only [dPy,PyData.canLay0]; exact c9q x
 | .tup xs=>by simp only [dPy,PyData.canLay0]; exact a7l xs
 | .lst xs=>by simp only [dPy,PyData.canLay0]; exact a7l xs
theorem a7l:∀ xs:List D,PyData.canLayAll0 (a4z xs)=true
 | []=>rfl
 | x :: xs=>by simp only [a4z,PyData.canLayAll0,a7m x,a7l xs,Bool.and_self]
end
mutual
theorem c0l:∀ a b:D,PyData.eqv (dPy a) (dPy b)=D.eqv a b
 | .non,b=>by cases b <;> simp only [dPy,PyData.eqv,D.eqv]
 | .bl _,b=>by cases b <;> simp only [dPy,PyData.eqv,D.eqv]
 | .int _,b=>by cases b <;> simp only [dPy,PyData.eqv,D.eqv]
 | .str x,b=>by cases b <;> simp only [dPy,PyData.eqv,D.eqv,c9r]
 | .tup xs,b=>by cases b <;> simp only [dPy,PyData.eqv,D.eqv,c0k]
 | .lst xs,b=>by cases b <;> simp only [dPy,PyData.eqv,D.eqv,c0k]
theorem c0k:∀ a b:List D,PyData.eqvAll (a4z a) (a4z b)=D.eqvs a b
 | [],b=>by cases b <;> simp only [a4z,PyData.eqvAll,D.eqvs]
 | x :: xs,b=>by cases b <;> simp only [a4z,PyData.eqvAll,D.eqvs,c0l,c0k]
end
theorem c0m (x:D):∀ xs:List D,((a4z xs).any fun y=>PyData.eqv y (dPy x))=xs.any fun y=>D.eqv y x
 | []=>rfl
 | y :: r=>by simp only [a4z,List.any_cons,c0l,c0m x r]
mutual
theorem c3q:∀ d:D,(dPy d).hasDict=false
 | .non=>rfl
 | .bl _=>rfl
 | .int _=>rfl
 | .str x=>rfl
 | .tup xs=>by simp only [dPy,PyData.hasDict]; exact a7k xs
 | .lst xs=>by simp only [dPy,PyData.hasDict]; exact a7k xs
theorem a7k:∀ xs:List D,PyData.hasDictAll (a4z xs)=false
 | []=>rfl
 | x :: xs=>by simp only [a4z,PyData.hasDictAll,c3q x,a7k xs,Bool.or_self]
end
theorem log2_lt {i:Int} {k:Nat} (hk:0 < k) (h:-(2 ^ k:Int) < i∧i < 2 ^ k):i.natAbs.log2 < k:=by
 by_cases h0:i.natAbs=0
 ·rw [h0]; simpa using hk
 ·rw [Nat.log2_lt h0]
  have e:((2 ^ k:Nat):Int)=(2:Int) ^ k:=by rw [Int.natCast_pow]; rfl
  lia
mutual
theorem d9z:∀ d:D,d.fit=true→(dPy d).showable=true∧(dPy d).intsShort 160=true∧(dPy d).weight≤d.wt
 | .non,_=>⟨rfl,rfl,Γi _⟩
 | .bl _,_=>⟨rfl,rfl,Γi _⟩
 | .int i,h=>by
  have h:-(2 ^ 150:Int) < i∧i < 2 ^ 150:=by simpa [D.fit] using h
  have l1:=log2_lt (k:=150) (by decide) h
  refine ⟨?_,?_,?_⟩
  ·simp only [dPy,PyData.showable,decide_eq_true_eq]; lia
  ·simp only [dPy,PyData.intsShort,decide_eq_true_eq]
   have e:=int_text_length_le (k:=150) (by decide) l1
   show (Γe (toString i)).length≤160
   rw [PySem.ofString_length]; lia
  ·simp only [dPy,PyData.weight,D.wt]
   split
   ·lia
   ·split
    ·rename_i hs
     have l2:=log2_lt (k:=40) (by decide) hs
     lia
    ·lia
 | .str x,_=>by
  refine ⟨rfl,rfl,?_⟩
  simp only [dPy,PyData.weight,D.wt]
  have:(Γe x).length=x.length:=PySem.ofString_length x
  exact Nat.le_of_eq this
 | .tup xs,h=>by
  obtain ⟨h1,h2,h3⟩:=c0j xs (by simpa only [D.fit] using h)
  exact ⟨by simpa only [dPy,PyData.showable] using h1,by simpa only [dPy,PyData.intsShort] using h2,by simpa only [dPy,PyData.weight,D.wt] using h3⟩
 | .lst xs,h=>by
  obtain ⟨h1,h2,h3⟩:=c0j xs (by simpa only [D.fit] using h)
  exact ⟨by simpa only [dPy,PyData.showable] using h1,by simpa only [dPy,PyData.intsShort] using h2,by simpa only [dPy,PyData.weight,D.wt] using h3⟩
theorem c0j:∀ xs:List D,D.fits xs=true→PyData.showableAll (a4z xs)=true∧PyData.intsShortAll 160 (a4z xs)=true∧PyData.weightAll (a4z xs)≤D.wts xs
 | [],_=>⟨rfl,rfl,Γi _⟩
 | x :: xs,h=>by
  have h:x.fit=true∧D.fits xs=true:=by simpa only [D.fits,Bool.and_eq_true] using h
  obtain ⟨a1,a2,a3⟩:=d9z x h.1
  obtain ⟨b1,b2,b3⟩:=c0j xs h.2
  refine ⟨?_,?_,?_⟩
  ·simp only [a4z,PyData.showableAll,a1,b1,Bool.and_self]
  ·simp only [a4z,PyData.intsShortAll,a2,b2,Bool.and_self]
  ·simp only [a4z,PyData.weightAll,D.wts]; lia
end
theorem bnd {α β:Type} {o:Option α} {f:α→Option β} {z:β} (h:o.bind f=some z):∃ a,o=some a∧f a=some z:=Option.bind_eq_some_iff.mp h
theorem mpd {α β:Type} {o:Option α} {f:α→β} {z:β} (h:o.map f=some z):∃ a,o=some a∧f a=z:=Option.map_eq_some_iff.mp h
theorem itd {α:Type} {c:Prop} [Decidable c] {a b:α} (h:(if c then some a else none)=some b):c∧a=b:=by
 by_cases z:c
 ·rw [if_pos z] at h; exact ⟨z,Option.some.inj h⟩
 ·rw [if_neg z] at h; cases h
theorem b0e:∀ {n:Nat} {p:FV} {d:D},fD n p=some d→(dPy d).depth≤n
 | 0,p,d,h=>by cases h
 | n + 1,p,d,h=>by
  have ds:∀ {ps:List FV} {ds:List D},b6l (fD n) ps=some ds→PyData.depthAll (a4z ds)≤n:=by
   intro ps
   induction ps with
   | nil=>intro ds h; cases h; simp [a4z,PyData.depthAll]
   | cons q ps ih =>
    intro ds h
    obtain ⟨y,e1,h⟩:=bnd h
    obtain ⟨zs,e2,rfl⟩:=mpd h
    simp only [a4z,PyData.depthAll]
    exact Nat.max_le.mpr ⟨b0e e1,ih e2⟩
  cases p with
  | tup ps=>obtain ⟨zs,e,rfl⟩:=mpd (show (b6l (fD n) ps).map D.tup=some d from h); simp only [dPy,PyData.depth]; have:=ds e; lia
  | lst ps=>obtain ⟨zs,e,rfl⟩:=mpd (show (b6l (fD n) ps).map D.lst=some d from h); simp only [dPy,PyData.depth]; have:=ds e; lia
  | non=>cases h; simp [dPy,PyData.depth]
  | bl _=>cases h; simp [dPy,PyData.depth]
  | int _=>cases h; simp [dPy,PyData.depth]
  | str _=>cases h; simp [dPy,PyData.depth]
  | scr _=>cases h
  | shn _=>cases h
  | dct _ _=>cases h
  | dci _ _=>cases h
  | dcz _ _ _=>cases h
section
variable {X:Cx} {pins:List (Addr×Obj)} {σ:L2.St} {S H:Hp} {s:Shared}
noncomputable def e1g (X:Cx) (S:Hp) (s:Shared) (n:Nat):Prop:=∀ (p:FV) (v:V) (u:Value) (d:D),RV X.K S p v→RelV v u→fD n p=some d→∃ as,Reads s.heap u (dPy d) as
theorem a6r {n:Nat} (R:e1g X S s n):∀ {ps:List FV} {vs:List V} {us:List Value} {ds:List D},RVs X.K S ps vs→Vals vs us→b6l (fD n) ps=some ds→∃ as,ReadsAll s.heap us (a4z ds) as
 | [],vs,us,ds,r,q,h=>by
  cases (show vs=[] from r)
  cases q
  cases h
  exact ⟨[],.nil⟩
 | p :: ps,vs,us,ds,r,rq,h=>by
  obtain ⟨v1,vr,rfl,r1,r2⟩:=r
  cases rq with
  | cons q1 q2 =>
   obtain ⟨y,e1,h⟩:=bnd h
   obtain ⟨zs,e2,rfl⟩:=mpd h
   obtain ⟨as,ra⟩:=R _ _ _ _ r1 q1 e1
   obtain ⟨bs,rb⟩:=a6r R r2 q2 e2
   exact ⟨as++bs,.cons ra rb⟩
theorem b0x {n:Nat} (I:Inv X pins σ H s) (R:e1g X S s n) {a:Addr} {xs:List V} {ps:List FV} {d:D} (h1:H a=some (.lst xs)) (h2:RVs X.K S ps xs) (h:(b6l (fD n) ps).map D.lst=some d):∃ as,Reads s.heap (.ref a) (dPy d) as:=by
 obtain ⟨zs,e,rfl⟩:=mpd h
 obtain ⟨its,rr,⟨o,k,e1,e2,e2',e3⟩,_⟩:=I.list (SqL.of h1)
 obtain ⟨as,ra⟩:=a6r R h2 rr e
 exact ⟨a :: as,.list e1 e2 e3 (by simpa using ra)⟩
theorem a9l (I:Inv X pins σ H s) (hs:Same S H):∀ n,e1g X S s n
 | 0,p,v,u,d,_,_,h=>by cases h
 | n + 1,p,v,u,d,rp,rv,h=>by
  have R:=a9l I hs n
  cases p with
  | tup ps =>
   obtain ⟨a,xs,rfl,h1,h2⟩:=rp
   cases (show u=Value.ref a from rv)
   obtain ⟨zs,e,rfl⟩:=mpd (show (b6l (fD n) ps).map D.tup=some d from h)
   obtain ⟨its,rr,⟨o,e1,e2,k,e3⟩,_⟩:=I.tuple (SqT.of (hs _ _ h1))
   obtain ⟨as,ra⟩:=a6r R h2 rr e
   exact ⟨as,.tuple e1 e2 e3 (by simpa using ra)⟩
  | lst ps =>
   obtain ⟨a,xs,rfl,h1,h2⟩:=rp
   cases (show u=Value.ref a from rv)
   exact b0x I R (hs _ _ h1) h2 h
  | non=>cases h; cases (show v=_ from rp); cases (show u=_ from rv); exact ⟨_,.none⟩
  | bl _=>cases h; cases (show v=_ from rp); cases (show u=_ from rv); exact ⟨_,.bool _⟩
  | int _=>cases h; cases (show v=_ from rp); obtain ⟨t,rfl⟩:=rv; exact ⟨_,.int _ _⟩
  | str _=>cases h; cases (show v=_ from rp); obtain ⟨t,rfl⟩:=rv; exact ⟨_,.str _ _⟩
  | scr _=>cases h
  | shn _=>cases h
  | dct _ _=>cases h
  | dci _ _=>cases h
  | dcz _ _ _=>cases h
theorem a6f (I:Inv X pins σ H s) (hs:Same S H) {n:Nat} {p:FV} {v:V} {u:Value} {d:D} (rp:RH X.K S H p v) (rv:RelV v u) (h:fD n p=some d):∃ as,Reads s.heap u (dPy d) as:=by
 rcases rp with rp | ⟨a,rfl,_,ps,xs,e,h1,h2⟩
 ·exact a9l I hs n p v u d rp rv h
 ·cases (show u=Value.ref a from rv)
  cases n with
  | zero=>cases h
  | succ n =>
   cases p with
   | lst qs=>cases e; exact b0x I (a9l I hs n) h1 h2 h
   | dct _ _=>cases h
   | dci _ _=>cases h
   | dcz _ _ _=>cases h
   | _=>cases e
end
theorem a1i:big≤sizeLine:=by decide
theorem a1k {v:FV} {i:Int} (h:a5f v=some i):v=.int i:=by cases v <;> cases h; rfl
theorem d3j {v:FV} {i:Bool} (h:blF v=some i):v=.bl i:=by cases v <;> cases h; rfl
theorem a1u {v:FV} {i:List FV} (h:a8y v=some i):v=.tup i:=by cases v <;> cases h; rfl
theorem a3e {v:FV} {i:List FV} (h:a8f v=some i):v=.lst i:=by cases v <;> cases h; rfl
structure NewOr (K:Γd) (S H:Hp) (Q:VK) (z:FV):Prop where
 old:∀ x,(∀ ps,z≠.lst ps)→RV K S z x→Q x H
 tup:∀ ps xs p,z=.tup ps→RVs K S ps xs→H p=none→Q (.ref p) (upd H p (.tup xs))
 lst:∀ ps xs p,z=.lst ps→RVs K S ps xs→H p=none→Q (.ref p) (upd H p (.lst xs))
section
variable {X:Cx} {K:Γd} {S H:Hp} {Q:VK}
theorem NewOr.bl {b:Bool} (k:NewOr K S H Q (.bl b)):Q (.bl b) H:=k.old _ (fun _ z=>nomatch z) rfl
theorem NewOr.int {b:Int} (k:NewOr K S H Q (.int b)):Q (.int b) H:=k.old _ (fun _ z=>nomatch z) rfl
theorem NewOr.str {b:String} (k:NewOr K S H Q (.str b)):Q (.str (Γe b)) H:=k.old _ (fun _ z=>nomatch z) rfl
theorem RH.int {i:Int} {x:V} (h:RH K S H (.int i) x):x=.int i:=h.val rfl
theorem RH.bl {i:Bool} {x:V} (h:RH K S H (.bl i) x):x=.bl i:=h.val rfl
noncomputable def Rq (K:Γd) (f:FV→FV→Option FV):R2:=fun x y H Q=>∃ S v w z,Same S H∧RH K S H v x∧RH K S H w y∧f v w=some z∧NewOr K S H Q z
theorem a9m {g:Value→Value→Sem Value} {f:Int→Int→Option FV} {r:R2} (o:OpR X g r) (h:∀ i j z H Q,f i j=some z→(∀ x,(∀ S,RV X.K S z x)→Q x H)→r (.int i) (.int j) H Q) (n:∀ i j z,f i j=some z→∀ ps,z≠.lst ps):OpR X g (Rq X.K (a3k f)):=by
 intro pins s σ H x y u1 u2 Q I rx ry ⟨S,v,w,z,hs,hv,hw,e,k⟩
 obtain ⟨i,e1,e⟩:=bnd e
 obtain ⟨j,e2,e⟩:=bnd e
 cases a1k e1; cases a1k e2
 obtain rfl:=hv.int
 obtain rfl:=hw.int
 exact o pins s σ H _ _ u1 u2 Q I rx ry (h i j z H Q e fun x hx=>k.old x (n i j z e) (hx S))
theorem d5y:OpR X (binaryOp .Sub) (Rq X.K d3o):=a9m d1d (fun i j z H Q e k=>⟨i,j,rfl,rfl,k _ fun S=>by cases e; rfl⟩) fun i j z e ps=>by cases e; exact fun z=>nomatch z
theorem d0f:OpR X (binaryOp .FloorDiv) (Rq X.K b9r):=a9m c7g (fun i j z H Q e k=>⟨i,j,rfl,rfl,(itd e).1,k _ fun S=>by cases (itd e).2; rfl⟩) fun i j z e ps=>by cases (itd e).2; exact fun z=>nomatch z
theorem d6a:OpR X (binaryOp .Mod) (Rq X.K c4w):=a9m d1h (fun i j z H Q e k=>⟨i,j,rfl,rfl,(itd e).1,k _ fun S=>by cases (itd e).2; rfl⟩) fun i j z e ps=>by cases (itd e).2; exact fun z=>nomatch z
theorem d5z:OpR X (binaryOp .Pow) (Rq X.K d0q):=a9m d1f (fun i j z H Q e k=>⟨i,j,rfl,rfl,by
 obtain ⟨h1,h2,h3⟩:=(itd e).1
 have:-(2 ^ 64) < i∧i < 2 ^ 64:=by simpa [a2h] using h3
 exact ⟨h1,by lia,by lia⟩,k _ fun S=>by cases (itd e).2; rfl⟩) fun i j z e ps=>by cases (itd e).2; exact fun z=>nomatch z
theorem q_gt:OpR X (compareOp .Gt) (Rq X.K gtB):=a9m d6p (fun i j z H Q e k=>⟨i,j,rfl,rfl,k _ fun S=>by cases e; rfl⟩) fun i j z e ps=>by cases e; exact fun z=>nomatch z
theorem q_ge:OpR X (compareOp .GtE) (Rq X.K geB):=a9m d6q (fun i j z H Q e k=>⟨i,j,rfl,rfl,k _ fun S=>by cases e; rfl⟩) fun i j z e ps=>by cases e; exact fun z=>nomatch z
theorem d0i:OpR X (binaryOp .Add) (Rq X.K (a3k fun i j=>some (.int (i + j)))):=a9m d1k (fun i j z H Q e k=>⟨i,j,rfl,rfl,k _ fun S=>by cases e; rfl⟩) fun i j z e ps=>by cases e; exact fun z=>nomatch z
theorem d0c:OpR X (binaryOp .Mult) (Rq X.K (a3k fun i j=>if (a2h i || a2h j)=true then some (.int (i * j)) else none)):=a9m d1g (fun i j z H Q e k=>⟨i,j,rfl,rfl,by
 have:=(itd e).1
 simp only [a2h,Bool.or_eq_true,decide_eq_true_eq] at this
 exact this,k _ fun S=>by cases (itd e).2; rfl⟩) fun i j z e ps=>by cases (itd e).2; exact fun z=>nomatch z
theorem d6b:OpR X (compareOp .Lt) (Rq X.K (a3k fun i j=>some (.bl (decide (i < j))))):=a9m d6o (fun i j z H Q e k=>⟨i,j,rfl,rfl,k _ fun S=>by cases e; rfl⟩) fun i j z e ps=>by cases e; exact fun z=>nomatch z
theorem d0h {xs ys:List FV} {x y:V} {z:FV} {pins:List (Addr×Obj)} {σ:L2.St} {s:Shared} {u1 u2:Value} (I:Inv X pins σ H s) (rx:RelV x u1) (ry:RelV y u2) (hs:Same S H) (hv:RH X.K S H (.tup xs) x) (hw:RH X.K S H (.tup ys) y)
  (e:(if xs.length + ys.length≤big then some (FV.tup (xs++ys)) else none)=some z) (k:NewOr X.K S H Q z):wpAny (model X.prog X.w) X.A (binaryOp .Add u1 u2) (EP X pins σ Q) X.xe s:=by
 obtain ⟨hc,rfl⟩:=itd e
 have rv:=hv.val rfl
 have rw':=hw.val rfl
 obtain ⟨a,as,rfl,ha,ra⟩:=hv.tup hs
 obtain ⟨b,bs,rfl,hb,rb⟩:=hw.tup hs
 have l1:=ra.length
 have l2:=rb.length
 have hl:=a1i
 by_cases h0:as=[]
 ·subst h0
  have z2:xs=[]:=List.eq_nil_of_length_eq_zero (by simpa using l1)
  subst z2
  exact c2s pins s σ H _ _ u1 u2 Q I rx ry ⟨a,b,bs,rfl,rfl,SqT.of ha,SqT.of hb,k.old _ (fun _ z=>nomatch z) rw'⟩
 refine c7h pins s σ H _ _ u1 u2 Q I rx ry ⟨a,b,as,bs,rfl,rfl,SqT.of ha,SqT.of hb,h0,by lia,fun z=>?_,fun _ p hp=>k.tup _ _ p rfl (ra.append rb) hp⟩
 subst z
 have z2:ys=[]:=List.eq_nil_of_length_eq_zero (by simpa using l2)
 subst z2
 exact k.old _ (fun _ z=>nomatch z) (by rw [List.append_nil]; exact rv)
theorem d6d:OpR X (binaryOp .Add) (Rq X.K a3s):=by
 intro pins s σ H x y u1 u2 Q I rx ry ⟨S,v,w,z,hs,hv,hw,e,k⟩
 cases v with
 | tup xs =>
  obtain ⟨ys,e1,e⟩:=bnd e
  cases a1u e1
  exact d0h I rx ry hs hv hw e k
 | lst xs =>
  obtain ⟨ys,e1,e⟩:=bnd e
  cases a3e e1
  obtain ⟨hc,rfl⟩:=itd e
  obtain ⟨a,as,rfl,ha,ra⟩:=hv.lst hs
  obtain ⟨b,bs,rfl,hb,rb⟩:=hw.lst hs
  have l1:=ra.length
  have l2:=rb.length
  have hl:=a1i
  exact d1j pins s σ H _ _ u1 u2 Q I rx ry ⟨a,b,as,bs,rfl,rfl,ha,hb,by lia,fun p hp=>k.lst _ _ p rfl (ra.append rb) hp⟩
 | _=>exact d0i pins s σ H x y u1 u2 Q I rx ry ⟨S,_,w,z,hs,hv,hw,e,k⟩
theorem d0d:OpR X (binaryOp .Mult) (Rq X.K b6k):=by
 intro pins s σ H x y u1 u2 Q I rx ry ⟨S,v,w,z,hs,hv,hw,e,k⟩
 cases v with
 | lst xs =>
  obtain ⟨j,e1,e⟩:=bnd e
  cases a1k e1
  obtain ⟨hc,rfl⟩:=itd e
  obtain ⟨a,as,rfl,ha,ra⟩:=hv.lst hs
  obtain rfl:=hw.int
  have l1:=ra.length
  have hl:=a1i
  exact d1e pins s σ H _ _ u1 u2 Q I rx ry ⟨a,j,as,rfl,rfl,ha,hc.1,hc.2.1,by rw [← l1]; lia,fun p hp=>k.lst _ _ p rfl (ra.rep _) hp⟩
 | _=>exact d0c pins s σ H x y u1 u2 Q I rx ry ⟨S,_,w,z,hs,hv,hw,e,k⟩
theorem a1y:∀ {ps:List FV} {xs:List V} {ns:List Int},RVs K S ps xs→a0o ps=some ns→xs=ns.map V.int
 | [],xs,ns,r,e=>by cases (show xs=[] from r); cases e; rfl
 | p :: ps,xs,ns,r,e=>by
  obtain ⟨v,q,rfl,h1,h2⟩:=r
  cases p with
  | int i =>
   obtain ⟨ms,z,rfl⟩:=mpd (show (a0o ps).map (i :: ·)=some ns from e)
   rw [a1y h2 z,List.map_cons,show v=.int i from h1]
  | _=>cases e
theorem a5t:∀ {ps:List FV} {xs:List V} {ns:List Bool},RVs K S ps xs→a5b ps=some ns→xs=ns.map V.bl
 | [],xs,ns,r,e=>by cases (show xs=[] from r); cases e; rfl
 | p :: ps,xs,ns,r,e=>by
  obtain ⟨v,q,rfl,h1,h2⟩:=r
  cases p with
  | bl i =>
   obtain ⟨ms,z,rfl⟩:=mpd (show (a5b ps).map (i :: ·)=some ns from e)
   rw [a5t h2 z,List.map_cons,show v=.bl i from h1]
  | _=>cases e
theorem c5a:∀ a b:List Int,Kq.lexLt a b=HT.lexLt a b
 | [],[]=>by simp [Kq.lexLt,HT.lexLt]
 | [],_ :: _=>by simp [Kq.lexLt,HT.lexLt]
 | _ :: _,[]=>by simp [Kq.lexLt,HT.lexLt]
 | a :: r,b :: q=>by
  simp only [Kq.lexLt,HT.lexLt,c5a r q]
  try (by_cases h:a=b <;> simp [h])
theorem q_lt (hu:X.A.units + 64 < cLine):OpR X (compareOp .Lt) (Rq X.K ltB):=by
 intro pins s σ H x y u1 u2 Q I rx ry ⟨S,v,w,z,hs,hv,hw,e,k⟩
 cases v with
 | tup xs =>
  obtain ⟨ys,e1,e⟩:=bnd e
  cases a1u e1
  obtain ⟨ns,e2,e⟩:=bnd e
  obtain ⟨ms,e3,e⟩:=bnd e
  cases e
  obtain ⟨a,as,rfl,ha,ra⟩:=hv.tup hs
  obtain ⟨b,bs,rfl,hb,rb⟩:=hw.tup hs
  cases a1y ra e2; cases a1y rb e3
  exact d1i (by lia) pins s σ H _ _ u1 u2 Q I rx ry ⟨a,b,ns,ms,rfl,rfl,SqT.of ha,SqT.of hb,by rw [← c5a]; exact k.bl⟩
 | _=>exact d6b pins s σ H x y u1 u2 Q I rx ry ⟨S,_,w,z,hs,hv,hw,e,k⟩
theorem d2p {p q:FV} {b:Bool} (e:eqF p q=some b):(∃ d,p=.shn d∧q=.shn d∧b=true) ∨ ∃ x y,fD a1e p=some x∧fD a1e q=some y∧b=D.eqv x y:=by
 have gen:eqD p q=some b→∃ x y,fD a1e p=some x∧fD a1e q=some y∧b=D.eqv x y:=fun e=>by
  obtain ⟨x,e1,e⟩:=bnd e
  obtain ⟨y,e2,e⟩:=bnd e
  cases e
  exact ⟨x,y,e1,e2,rfl⟩
 unfold eqF at e
 split at e
 ·obtain ⟨rfl,rfl⟩:=@itd _ _ (Classical.propDecidable _) _ _ e
  exact .inl ⟨_,rfl,rfl,rfl⟩
 ·exact .inr (gen e)
theorem d0g (hu:X.A.units + 64 < cLine) (neg:Bool):OpR X (compareOp (if neg then .NotEq else .Eq)) (Rq X.K fun p q=>(eqF p q).map fun r=>.bl (neg != r)):=by
 intro pins s σ H x y v u Q I rx ry ⟨S,p,q,z,hs,rp,rq,e,k⟩
 obtain ⟨b,e',rfl⟩:=mpd (show (eqF p q).map (fun r=>FV.bl (neg != r))=some z from e)
 have fin:=k.bl
 rcases d2p e' with ⟨d,rfl,rfl,rfl⟩ | ⟨dx,dy,e1,e2,rfl⟩
 ·obtain rfl:x=.str (dPy d).shown:=rp.val rfl
  obtain rfl:y=.str (dPy d).shown:=rq.val rfl
  cases neg with
  | false=>exact d6r pins s σ H _ _ v u Q I rx ry ⟨rfl,by simpa using fin⟩
  | true=>exact d6n pins s σ H _ _ v u Q I rx ry ⟨rfl,by simpa using fin⟩
 ·obtain ⟨as,ra⟩:=a6f I hs rp rx e1
  obtain ⟨bs,rb⟩:=a6f I hs rq ry e2
  have hd:X.A.units + min (dPy dx).depth (dPy dy).depth < cLine:=by
   have h1:=b0e e1
   unfold a1e at h1
   lia
  cases neg with
  | false=>exact PySem.SeqAt.compareEq_reads ra rb (a7m dx) (a7m dy) hd ⟨.bl _,H,I,rfl,by rw [c0l]; simpa using fin⟩
  | true=>exact PySem.SeqAt.compareNe_reads ra rb (a7m dx) (a7m dy) hd ⟨.bl _,H,I,rfl,by rw [c0l]; simpa using fin⟩
theorem q_eq (hu:X.A.units + 64 < cLine):OpR X (compareOp .Eq) (Rq X.K eqB):=fun pins s σ H x y v u Q I rx ry ⟨S,p,q,z,hs,rp,rq,e,k⟩=>d0g hu false pins s σ H x y v u Q I rx ry ⟨S,p,q,z,hs,rp,rq,by
 obtain ⟨b,e1,rfl⟩:=mpd e
 show (eqF p q).map _=_
 rw [e1]; cases b <;> rfl,k⟩
theorem q_ne (hu:X.A.units + 64 < cLine):OpR X (compareOp .NotEq) (Rq X.K neB):=fun pins s σ H x y v u Q I rx ry ⟨S,p,q,z,hs,rp,rq,e,k⟩=>d0g hu true pins s σ H x y v u Q I rx ry ⟨S,p,q,z,hs,rp,rq,by
 obtain ⟨b,e1,rfl⟩:=mpd e
 show (eqF p q).map _=_
 rw [e1]; cases b <;> rfl,k⟩
theorem d0e (hu:X.A.units + 64 < cLine) (neg:Bool):OpR X (compareOp (if neg then .NotIn else .In)) (Rq X.K fun p q=>(inF p q).map fun r=>.bl (neg != r)):=by
 intro pins s σ H x y v u Q I rx ry ⟨S,p,q,z,hs,rp,rq,e,k⟩
 obtain ⟨b,e',rfl⟩:=mpd (show (inF p q).map (fun r=>FV.bl (neg != r))=some z from e)
 have fin:=k.bl
 obtain ⟨dx,e1,e'⟩:=bnd e'
 obtain ⟨dy,e2,e'⟩:=bnd e'
 obtain ⟨as,ra⟩:=a6f I hs rp rx e1
 obtain ⟨bs,rb⟩:=a6f I hs rq ry e2
 have hd:∀ ys,X.A.units + 1 + min (PyData.depthAll (a4z ys)) (dPy dx).depth < cLine:=fun ys=>by
  have h1:=b0e e1
  unfold a1e at h1
  lia
 cases dy with
 | lst ys =>
  cases e'
  simp only [dPy] at rb
  cases neg with
  | false=>exact PySem.SeqAt.in_list_reads rb ra (a7l ys) (a7m dx) (hd ys) ⟨.bl _,H,I,rfl,by rw [c0m]; simpa using fin⟩
  | true=>exact PySem.SeqAt.notIn_list_reads rb ra (a7l ys) (a7m dx) (hd ys) ⟨.bl _,H,I,rfl,by rw [c0m]; simpa using fin⟩
 | tup ys =>
  cases e'
  simp only [dPy] at rb
  cases neg with
  | false=>exact PySem.SeqAt.in_tuple_reads rb ra (a7l ys) (a7m dx) (hd ys) ⟨.bl _,H,I,rfl,by rw [c0m]; simpa using fin⟩
  | true=>exact PySem.SeqAt.notIn_tuple_reads rb ra (a7l ys) (a7m dx) (hd ys) ⟨.bl _,H,I,rfl,by rw [c0m]; simpa using fin⟩
 | _=>cases e'
theorem q_in (hu:X.A.units + 64 < cLine):OpR X (compareOp .In) (Rq X.K inB):=fun pins s σ H x y v u Q I rx ry ⟨S,p,q,z,hs,rp,rq,e,k⟩=>d0e hu false pins s σ H x y v u Q I rx ry ⟨S,p,q,z,hs,rp,rq,by
 obtain ⟨b,e1,rfl⟩:=mpd e
 show (inF p q).map _=_
 rw [e1]; cases b <;> rfl,k⟩
theorem q_ni (hu:X.A.units + 64 < cLine):OpR X (compareOp .NotIn) (Rq X.K niB):=fun pins s σ H x y v u Q I rx ry ⟨S,p,q,z,hs,rp,rq,e,k⟩=>d0e hu true pins s σ H x y v u Q I rx ry ⟨S,p,q,z,hs,rp,rq,by
 obtain ⟨b,e1,rfl⟩:=mpd e
 show (inF p q).map _=_
 rw [e1]; cases b <;> rfl,k⟩
theorem c8u {ps:List FV} {xs:List V} {i:Int} {p:FV} (r:RVs K S ps xs) (e:atF ps i=some p):∃ v,L2.atI xs i=some v∧RV K S p v:=by
 obtain ⟨j,e1,e2⟩:=bnd e
 obtain ⟨v,h1,h2⟩:=r.get e2
 refine ⟨v,?_,h2⟩
 show (L2.ixN xs.length i).bind (fun j=>xs[j]?)=some v
 rw [← r.length,show L2.ixN ps.length i=some j from e1]
 exact h1
noncomputable def Ri (K:Γd):R2:=fun x y H Q=>∃ S v w z,Same S H∧RH K S H v x∧RH K S H w y∧ixF v w=some z∧∀ u,RV K S z u→Q u H
theorem q_ix:IxR X (Ri X.K):=by
 intro value slice pins s σ H x y v u Q I rx ry ⟨S,p,q,z,hs,rp,rq,e,k⟩ hsl
 obtain ⟨j,e1,e3⟩:=bnd e
 obtain ⟨ps,e2,e4⟩:=bnd e3
 cases a1k e1
 obtain rfl:=rq.int
 obtain ⟨a,xs,rfl,hq,r⟩:=rp.seq hs e2
 obtain ⟨w,h1,h2⟩:=c8u r e4
 cases hb:isL p with
 | true=>rw [hb] at hq; exact c7w value slice pins s σ H _ _ v u Q I rx ry ⟨a,xs,j,w,rfl,rfl,hq,h1,k w h2⟩ hsl
 | false=>rw [hb] at hq; exact d1x value slice pins s σ H _ _ v u Q I rx ry ⟨a,xs,j,w,rfl,rfl,hq,h1,k w h2⟩ hsl
theorem b3v (n d:Nat) (o:Option Int):Kq.sIx n d o=HT.sIx n d o:=by
 cases o with
 | none=>rfl
 | some v=>simp only [Kq.sIx,HT.sIx]; try (split <;> split <;> lia)
theorem c0n {ps:List FV} {xs:List V} {lo hi:Option Int} (r:RVs K S ps xs):RVs K S (b2f ps lo hi) (c5i xs lo hi):=by
 unfold b2f c5i
 rw [b3v,b3v,r.length]
 exact (r.drop _).take _
noncomputable def Rsl (K:Γd):V→Option Int→Option Int→Hp→VK→Prop:=fun x lo hi H Q=>∃ S v z,Same S H∧RH K S H v x∧a5v v lo hi=some z∧NewOr K S H Q z
theorem q_sl:SlR X (Rsl X.K):=by
 intro pins s σ H x v vl vu lo hi sl Q I rx hsl pl pu ⟨S,p,z,hs,rp,e,k⟩
 cases p with
 | tup ps =>
  cases e
  have rv:=rp.val rfl
  obtain ⟨a,xs,rfl,ha,ra⟩:=rp.tup hs
  by_cases hc:HT.sIx xs.length 0 lo=0∧HT.sIx xs.length xs.length hi=xs.length
  ·refine c1u pins s σ H _ v vl vu lo hi sl Q I rx hsl pl pu ⟨a,xs,rfl,SqT.of ha,hc.1,hc.2,k.old _ (fun _ z=>nomatch z) ?_⟩
   have e:b2f ps lo hi=ps:=by
    unfold b2f
    rw [b3v,b3v,ra.length,hc.1,hc.2,List.drop_zero,Nat.sub_zero,List.take_of_length_le (Nat.le_of_eq ra.length)]
   rw [e]; exact rv
  ·exact c9t pins s σ H _ v vl vu lo hi sl Q I rx hsl pl pu ⟨a,xs,rfl,SqT.of ha,hc,fun p hp=>k.tup _ _ p rfl (c0n ra) hp⟩
 | lst ps =>
  cases e
  obtain ⟨a,xs,rfl,ha,ra⟩:=rp.lst hs
  exact c6c pins s σ H _ v vl vu lo hi sl Q I rx hsl pl pu ⟨a,xs,rfl,SqL.of ha,fun p hp=>k.lst _ _ p rfl (c0n ra) hp⟩
 | _=>cases e
end
section
variable {X:Cx} {K:Γd} {S H:Hp} {Q:VK}
noncomputable def Rc (K:Γd) (f:FV→Option FV):List V→Hp→VK→Prop:=fun xs H Q=>∃ S v x z,xs=[x]∧Same S H∧RH K S H v x∧f v=some z∧NewOr K S H Q z
noncomputable def Rc2 (K:Γd) (f:FV→FV→Option FV):List V→Hp→VK→Prop:=fun xs H Q=>∃ S v w x y z,xs=[x,y]∧Same S H∧RH K S H v x∧RH K S H w y∧f v w=some z∧NewOr K S H Q z
theorem c9s {b:Bool} {a:Addr} {xs:List V} (h:SqB b K H a xs):SqL K H a xs ∨ SqT K H a xs:=by cases b; exact .inr h; exact .inl h
theorem e0b:a1n X (.builtin "len") (Rc X.K a8h):=by
 rintro pins s σ H xs us Q I r ⟨S,v,x,z,rfl,hs,rv,e,k⟩
 obtain ⟨ps,e1,rfl⟩:=mpd e
 obtain ⟨a,ys,rfl,hq,ry⟩:=rv.seq hs e1
 refine b1y pins s σ H _ us Q I r ⟨a,ys,rfl,c9s hq,?_⟩
 rw [← ry.length]
 exact k.int
theorem e0f:a1n X (.builtin "abs") (Rc X.K d3m):=by
 rintro pins s σ H xs us Q I r ⟨S,v,x,z,rfl,hs,rv,e,k⟩
 obtain ⟨i,e1,rfl⟩:=mpd e
 cases a1k e1
 obtain rfl:=rv.int
 exact c3v pins s σ H _ us Q I r ⟨i,rfl,k.int⟩
theorem e0c:a1n X (.type "int") (Rc X.K b3p):=by
 rintro pins s σ H xs us Q I r ⟨S,v,x,z,rfl,hs,rv,e,k⟩
 cases v with
 | int i =>
  cases e
  obtain rfl:=rv.int
  exact b1z pins s σ H _ us Q I r (.inl ⟨i,rfl,k.int⟩)
 | bl b =>
  cases e
  obtain rfl:=rv.bl
  exact b1z pins s σ H _ us Q I r (.inr ⟨b,rfl,k.int⟩)
 | _=>cases e
theorem c8q:a1n X (.type "tuple") (Rc X.K a2x):=by
 rintro pins s σ H xs us Q I r ⟨S,v,x,z,rfl,hs,rv,e,k⟩
 obtain ⟨ps,e1,rfl⟩:=mpd e
 obtain ⟨a,ys,rfl,hq,ry⟩:=rv.seq hs e1
 cases v with
 | tup qs=>cases e1; exact a3g pins s σ H _ us Q I r ⟨a,ys,rfl,.inr ⟨hq,k.old _ (fun _ z=>nomatch z) (rv.val rfl)⟩⟩
 | lst qs=>exact a3g pins s σ H _ us Q I r ⟨a,ys,rfl,.inl ⟨hq,fun l hl=>k.tup _ _ l rfl ry hl⟩⟩
 | scr qs=>exact a3g pins s σ H _ us Q I r ⟨a,ys,rfl,.inl ⟨hq,fun l hl=>k.tup _ _ l rfl ry hl⟩⟩
 | _=>cases e1
theorem d3i:a1n X (.type "list") (Rc X.K a6z):=by
 rintro pins s σ H xs us Q I r ⟨S,v,x,z,rfl,hs,rv,e,k⟩
 obtain ⟨ps,e1,rfl⟩:=mpd e
 obtain ⟨a,ys,rfl,hq,ry⟩:=rv.seq hs e1
 exact b1x pins s σ H _ us Q I r ⟨a,ys,rfl,c9s hq,fun l hl=>k.lst _ _ l rfl ry hl⟩
theorem d3g (hc:X.calm=true):a1n X (.builtin "min") (Rc2 X.K b5l):=by
 rintro pins s σ H xs us Q I r ⟨S,v,w,x,y,z,rfl,hs,rv,rw',e,k⟩
 obtain ⟨i,e1,e2⟩:=bnd e
 obtain ⟨j,e3,e4⟩:=bnd e2
 cases a1k e1; cases a1k e3; cases e4
 obtain rfl:=rv.int
 obtain rfl:=rw'.int
 exact c0v hc pins s σ H _ us Q I r ⟨i,j,rfl,k.int⟩
theorem d3h (hc:X.calm=true):a1n X (.builtin "max") (Rc2 X.K b8l):=by
 rintro pins s σ H xs us Q I r ⟨S,v,w,x,y,z,rfl,hs,rv,rw',e,k⟩
 obtain ⟨i,e1,e2⟩:=bnd e
 obtain ⟨j,e3,e4⟩:=bnd e2
 cases a1k e1; cases a1k e3; cases e4
 obtain rfl:=rv.int
 obtain rfl:=rw'.int
 exact c0w hc pins s σ H _ us Q I r ⟨i,j,rfl,k.int⟩
theorem Vals.mapInt {ns:List Int}:∀ {us:List Value},Vals (ns.map V.int) us→∀ i:Nat,i < ns.length→∃ t,us[i]?=some (.int (ns.getD i 0) t):=fun {us} r i hi=>by
 obtain ⟨u,e,t,rfl⟩:=r.get (i:=i) (x:=.int (ns.getD i 0)) (by simp [hi])
 exact ⟨t,e⟩
theorem a2i (ns:List Int):∀ j,j≤ns.length→preSum (fun i=>ns.getD i 0) j=(ns.take j).sum
 | 0,_=>by simp [preSum]
 | j + 1,h=>by
  have hj:j < ns.length:=h
  show preSum _ j + ns.getD j 0=_
  rw [a2i ns j (by lia),List.take_succ_eq_append_getElem hj,List.sum_append]
  simp [List.getD,hj]
theorem b7d (B:Int) (hB:0≤B):∀ ns:List Int,(∀ n∈ns,-B≤n∧n≤B)→-(B * ns.length)≤ns.sum∧ns.sum≤B * ns.length
 | [],_=>by simp
 | n :: r,h=>by
  have ih:=b7d B hB r fun m hm=>h m (Γh _ hm)
  have hn:=h n Γn
  rw [List.sum_cons,List.length_cons]
  have e:B * ((r.length + 1:Nat):Int)=B * (r.length:Int) + B:=by rw [Int.natCast_add,Int.mul_add]; simp
  rw [e]
  lia
theorem b6e (hc:X.calm=true):a1n X (.builtin "sum") (fun xs H Q=>∃ (a:Addr) (ns:List Int),xs=[.ref a]∧SqL X.K H a (ns.map V.int)∧ns.length≤big∧(∀ n∈ns,-(2 ^ 40)≤n∧n≤2 ^ 40)∧Q (.int ns.sum) H):=by
 intro pins s σ H xs us Q I r h
 obtain ⟨a,ns,rfl,hq,hz,hb,q⟩:=h
 obtain ⟨u,rfl,rx⟩:=a3t r
 cases rx
 obtain ⟨its,r',pl,hz'⟩:=I.list hq
 have hlen:ns.length=its.length:=by have:=r'.length; simpa using this
 have alt:a < s.heap.objs.size:=by obtain ⟨_,e,_⟩:=pl.isList; exact Γl e
 have hh:X.A.in1.handled=none:=I.ok.hd hc
 refine call_sum_walk (wpAny_pyIter_list pl.isList ?_)
 refine ⟨s.heap.objs.size,_,_,_,_,_,fun i=>ns.getD i 0,rfl,Walks.list hh s.heap.objs.size a (Γo alt) its.toArray,⟨⟨_,Γm _ rfl,rfl,rfl⟩,pl.isList.at fun o e=>Γc _ e⟩,?_,?_,?_,?_⟩
 ·intro b hb'
  simp at hb'
  rcases hb' with rfl | rfl
  ·show _ < (s.heap.push _).objs.size; rw [Heap.size_push]; exact Nat.lt_succ_self _
  ·show _ < (s.heap.push _).objs.size; rw [Heap.size_push]; exact Nat.lt_succ_of_lt alt
 ·intro i v hv
  have hv:its.toArray[i]?=some v:=hv
  have hi:i < ns.length:=by rw [hlen]; simpa using (Array.getElem?_eq_some_iff.mp hv).1
  obtain ⟨t,e⟩:=Vals.mapInt r' i hi
  refine ⟨t,?_⟩
  have e':its.toArray[i]?=some (.int (ns.getD i 0) t):=by simpa using e
  rw [hv] at e'
  exact Option.some.inj e'
 ·intro j hj
  have hj':j < ns.length:=by rw [hlen]; simpa using hj
  have hm:ns.getD j 0∈ns:=by simp [List.getD,hj']
  refine ⟨?_,?_⟩
  ·have:=hb _ hm
   show -(2 ^ 63)≤ns.getD j 0∧ns.getD j 0 < 2 ^ 63
   lia
  ·rw [a2i ns (j + 1) hj']
   have b2:=b7d 1099511627776 (by decide) (ns.take (j + 1)) fun n hn=>by have:=hb n (List.mem_of_mem_take hn); lia
   have l2:(ns.take (j + 1)).length≤100000:=by rw [List.length_take]; unfold big at hz; lia
   unfold InLong; lia
 ·intro h' tk t' hk
  have e:preSum (fun i=>ns.getD i 0) its.toArray.size=ns.sum:=by
   rw [List.size_toArray,← hlen,a2i ns _ (Γi _),List.take_length]
  rw [e]
  refine ⟨.int ns.sum,H,?_,⟨t',rfl⟩,q⟩
  exact I.kept (t':=tk) fun b o e=>hk b o (by simp; exact Γo (Γl e)) (Γc _ e)
theorem b3o {prog:Program} {w:World} {A:Around} {its:List Value} {bs:List Bool} (r:Vals (bs.map V.bl) its):TruthOf prog w A (fun i v=>its.toArray[i]?=some v) (fun i=>bs.getD i false):=by
 intro i v s Q E hv hq
 have hlen:bs.length=its.length:=by have:=r.length; simpa using this
 have hi:i < bs.length:=by rw [hlen]; simpa using (Array.getElem?_eq_some_iff.mp hv).1
 obtain ⟨u,e,ru⟩:=r.get (i:=i) (x:=.bl (bs.getD i false)) (by simp [hi])
 have e':its.toArray[i]?=some u:=by simpa using e
 rw [hv] at e'
 cases e'
 cases ru
 exact Γb hq
theorem b7p (bs:List Bool):(List.range bs.length).all (fun i=>bs.getD i false)=bs.all id:=by
 rw [Bool.eq_iff_iff]
 simp only [List.all_eq_true,List.mem_range,id]
 constructor
 ·intro h b hb
  obtain ⟨i,hi,e⟩:=List.mem_iff_getElem.mp hb
  have:=h i hi
  simpa [List.getD,hi,e] using this
 ·intro h i hi
  have:=h bs[i] (List.getElem_mem hi)
  simpa [List.getD,hi] using this
theorem b7o (bs:List Bool):(List.range bs.length).any (fun i=>bs.getD i false)=bs.any id:=by
 rw [Bool.eq_iff_iff]
 simp only [List.any_eq_true,List.mem_range,id]
 constructor
 ·rintro ⟨i,hi,e⟩
  exact ⟨bs[i],List.getElem_mem hi,by simpa [List.getD,hi] using e⟩
 ·rintro ⟨b,hb,e⟩
  obtain ⟨i,hi,e'⟩:=List.mem_iff_getElem.mp hb
  exact ⟨i,hi,by simpa [List.getD,hi,e'] using e⟩
theorem b6i (hc:X.calm=true):a1n X (.builtin "all") (fun xs H Q=>∃ (a:Addr) (bs:List Bool),xs=[.ref a]∧SqL X.K H a (bs.map V.bl)∧Q (.bl (bs.all id)) H):=by
 intro pins s σ H xs us Q I r h
 obtain ⟨a,bs,rfl,hq,q⟩:=h
 obtain ⟨u,rfl,rx⟩:=a3t r
 cases rx
 obtain ⟨its,r',pl,hz'⟩:=I.list hq
 have hlen:bs.length=its.length:=by have:=r'.length; simpa using this
 have alt:a < s.heap.objs.size:=by obtain ⟨_,e,_⟩:=pl.isList; exact Γl e
 have hh:X.A.in1.handled=none:=I.ok.hd hc
 refine call_all_walk (wpAny_pyIter_list pl.isList ?_)
 refine ⟨s.heap.objs.size,_,_,_,_,_,fun i=>bs.getD i false,rfl,Walks.list hh s.heap.objs.size a (Γo alt) its.toArray,⟨⟨_,Γm _ rfl,rfl,rfl⟩,pl.isList.at fun o e=>Γc _ e⟩,b3o r',?_⟩
 intro h' tk hk
 rw [List.size_toArray,← hlen,b7p]
 exact ⟨.bl _,H,I.kept (t':=tk) fun b o e=>hk b o (by simp; exact Γo (Γl e)) (Γc _ e),rfl,q⟩
theorem b6h (hc:X.calm=true):a1n X (.builtin "any") (fun xs H Q=>∃ (a:Addr) (bs:List Bool),xs=[.ref a]∧SqL X.K H a (bs.map V.bl)∧Q (.bl (bs.any id)) H):=by
 intro pins s σ H xs us Q I r h
 obtain ⟨a,bs,rfl,hq,q⟩:=h
 obtain ⟨u,rfl,rx⟩:=a3t r
 cases rx
 obtain ⟨its,r',pl,hz'⟩:=I.list hq
 have hlen:bs.length=its.length:=by have:=r'.length; simpa using this
 have alt:a < s.heap.objs.size:=by obtain ⟨_,e,_⟩:=pl.isList; exact Γl e
 have hh:X.A.in1.handled=none:=I.ok.hd hc
 refine call_any_walk (wpAny_pyIter_list pl.isList ?_)
 refine ⟨s.heap.objs.size,_,_,_,_,_,fun i=>bs.getD i false,rfl,Walks.list hh s.heap.objs.size a (Γo alt) its.toArray,⟨⟨_,Γm _ rfl,rfl,rfl⟩,pl.isList.at fun o e=>Γc _ e⟩,b3o r',?_⟩
 intro h' tk hk
 rw [List.size_toArray,← hlen,b7o]
 exact ⟨.bl _,H,I.kept (t':=tk) fun b o e=>hk b o (by simp; exact Γo (Γl e)) (Γc _ e),rfl,q⟩
theorem c8r (hc:X.calm=true):a1n X (.builtin "sum") (Rc X.K c9p):=by
 rintro pins s σ H xs us Q I r ⟨S,v,x,z,rfl,hs,rv,e,k⟩
 obtain ⟨ps,e1,e2⟩:=bnd e
 obtain ⟨n,e3,rfl⟩:=mpd e2
 obtain ⟨ns,e4,e5⟩:=bnd e3
 obtain ⟨hb,rfl⟩:=itd e5
 obtain ⟨a,ys,rfl,hq,ry⟩:=rv.list hs e1
 cases a1y ry e4
 refine b6e hc pins s σ H _ us Q I r ⟨a,ns,rfl,hq,hb.1,fun n hn=>?_,k.int⟩
 have:=List.all_eq_true.mp hb.2 n hn
 simpa [a9c] using this
theorem e0e (hc:X.calm=true):a1n X (.builtin "all") (Rc X.K d4r):=by
 rintro pins s σ H xs us Q I r ⟨S,v,x,z,rfl,hs,rv,e,k⟩
 obtain ⟨ps,e1,e2⟩:=bnd e
 obtain ⟨bs,e3,rfl⟩:=mpd e2
 obtain ⟨a,ys,rfl,hq,ry⟩:=rv.list hs e1
 cases a5t ry e3
 exact b6i hc pins s σ H _ us Q I r ⟨a,bs,rfl,hq,k.bl⟩
theorem e0d (hc:X.calm=true):a1n X (.builtin "any") (Rc X.K c9f):=by
 rintro pins s σ H xs us Q I r ⟨S,v,x,z,rfl,hs,rv,e,k⟩
 obtain ⟨ps,e1,e2⟩:=bnd e
 obtain ⟨bs,e3,rfl⟩:=mpd e2
 obtain ⟨a,ys,rfl,hq,ry⟩:=rv.list hs e1
 cases a5t ry e3
 exact b6h hc pins s σ H _ us Q I r ⟨a,bs,rfl,hq,k.bl⟩
theorem a8i:∀ (xs:List Int) (b x:Int),a1p b (xs++[x])=if x < a1p b xs then x else a1p b xs
 | [],b,x=>rfl
 | y :: ys,b,x=>by
  show a1p (if y < b then y else b) (ys++[x])=_
  rw [a8i ys]; rfl
theorem b1h (n:Int) (r:List Int):∀ k,k≤r.length→(n :: r)[argBest (fun i j=>decide ((n :: r).getD i 0 < (n :: r).getD j 0)) k]?=some (a1p n (r.take k))
 | 0,_=>by simp [argBest,a1p]
 | k + 1,h=>by
  have ih:=b1h n r k (by lia)
  have hk:k < r.length:=h
  have e1:(n :: r).getD (argBest (fun i j=>decide ((n :: r).getD i 0 < (n :: r).getD j 0)) k) 0=a1p n (r.take k):=by rw [List.getD_eq_getElem?_getD,ih]; rfl
  have e2:(n :: r).getD (k + 1) 0=r[k]:=by simp [List.getD,hk]
  rw [List.take_succ_eq_append_getElem hk,a8i]
  simp only [argBest,e1,e2,decide_eq_true_eq]
  split
  ·simp [hk]
  ·exact ih
theorem d3f (hc:X.calm=true):a1n X (.builtin "min") (Rc X.K c2t):=by
 rintro pins s σ H xs us Q I r ⟨S,v,x,z,rfl,hs,rv,e,k⟩
 obtain ⟨ps,e1,e2⟩:=bnd e
 obtain ⟨ns,e3,e4⟩:=bnd e2
 obtain ⟨a,ys,rfl,hq,ry⟩:=rv.list hs e1
 obtain ⟨u,rfl,ru⟩:=a3t r
 cases (show u=Value.ref a from ru)
 obtain ⟨its,r',pl,hz'⟩:=I.list hq
 have hh:X.A.in1.handled=none:=I.ok.hd hc
 have hlen:ys.length=its.length:=r'.length
 cases a1y ry e3
 cases ns with
 | nil=>cases e4
 | cons n r =>
  cases e4
  have hl2:its.length=r.length + 1:=by rw [← hlen]; simp
  have it:∀ (i:Nat) (v:Value),its.toArray[i]?=some v→∃ t,v=Value.int ((n :: r).getD i 0) t:=fun i v hv=>by
   have hv:its[i]?=some v:=by simpa using hv
   have hi:=(List.getElem?_eq_some_iff.mp hv).1
   obtain ⟨t,e⟩:=Vals.mapInt r' i (by simp; lia)
   rw [hv] at e
   exact ⟨t,Option.some.inj e⟩
  refine b6f (bt:=fun i j=>decide ((n :: r).getD i 0 < (n :: r).getD j 0)) hh pl.isList (by simp; lia) (fun i j u v s1 Q1 E1 _ hi hj q1=>?_) fun v h' tk hv hk=>?_
  ·obtain ⟨t1,rfl⟩:=it i u hi
   obtain ⟨t2,rfl⟩:=it j v hj
   exact PyProof.Rows.lt_int q1
  ·have hv:its[argBest (fun i j=>decide ((n :: r).getD i 0 < (n :: r).getD j 0)) (its.toArray.size - 1)]?=some v:=by simpa using hv
   have hb:=b1h n r r.length (Γi _)
   rw [List.take_length] at hb
   have hsz:its.toArray.size - 1=r.length:=by simp; lia
   rw [hsz] at hv
   generalize argBest (fun i j=>decide ((n :: r).getD i 0 < (n :: r).getD j 0)) r.length=z at hv hb
   obtain ⟨t,rfl⟩:=it z v (by simpa using hv)
   rw [List.getD_eq_getElem?_getD,hb]
   exact ⟨.int (a1p n r),H,I.kept (t':=tk) hk,⟨t,rfl⟩,k.int⟩
end
structure CC where
 N:List Str
 sc:List (Str×NameKind)
 fns:List Str
 md:Md
 top:Bool
 oc:List (Str×NameKind)
noncomputable def CC.vis (C:CC) (x:Str):Bool:=match C.sc.lookup x with
 | some .local=>true
 | some .cell=>true
 | some .free=>true
 | _=>false
noncomputable def CC.gl (C:CC) (x:Str):Bool:=decide (C.sc.lookup x=some .globalImplicit)
noncomputable def CC.loc (C:CC) (x:Str):Bool:=match C.sc.lookup x with
 | some .local=>true
 | some .cell=>C.top || C.oc.lookup x == some .cell
 | _=>false
noncomputable def CC.nm (C:CC) (i:Nat) (x:Str):Bool:=decide (C.N[i]?=some x) && C.vis x && !(x == ("__debug__":Str)) && !(x == ("__classdict__":Str))
noncomputable def bltNames:List String:=["len","abs","int","sum","all","any","min","max","tuple","list","isinstance","range","zip","bool","str","enumerate","reversed","sorted","dict","set"]
structure Good (X:Cx) (C:CC) (n:Nat) (sp:Γd→Nat→Sp):Prop where
 N:X.N=C.N
 sc:X.env.scope.names=C.sc
 kind:X.env.scope.kind=.function
 nd:C.N.Nodup
 calm:X.calm=true
 fn:∀ x,(C.top || C.oc.lookup x == some .cell)=true→X.fn x=true
 room:Room n X.A
 fns:∀ (f:Nat) (x:Str),C.fns[f]?=some x→∃ fa fd ps,X.mg x=some (.ref fa)∧PySem.W.keepIn X.K (.ref fa)=true∧Binds X.K fd ps []∧FnOk X.prog X.w X.K X.mg X.base CX0 n fa fd ps (sp X.K f)
 blt:∀ b∈bltNames,X.mg (Γe b)=none
theorem b2 {a b:Bool} (h:(a && b)=true):a=true∧b=true:=by simpa using h
theorem nb {a:Bool} (h:(!a)=true):a=false:=by simpa using h
theorem de {p:Prop} [Decidable p] (h:decide p=true):p:=by simpa using h
noncomputable def lv (K:Γd) (md:Md) (e:EW):TE:=fun σ H Q=>∃ c L S Q0,Iv K c md L σ S H∧e L Q0∧∀ v L',Q0 v L'→∀ x S' H',RV K S' v x→Iv K c md L' σ S' H'→Same S S'→Q x H'
noncomputable def lr (K:Γd) (md:Md) (e:EW):TE:=fun σ H Q=>∃ c L S Q0,Iv K c md L σ S H∧e L Q0∧∀ v L',Q0 v L'→∀ x S' H',RH K S' H' v x→Iv K c md L' σ S' H'→Same S S'→Q x H'
noncomputable def b0j (c:Cn) (md:Md) (L:a0d) (σ:L2.St) (a:Addr):Prop:=c.H0 a=none∧(∀ p∈c.pr,p.1≠a)∧∀ j w,a0m md j≠.imm→L[j]?=some (some w)→σ[j]?≠some (some (.ref a))
noncomputable def lf (K:Γd) (md:Md) (e:EW):TE:=fun σ H Q=>∃ c L S Q0,Iv K c md L σ S H∧e L Q0∧∀ v L',Q0 v L'→∀ a S' H',a4f K S' H' a v→b0j c md L' σ a→Iv K c md L' σ S' H'→Same S S'→Q (.ref a) H'
noncomputable def lb (K:Γd) (md:Md) (e:BW):TT:=fun σ H Q=>∃ c L S Q0,Iv K c md L σ S H∧e L Q0∧∀ v L',Q0 v L'→∀ S' H',Iv K c md L' σ S' H'→Same S S'→Q v H'
noncomputable def la (K:Γd) (md:Md) (e:AW):TA:=fun σ H Q=>∃ c L S Q0,Iv K c md L σ S H∧e L Q0∧∀ v L',Q0 v L'→∀ x S' H',RVs K S' v x→Iv K c md L' σ S' H'→Same S S'→Q x H'
noncomputable def lo (K:Γd) (md:Md) (e:OW):TO:=fun σ H Q=>∃ c L S Q0,Iv K c md L σ S H∧e L Q0∧∀ v L',Q0 v L'→∀ S' H',Iv K c md L' σ S' H'→Same S S'→Q v H'
noncomputable def FE (X:Cx) (C:CC) (x:Expr) (e:EW):Prop:=PE X.nox x (lv X.K C.md e)
noncomputable def FR (X:Cx) (C:CC) (x:Expr) (e:EW):Prop:=PE X.nox x (lr X.K C.md e)
noncomputable def FF (X:Cx) (C:CC) (x:Expr) (e:EW):Prop:=PE X.nox x (lf X.K C.md e)
noncomputable def FB (X:Cx) (C:CC) (x:Expr) (e:BW):Prop:=PT X.nox x (lb X.K C.md e)
noncomputable def FW (X:Cx) (C:CC) (x:Expr) (e:BW):Prop:=PW X.nox x (lb X.K C.md e)
noncomputable def FA (X:Cx) (C:CC) (x:List Expr) (e:AW):Prop:=PA X.nox x (la X.K C.md e)
noncomputable def FO (X:Cx) (C:CC) (x:Option Expr) (e:OW):Prop:=L2.PO X.nox x (lo X.K C.md e)
section
variable {X:Cx}
theorem PE.imp {e:Expr} {t u:TE} (h:PE X e t) (f:∀ σ H Q,u σ H Q→t σ H Q):PE X e u:=fun pins s σ H Q I hu=>h pins s σ H Q I (f σ H Q hu)
theorem PT.imp {e:Expr} {t u:TT} (h:PT X e t) (f:∀ σ H Q,u σ H Q→t σ H Q):PT X e u:=fun pins s σ H Q I hu=>h pins s σ H Q I (f σ H Q hu)
theorem PW.imp {e:Expr} {t u:TT} (h:PW X e t) (f:∀ σ H Q,u σ H Q→t σ H Q):PW X e u:=fun w pins s σ H Q I hu=>h w pins s σ H Q I (f σ H Q hu)
theorem PA.imp {e:List Expr} {t u:TA} (h:PA X e t) (f:∀ σ H Q,u σ H Q→t σ H Q):PA X e u:=fun p pins s σ H Q I hu=>h p pins s σ H Q I (f σ H Q hu)
theorem PO.imp {e:Option Expr} {t u:TO} (h:L2.PO X e t) (f:∀ σ H Q,u σ H Q→t σ H Q):L2.PO X e u:=fun pins s σ H Q I hu=>h pins s σ H Q I (f σ H Q hu)
end
section
variable {X:Cx} {C:CC} {n:Nat} {sp:Γd→Nat→Sp}
theorem Good.vis (G:Good X C n sp) {x:Str} (h:C.vis x=true):Vis X.env.scope x:=by
 unfold CC.vis at h
 unfold Vis
 rw [G.sc]
 split at h
 ·rename_i e; exact .inl e
 ·rename_i e; exact .inr (.inl e)
 ·rename_i e; exact .inr (.inr e)
 ·cases h
theorem Good.gl (G:Good X C n sp) {x:Str} (h:C.gl x=true):Gl X x:=by
 show X.env.scope.names.lookup x=_
 rw [G.sc]; exact de h
theorem Good.loc (G:Good X C n sp) {x:Str} (h:C.loc x=true):L2.Loc X.env.scope x∧(X.fn x=true ∨ X.env.scope.names.lookup x=some .local):=by
 unfold CC.loc at h
 unfold L2.Loc
 rw [G.sc]
 split at h
 ·rename_i e; exact ⟨.inl e,.inr e⟩
 ·rename_i e; exact ⟨.inr e,.inl (G.fn x h)⟩
 ·cases h
variable {K:Γd} {c:Cn} {md:Md} {L:a0d} {σ:L2.St} {S H:Hp}
theorem Iv.rd (I:Iv K c md L σ S H) {i:Nat} {v:FV} (e:lk L i=some v):∃ x,σ[i]?=some (some x)∧RH K S H v x:=by
 rw [a2p] at e
 by_cases m:a0m md i=.imm
 ·obtain ⟨x,h1,h2⟩:=I.imm i v m e
  exact ⟨x,h1,.inl h2⟩
 ·obtain ⟨a,h1,h2,_⟩:=I.own i v m e
  exact ⟨_,h1,.inr ⟨a,rfl,h2⟩⟩
theorem b1d {Q:VK} {z:FV} (I:Iv K c md L σ S H) (k:∀ x S' H',RV K S' z x→Iv K c md L σ S' H'→Same S S'→Q x H'):NewOr K S H Q z where
 old:=fun x _ r=>k x S H r I (Same.refl S)
 tup:=fun ps xs p e r hp=>k _ _ _ (by rw [e]; exact ⟨p,xs,rfl,a0f,r.mono (a0h (I.sn hp))⟩) (I.new hp _) (a0h (I.sn hp))
 lst:=fun ps xs p e r hp=>k _ _ _ (by rw [e]; exact ⟨p,xs,rfl,a0f,r.mono (a0h (I.sn hp))⟩) (I.new hp _) (a0h (I.sn hp))
theorem Iv.fresh (I:Iv K c md L σ S H) {p:Addr} (h:H p=none):b0j c md L σ p:=by
 refine ⟨I.h0 h,fun q hq z=>?_,fun j w m e z=>?_⟩
 ·rw [← z,(I.prs q hq).1] at h; cases h
 ·obtain ⟨a,e1,⟨_,_,_,_,e2,_⟩,_⟩:=I.own j w m e
  rw [z] at e1; cases e1
  rw [h] at e2; cases e2
theorem c7j {Q:VK} {z:FV} (I:Iv K c md L σ S H) (hz:∃ ps,z=.lst ps) (k:∀ a S' H',a4f K S' H' a z→b0j c md L σ a→Iv K c md L σ S' H'→Same S S'→Q (.ref a) H'):NewOr K S H Q z where
 old:=fun x n _=>let ⟨ps,e⟩:=hz; absurd e (n ps)
 tup:=fun ps xs p e r hp=>by obtain ⟨qs,e2⟩:=hz; rw [e2] at e; cases e
 lst:=fun ps xs p e r hp=>by subst e; exact k p S _ ⟨I.sn hp,ps,xs,rfl,a0f,r⟩ (I.fresh hp) (I.lay hp _) (Same.refl S)
theorem fe_var (G:Good X C n sp) {i:Nat} {x:Str} {pos:Pos} (h:C.nm i x=true) (m:a0m C.md i=.imm):FE X C (.Name x pos) (a0b i):=by
 have h:=b2 h; have h1:=b2 h.1; have h2:=b2 h1.1
 refine PE.imp (b7z (by show X.N[i]?=_; rw [G.N]; exact de h2.1) (G.vis h2.2) (nb h1.2) (nb h.2)) fun σ H Q ⟨c,L,S,Q0,I,h,k⟩=>?_
 obtain ⟨v,e,q⟩:=wpx h
 obtain ⟨x,e1,r⟩:=I.imm i v m ((a2p _ _ _).mp e)
 exact ⟨x,e1,k v L q x S H r I (Same.refl S)⟩
theorem fr_var (G:Good X C n sp) {i:Nat} {x:Str} {pos:Pos} (h:C.nm i x=true):FR X C (.Name x pos) (a0b i):=by
 have h:=b2 h; have h1:=b2 h.1; have h2:=b2 h1.1
 refine PE.imp (b7z (by show X.N[i]?=_; rw [G.N]; exact de h2.1) (G.vis h2.2) (nb h1.2) (nb h.2)) fun σ H Q ⟨c,L,S,Q0,I,h,k⟩=>?_
 obtain ⟨v,e,q⟩:=wpx h
 obtain ⟨x,e1,r⟩:=I.rd e
 exact ⟨x,e1,k v L q x S H r I (Same.refl S)⟩
theorem fr_of {x:Expr} {e:EW} (h:FE X C x e):FR X C x e:=PE.imp h fun σ H Q ⟨c,L,S,Q0,I,h,k⟩=>⟨c,L,S,Q0,I,h,fun v L' q x S' H' r=>k v L' q x S' H' (.inl r)⟩
theorem d8r {x:Expr} {v:FV} {u:V} (h:PE X.nox x (tC u)) (r:∀ S,RV X.K S v u):FE X C x (eC v):=PE.imp h fun σ H Q ⟨c,L,S,Q0,I,h,k⟩=>k v L h u S H (r S) I (Same.refl S)
theorem fe_int {i j pos}:FE X C (.Constant (.int i) j pos) (eC (.int i)):=d8r d1a fun _=>rfl
theorem fe_bl {i j pos}:FE X C (.Constant (.bool i) j pos) (eC (.bl i)):=d8r d6i fun _=>rfl
theorem fe_non {j pos}:FE X C (.Constant .none j pos) (eC .non):=d8r d0y fun _=>rfl
section
variable {f:FV→FV→Option FV} {a b:Expr} {ea eb:EW} {pos:Pos} {i:Nat} {x:Str}
theorem a1r (G:Good X C n sp) (h:C.nm i x=true):PE X.nox (.Name x pos) (c9b i):=by
 have h:=b2 h; have h1:=b2 h.1; have h2:=b2 h1.1
 exact b7z (by show X.N[i]?=_; rw [G.N]; exact de h2.1) (G.vis h2.2) (nb h1.2) (nb h.2)
theorem go2 {r:R2} {σ:L2.St} {H:Hp} {Q:VK} (hh:∃ (c:Cn) (L:a0d) (S:Hp) (Q0:FV→FV→a0d→Prop),Iv K c md L σ S H∧ea L (fun x L1=>eb L1 fun y L2=>Q0 x y L2)∧∀ v w L' S' H' x y,Q0 v w L'→RV K S' v x→RH K S' H' w y→Iv K c md L' σ S' H'→Same S S'→r x y H' Q):tOp r (lv K md ea) (lr K md eb) σ H Q:=by
 obtain ⟨c,L,S,Q0,I,h,k⟩:=hh
 exact ⟨c,L,S,_,I,h,fun v L1 hv x S1 H1 r1 I1 s1=>⟨c,L1,S1,_,I1,hv,fun w L2 hw y S2 H2 r2 I2 s2=>k v w L2 S2 H2 x y hw (r1.mono s2) r2 I2 (s1.trans s2)⟩⟩
theorem go2N {r:R2} {σ:L2.St} {H:Hp} {Q:VK} (hh:∃ (c:Cn) (L:a0d) (S:Hp) (Q0:FV→FV→a0d→Prop),Iv K c md L σ S H∧(wp (lk L i) fun _=>eb L fun y L1=>wp (lk L1 i) fun x=>Q0 x y L1)∧∀ v w L' S' H' x y,Q0 v w L'→RH K S' H' v x→RH K S' H' w y→Iv K c md L' σ S' H'→Same S S'→r x y H' Q):tOp r (c9b i) (lr K md eb) σ H Q:=by
 obtain ⟨c,L,S,Q0,I,h,k⟩:=hh
 obtain ⟨_,e,h⟩:=wpx h
 obtain ⟨x,e1,_⟩:=I.rd e
 refine ⟨x,e1,c,L,S,_,I,h,fun w L2 hw y S2 H2 r2 I2 s2=>?_⟩
 obtain ⟨v,e2,q⟩:=wpx hw
 obtain ⟨x',e3,r1⟩:=I2.rd e2
 rw [e1] at e3; cases e3
 exact k v w L2 S2 H2 x y q r1 r2 I2 s2
theorem rq_v {Q0:FV→a0d→Prop} {Q:VK} {v w:FV} {x y:V} (I:Iv K c md L σ S H) (rv:RH K S H v x) (rw':RH K S H w y) (h:wp (f v w) fun z=>Q0 z L) (k:∀ z,Q0 z L→∀ x S' H',RV K S' z x→Iv K c md L σ S' H'→Same S S'→Q x H'):Rq K f x y H Q:=by
 obtain ⟨z,e,q⟩:=wpx h
 exact ⟨S,v,w,z,I.sub,rv,rw',e,b1d I (k z q)⟩
theorem op_v (h:PE X.nox a (tOp (Rq X.K f) (lv X.K C.md ea) (lr X.K C.md eb))):FE X C a (eOp f ea eb):=PE.imp h fun σ H Q ⟨c,L,S,Q0,I,h,k⟩ =>
 go2 ⟨c,L,S,fun x y L2=>wp (f x y) fun z=>Q0 z L2,I,h,fun v w L' S' H' x y q r1 r2 I' s'=>rq_v I' (.inl r1) r2 q fun z qz x S2 H2 r I2 s2=>k z L' qz x S2 H2 r I2 (s'.trans s2)⟩
variable {op:Operator}
theorem b5w (ho:OpR X.nox (binaryOp op) (Rq X.K f)) (ha:FE X C a ea) (hb:FR X C b eb):FE X C (.BinOp a op b pos) (eOp f ea eb):=op_v (d0v ho ha hb)
theorem fe_add (ha:FE X C a ea) (hb:FR X C b eb):FE X C (.BinOp a .Add b pos) (eOp a3s ea eb):=b5w d6d ha hb
theorem fe_sub (ha:FE X C a ea) (hb:FR X C b eb):FE X C (.BinOp a .Sub b pos) (eOp d3o ea eb):=b5w d5y ha hb
theorem fe_mul (ha:FE X C a ea) (hb:FR X C b eb):FE X C (.BinOp a .Mult b pos) (eOp b6k ea eb):=b5w d0d ha hb
theorem d8n (ha:FE X C a ea) (hb:FR X C b eb):FE X C (.BinOp a .FloorDiv b pos) (eOp b9r ea eb):=b5w d0f ha hb
theorem fe_mod (ha:FE X C a ea) (hb:FR X C b eb):FE X C (.BinOp a .Mod b pos) (eOp c4w ea eb):=b5w d6a ha hb
theorem fe_pow (ha:FE X C a ea) (hb:FR X C b eb):FE X C (.BinOp a .Pow b pos) (eOp d0q ea eb):=b5w d5z ha hb
noncomputable def a5p (f:FV→FV→Option FV) (v w:FV):Option FV:=(f v w).bind fun z=>(a8f z).map fun xs=>.lst xs
theorem d8c (ho:OpR X.nox (binaryOp op) (Rq X.K f)) (ha:FE X C a ea) (hb:FR X C b eb):FF X C (.BinOp a op b pos) (eOp (a5p f) ea eb):=PE.imp (d0v ho ha hb) fun σ H Q ⟨c,L,S,Q0,I,h,k⟩ =>
 go2 ⟨c,L,S,fun x y L2=>wp (a5p f x y) fun z=>Q0 z L2,I,h,fun v w L' S' H' x y q r1 r2 I' s'=>by
  obtain ⟨z,e,q⟩:=wpx q
  obtain ⟨z',e1,e2⟩:=bnd e
  obtain ⟨xs,e3,rfl⟩:=mpd e2
  cases a3e e3
  exact ⟨S',v,w,_,I'.sub,.inl r1,r2,e1,c7j I' ⟨xs,rfl⟩ fun a S2 H2 o fr I2 s2=>k _ L' q a S2 H2 o fr I2 (s'.trans s2)⟩⟩
theorem ff_mul (ha:FE X C a ea) (hb:FR X C b eb):FF X C (.BinOp a .Mult b pos) (eOp (a5p b6k) ea eb):=d8c d0d ha hb
variable {cop:CmpOp}
theorem b4q (ho:OpR X.nox (compareOp cop) (Rq X.K f)) (ha:FE X C a ea) (hb:FR X C b eb) (hm:behindInMarks cop b=false):FE X C (.Compare a [cop] [b] pos) (eOp f ea eb):=op_v (c6y ho ha hb hm)
noncomputable def a7q (f:FV→FV→Option FV):Prop:=∀ v w z,f v w=some z→∃ b,z=.bl b
theorem c9k {Q0:Bool→a0d→Prop} {Q:Bool→Hp→Prop} {v w:FV} {x y:V} (tb:a7q f) (I:Iv K c md L σ S H) (rv:RH K S H v x) (rw':RH K S H w y) (h:wp (f v w) fun z=>wp (c1l z) fun b=>Q0 b L) (k:∀ z,Q0 z L→Q z H):Rq K f x y H (fun x H'=>∃ k,x=.bl k∧Q k H'):=by
 obtain ⟨z,e,q⟩:=wpx h
 obtain ⟨b,rfl⟩:=tb v w z e
 exact ⟨S,v,w,_,I.sub,rv,rw',e,⟨fun x _ r=>⟨b,r,k b q⟩,fun _ _ _ e=>(nomatch e),fun _ _ _ e=>(nomatch e)⟩⟩
theorem a8p (tb:a7q f) (ho:OpR X.nox (compareOp cop) (Rq X.K f)) (ha:FE X C a ea) (hb:FR X C b eb) (hm:behindInMarks cop b=false):FB X C (.Compare a [cop] [b] pos) (a2c (eOp f ea eb)):=PT.imp (c6m ho ha hb hm) fun σ H Q ⟨c,L,S,Q0,I,h,k⟩ =>
 go2 ⟨c,L,S,fun x y L2=>wp (f x y) fun z=>wp (c1l z) fun b=>Q0 b L2,I,h,fun v w L' S' H' x y q r1 r2 I' s'=>c9k tb I' (.inl r1) r2 q fun z qz=>k z L' qz S' H' I' s'⟩
end
end
noncomputable def a0g:Expr→Bool | .Starred ..=>true | _=>false
noncomputable def a4c:Expr→Bool | .Slice ..=>true | _=>false
noncomputable def c4r:Expr→Bool
 | .UnaryOp .Not _ _=>false
 | .BoolOp ..=>false
 | .IfExp ..=>false
 | .Compare ..=>false
 | _=>true
section
variable {X:Cx} {C:CC} {n:Nat} {sp:Γd→Nat→Sp} {a b d x y z:Expr} {ea eb ec:EW} {pos:Pos}
theorem a0c {xs:List Expr} {env:Env} (h:a0g x=false):starEach (x :: xs) env=(false,eval x env) :: starEach xs env:=by
 cases x <;> first | rfl | (cases h; done)
theorem a9n (h:a4c y=false):c1a y:=by
 intro o i
 cases y <;> first | rfl | (cases h; done)
theorem b0z {env:Env} (h:c4r x=true):∀ whole,isTrue x env whole=(do let v ← whole; standAt x.pos; holding [v] (PySem.truthy v)):=by
 intro whole
 cases x <;> first | rfl | (cases h; done) | (rename_i op x pos; cases op <;> first | rfl | (cases h; done))
theorem fe_eq (G:Good X C n sp) (ha:FE X C a ea) (hb:FR X C b eb):FE X C (.Compare a [.Eq] [b] pos) (eOp eqB ea eb):=b4q (q_eq G.room.units) ha hb (a2e _ (by decide) (by decide))
theorem fe_lt (G:Good X C n sp) (ha:FE X C a ea) (hb:FR X C b eb):FE X C (.Compare a [.Lt] [b] pos) (eOp ltB ea eb):=b4q (q_lt G.room.units) ha hb (a2e _ (by decide) (by decide))
theorem fe_ge (ha:FE X C a ea) (hb:FR X C b eb):FE X C (.Compare a [.GtE] [b] pos) (eOp geB ea eb):=b4q q_ge ha hb (a2e _ (by decide) (by decide))
theorem c4g {f:FV→FV→Option Bool} {g:Bool→FV} (h:∀ b,∃ c,g b=.bl c):a7q fun v w=>(f v w).map g:=fun v w z e=>by
 obtain ⟨b,_,rfl⟩:=mpd e
 exact h b
theorem c4h {f:Int→Int→Bool}:a7q (a3k fun i j=>some (.bl (f i j))):=fun v w z e=>by
 obtain ⟨i,_,e⟩:=bnd e
 obtain ⟨j,_,e⟩:=bnd e
 cases e; exact ⟨_,rfl⟩
theorem d4w:a7q ltB:=fun v w z e=>by
 cases v with
 | tup xs =>
  obtain ⟨_,_,e⟩:=bnd e
  obtain ⟨_,_,e⟩:=bnd e
  obtain ⟨_,_,e⟩:=bnd e
  cases e; exact ⟨_,rfl⟩
 | _=>exact c4h _ w z e
theorem fb_eq (G:Good X C n sp) (ha:FE X C a ea) (hb:FR X C b eb):FB X C (.Compare a [.Eq] [b] pos) (a2c (eOp eqB ea eb)):=a8p (c4g fun b=>⟨b,rfl⟩) (q_eq G.room.units) ha hb (a2e _ (by decide) (by decide))
theorem fb_ne (G:Good X C n sp) (ha:FE X C a ea) (hb:FR X C b eb):FB X C (.Compare a [.NotEq] [b] pos) (a2c (eOp neB ea eb)):=a8p (c4g fun b=>⟨!b,rfl⟩) (q_ne G.room.units) ha hb (a2e _ (by decide) (by decide))
theorem fb_lt (G:Good X C n sp) (ha:FE X C a ea) (hb:FR X C b eb):FB X C (.Compare a [.Lt] [b] pos) (a2c (eOp ltB ea eb)):=a8p d4w (q_lt G.room.units) ha hb (a2e _ (by decide) (by decide))
theorem fb_gt (ha:FE X C a ea) (hb:FR X C b eb):FB X C (.Compare a [.Gt] [b] pos) (a2c (eOp gtB ea eb)):=a8p c4h q_gt ha hb (a2e _ (by decide) (by decide))
variable {i:Nat} {nx:Str} {p:Pos}
section
variable {cop cop':CmpOp} {f g:FV→FV→Option FV}
end
end
section
variable {X:Cx} {C:CC} {n:Nat} {sp:Γd→Nat→Sp} {a b d x y z:Expr} {ea eb ec:EW} {ba bb:BW} {pos p:Pos}
variable {K:Γd} {c:Cn} {md:Md} {L:a0d} {σ:L2.St} {S H:Hp}
theorem b8g {v:FV} {x:V} (r1:RH K S H v x):a2l v=some (.bl (decide (x=V.non)))∧a0n v=some (.bl (!decide (x=V.non))):=by
 rcases r1 with r1 | ⟨a,rfl,_,ps,xs,e9,_⟩
 ·cases v <;> first | (cases (show x=_ from r1); simp [a2l,a0n]; done) | (obtain ⟨a,_,rfl,_⟩:=r1; simp [a2l,a0n]; done) | (obtain ⟨a,rfl,_⟩:=r1; simp [a2l,a0n]; done)
 ·cases v <;> first | (cases e9; done) | simp [a2l,a0n]
theorem e0h {t:Bool} {v:FV} {x:V} (r1:RH K S H v x):b9j t v=some (.bl (decide (x=V.bl t)))∧a5w t v=some (.bl (!decide (x=V.bl t))):=by
 rcases r1 with r1 | ⟨a,rfl,_,ps,xs,e9,_⟩
 ·cases v <;> first | (cases (show x=_ from r1); simp [b9j,a5w]; done) | (cases (show x=_ from r1); rename_i u; cases t <;> cases u <;> exact ⟨rfl,rfl⟩) | (obtain ⟨a,_,rfl,_⟩:=r1; simp [b9j,a5w]; done) | (obtain ⟨a,rfl,_⟩:=r1; simp [b9j,a5w]; done)
 ·cases v <;> first | (cases e9; done) | simp [b9j,a5w]
theorem fb_isN {j pos'} (ha:FR X C a ea):FB X C (.Compare a [.Is] [.Constant .none j pos'] pos) (a2c (eUn a2l ea)):=PT.imp (b7t (d1c ha)) fun σ H Q ⟨c,L,S,Q0,I,h,k⟩ =>
 ⟨c,L,S,_,I,h,fun v L1 hv x S1 H1 r1 I1 s1=>by
  obtain ⟨z,e3,q⟩:=wpx hv
  rw [(b8g r1).1] at e3; cases e3
  exact ⟨_,rfl,k _ L1 q S1 H1 I1 s1⟩⟩
theorem d8j {j pos'} (ha:FR X C a ea):FE X C (.Compare a [.IsNot] [.Constant .none j pos'] pos) (eUn a0n ea):=PE.imp (d1b (b8b ha)) fun σ H Q ⟨c,L,S,Q0,I,h,k⟩ =>
 ⟨c,L,S,_,I,h,fun v L1 hv x S1 H1 r1 I1 s1=>by
  obtain ⟨z,e3,q⟩:=wpx hv
  rw [(b8g r1).2] at e3; cases e3
  exact k _ L1 q _ S1 H1 rfl I1 s1⟩
theorem d9j {j pos'} (ha:FR X C a ea):FB X C (.Compare a [.IsNot] [.Constant .none j pos'] pos) (a2c (eUn a0n ea)):=PT.imp (b7t (b8b ha)) fun σ H Q ⟨c,L,S,Q0,I,h,k⟩ =>
 ⟨c,L,S,_,I,h,fun v L1 hv x S1 H1 r1 I1 s1=>by
  obtain ⟨z,e3,q⟩:=wpx hv
  rw [(b8g r1).2] at e3; cases e3
  exact ⟨_,rfl,k _ L1 q S1 H1 I1 s1⟩⟩
theorem d9k {t:Bool} {j pos'} (ha:FR X C a ea):FB X C (.Compare a [.IsNot] [.Constant (.bool t) j pos'] pos) (a2c (eUn (a5w t) ea)):=PT.imp (b7t (c7d ha)) fun σ H Q ⟨c,L,S,Q0,I,h,k⟩ =>
 ⟨c,L,S,_,I,h,fun v L1 hv x S1 H1 r1 I1 s1=>by
  obtain ⟨z,e3,q⟩:=wpx hv
  rw [(e0h r1).2] at e3; cases e3
  exact ⟨_,rfl,k _ L1 q S1 H1 I1 s1⟩⟩
theorem fe_not (ha:FE X C a ea):FE X C (.UnaryOp .Not a pos) (eUn d6t ea):=PE.imp (d0x ha) fun σ H Q ⟨c,L,S,Q0,I,h,k⟩ =>
 ⟨c,L,S,_,I,h,fun v L1 hv x S1 H1 r1 I1 s1=>by
  obtain ⟨z,e,q⟩:=wpx hv
  obtain ⟨b,e1,rfl⟩:=mpd e
  cases d3j e1
  exact ⟨b,r1,k _ L1 q _ S1 H1 rfl I1 s1⟩⟩
theorem b6z {v:FV} {u:V} {t:Bool} (s:Same S H) (r:RH K S H v u) (e:c1l v=some t):d4t K u H t:=by
 have em:∀ {ps:List FV} {xs:List V},RVs K S ps xs→(!ps.isEmpty) = !xs.isEmpty:=fun {ps xs} h=>by cases ps <;> cases xs <;> first | rfl | (have:=h.length; simp at this)
 cases v with
 | non=>cases (show u=V.non from r.val rfl); cases e; exact rfl
 | bl c=>cases r.bl; cases e; exact rfl
 | int c=>cases r.int; cases e; exact rfl
 | str c=>cases e
 | shn c=>cases e
 | dct _ _=>cases e
 | dci _ _=>cases e
 | dcz _ _ _=>cases e
 | tup ps =>
  obtain ⟨a,xs,rfl,h1,h2⟩:=r.tup s
  cases e
  exact .inr (.inl ⟨xs,SqT.of h1,em h2⟩)
 | lst l =>
  obtain ⟨a,xs,rfl,h1,h2⟩:=r.lst s
  cases e
  exact .inl ⟨xs,SqL.of h1,em h2⟩
 | scr ns =>
  cases e
  obtain ⟨a,xs,rfl,h1,h2⟩:=r.list s (show a2a (.scr ns)=_ from rfl)
  refine .inl ⟨_,h1,?_⟩
  rw [← em h2]; cases ns <;> rfl
theorem c7c {rest:List Expr} {ta tb:TE} (ha:PE X a ta) (hb:PE X (.BoolOp .And (b :: rest) pos) tb) :
  PE X (.BoolOp .And (a :: b :: rest) pos) (fun σ H Q=>ta σ H fun x H1=>∃ c,d4t X.K x H1 c∧(if c=true then tb σ H1 Q else Q x H1)):=by
 intro pins s σ H Q I h
 refine BoolOp_and (thn (ha pins s σ H _ I h) fun v s1 ⟨x,H1,I1,r1,c,tv,q1⟩=>?_)
 refine thn (c4f pins s1 σ H1 x v (fun c' H'=>c'=c∧H'=H1) I1 r1 ⟨c,tv,rfl,rfl⟩) fun b s2 ⟨H2,I2,e1,e2⟩=>?_
 subst e1 e2
 cases b with
 | true=>exact hb pins s2 σ H2 Q I2 (by simpa using q1)
 | false=>exact ⟨x,H2,I2,r1,by simpa using q1⟩
theorem fe_one {op:BoolOp} (ha:FE X C a ea):FE X C (.BoolOp op [a] pos) ea:=d0w ha
theorem fe_and {rest:List Expr} (ha:FE X C a ea) (hb:FE X C (.BoolOp .And (b :: rest) pos) eb):FE X C (.BoolOp .And (a :: b :: rest) pos) (d2x ea eb):=PE.imp (c7c ha hb) fun σ H Q ⟨c,L,S,Q0,I,h,k⟩ =>
 ⟨c,L,S,_,I,h,fun v L1 hv x S1 H1 r1 I1 s1=>by
  obtain ⟨t,e,q⟩:=wpx hv
  refine ⟨t,b6z I1.sub (.inl r1) e,?_⟩
  cases t with
  | true=>exact ⟨c,L1,S1,Q0,I1,q,fun v L' q x S' H' r I' s'=>k v L' q x S' H' r I' (s1.trans s')⟩
  | false=>exact k v L1 q x S1 H1 r1 I1 s1⟩
theorem fe_if (hc:FB X C d ba) (ha:FE X C a ea) (hb:FE X C b eb):FE X C (.IfExp d a b pos) (eIf ba ea eb):=PE.imp (c2o hc ha hb) fun σ H Q ⟨c,L,S,Q0,I,h,k⟩ =>
 ⟨c,L,S,_,I,h,fun t L1 hv S1 H1 I1 s1=>by
  cases t with
  | true=>exact ⟨c,L1,S1,Q0,I1,hv,fun v L' q x S' H' r I' s'=>k v L' q x S' H' r I' (s1.trans s')⟩
  | false=>exact ⟨c,L1,S1,Q0,I1,hv,fun v L' q x S' H' r I' s'=>k v L' q x S' H' r I' (s1.trans s')⟩⟩
theorem fb_val (hp:c4r a=true) (ha:FR X C a ea):FB X C a (a2c ea):=PT.imp (c2g ha (b0z hp)) fun σ H Q ⟨c,L,S,Q0,I,h,k⟩ =>
 ⟨c,L,S,_,I,h,fun v L1 hv x S1 H1 r1 I1 s1=>by
  obtain ⟨t,e,q⟩:=wpx hv
  exact ⟨t,b6z I1.sub r1 e,k t L1 q S1 H1 I1 s1⟩⟩
theorem fb_not (ha:FB X C a ba):FB X C (.UnaryOp .Not a pos) (d3k ba):=PT.imp (d0m ha) fun σ H Q ⟨c,L,S,Q0,I,h,k⟩=>⟨c,L,S,_,I,h,fun t L1 hv S1 H1 I1 s1=>k _ L1 hv S1 H1 I1 s1⟩
theorem d7i (ha:FB X C a ba):FW X C (.BoolOp .And [a] pos) ba:=c6l ha
theorem fw_or1 (ha:FB X C a ba):FW X C (.BoolOp .Or [a] pos) ba:=d0j ha
theorem fw_and {rest:List Expr} (ha:FB X C a ba) (hb:FW X C (.BoolOp .And (b :: rest) pos) bb):FW X C (.BoolOp .And (a :: b :: rest) pos) (c3x ba bb):=PW.imp (d0k ha hb) fun σ H Q ⟨c,L,S,Q0,I,h,k⟩ =>
 ⟨c,L,S,_,I,h,fun t L1 hv S1 H1 I1 s1=>by
  cases t with
  | true=>exact ⟨c,L1,S1,Q0,I1,hv,fun v L' q S' H' I' s'=>k v L' q S' H' I' (s1.trans s')⟩
  | false=>exact k _ L1 hv S1 H1 I1 s1⟩
theorem fw_or {rest:List Expr} (ha:FB X C a ba) (hb:FW X C (.BoolOp .Or (b :: rest) pos) bb):FW X C (.BoolOp .Or (a :: b :: rest) pos) (bOr ba bb):=PW.imp (d6e ha hb) fun σ H Q ⟨c,L,S,Q0,I,h,k⟩ =>
 ⟨c,L,S,_,I,h,fun t L1 hv S1 H1 I1 s1=>by
  cases t with
  | false=>exact ⟨c,L1,S1,Q0,I1,hv,fun v L' q S' H' I' s'=>k v L' q S' H' I' (s1.trans s')⟩
  | true=>exact k _ L1 hv S1 H1 I1 s1⟩
theorem fb_w (h:FW X C a ba):FB X C a ba:=PW.pt h
theorem fa_nil:FA X C [] a0k:=PA.imp a1s fun σ H Q ⟨c,L,S,Q0,I,h,k⟩=>k [] L h [] S H rfl I (Same.refl S)
theorem d9l {xs:List Expr} {as:AW} (hs:a0g a=false) (ha:FE X C a ea) (hr:FA X C xs as):FA X C (a :: xs) (a0a ea as):=PA.imp (a0j ha hr (a0c hs)) fun σ H Q ⟨c,L,S,Q0,I,h,k⟩ =>
 ⟨c,L,S,_,I,h,fun v L1 hv x S1 H1 r1 I1 s1=>⟨c,L1,S1,_,I1,hv,fun vs L2 hvs us S2 H2 r2 I2 s2=>k _ L2 hvs _ S2 H2 ⟨x,us,rfl,r1.mono s2,r2⟩ I2 (s1.trans s2)⟩⟩
theorem fe_tup {xs:List Expr} {as:AW} {m:Nat} (h:FA X C xs as):FE X C (.Tuple xs m pos) (a3y as):=PE.imp (d0u h) fun σ H Q ⟨c,L,S,Q0,I,h,k⟩ =>
 ⟨c,L,S,_,I,h,fun vs L1 hv us S1 H1 r1 I1 s1=>⟨by have:=a1i; rw [← r1.length]; exact Nat.le_trans hv.1 this,fun p hp=>(b1d I1 fun x S' H' r I' s'=>k _ L1 hv.2 x S' H' r I' (s1.trans s')).tup _ _ p rfl r1 hp⟩⟩
theorem fe_lst {xs:List Expr} {as:AW} (h:FA X C xs as):FE X C (.List xs pos) (b0o as):=PE.imp (c4t h) fun σ H Q ⟨c,L,S,Q0,I,h,k⟩ =>
 ⟨c,L,S,_,I,h,fun vs L1 hv us S1 H1 r1 I1 s1=>⟨by have:=a1i; rw [← r1.length]; exact Nat.le_trans hv.1 this,fun p hp=>(b1d I1 fun x S' H' r I' s'=>k _ L1 hv.2 x S' H' r I' (s1.trans s')).lst _ _ p rfl r1 hp⟩⟩
theorem ff_lst {xs:List Expr} {as:AW} (h:FA X C xs as):FF X C (.List xs pos) (b0o as):=PE.imp (c4t h) fun σ H Q ⟨c,L,S,Q0,I,h,k⟩ =>
 ⟨c,L,S,_,I,h,fun vs L1 hv us S1 H1 r1 I1 s1=>⟨by have:=a1i; rw [← r1.length]; exact Nat.le_trans hv.1 this,fun p hp=>(c7j I1 ⟨vs,rfl⟩ fun a S' H' o fr I' s'=>k _ L1 hv.2 a S' H' o fr I' (s1.trans s')).lst _ _ p rfl r1 hp⟩⟩
theorem fe_ix (hs:a4c b=false) (ha:FE X C a ea) (hb:FR X C b eb):FE X C (.Subscript a b pos) (eOp ixF ea eb):=PE.imp (d0z q_ix ha hb (a9n hs)) fun σ H Q ⟨c,L,S,Q0,I,h,k⟩ =>
 go2 ⟨c,L,S,fun x y L2=>wp (ixF x y) fun z=>Q0 z L2,I,h,fun v w L' S' H' x y q r1 r2 I' s'=>by
  obtain ⟨z,e,q⟩:=wpx q
  exact ⟨S',v,w,z,I'.sub,.inl r1,r2,e,fun u r=>k z L' q u S' H' r I' s'⟩⟩
theorem fe_ixN (G:Good X C n sp) {i:Nat} {nx:Str} (hs:a4c b=false) (h:C.nm i nx=true) (hb:FR X C b eb):FE X C (.Subscript (.Name nx p) b pos) (b0n ixF i eb):=PE.imp (d0z q_ix (a1r G h) hb (a9n hs)) fun σ H Q ⟨c,L,S,Q0,I,h,k⟩ =>
 go2N ⟨c,L,S,fun x y L2=>wp (ixF x y) fun z=>Q0 z L2,I,h,fun v w L' S' H' x y q r1 r2 I' s'=>by
  obtain ⟨z,e,q⟩:=wpx q
  exact ⟨S',v,w,z,I'.sub,r1,r2,e,fun u r=>k z L' q u S' H' r I' s'⟩⟩
theorem d7s:FO X C none b2v:=PO.imp c6t fun σ H Q ⟨c,L,S,Q0,I,h,k⟩=>k none L h S H I (Same.refl S)
theorem d7r (h:FE X C a ea):FO X C (some a) (b2u ea):=PO.imp (c6s h) fun σ H Q ⟨c,L,S,Q0,I,h,k⟩ =>
 ⟨c,L,S,_,I,h,fun v L1 hv x S1 H1 r1 I1 s1=>by
  obtain ⟨i,e,q⟩:=wpx hv
  cases a1k e
  exact ⟨i,r1,k _ L1 q S1 H1 I1 s1⟩⟩
variable {xl xh:Option Expr} {wl wh:OW} {p2:Pos}
theorem fe_sl (ha:FE X C a ea) (hl:FO X C xl wl) (hh:FO X C xh wh):FE X C (.Subscript a (.Slice xl xh none p2) pos) (eSl ea wl wh):=PE.imp (b3y q_sl ha hl hh) fun σ H Q ⟨c,L,S,Q0,I,h,k⟩ =>
 ⟨c,L,S,_,I,h,fun v L1 hv x S1 H1 r1 I1 s1=>⟨c,L1,S1,_,I1,hv,fun o1 L2 h1 S2 H2 I2 s2=>⟨c,L2,S2,_,I2,h1,fun o2 L3 h2 S3 H3 I3 s3=>by
  obtain ⟨z,e,q⟩:=wpx h2
  exact ⟨S3,v,z,I3.sub,.inl (r1.mono (s2.trans s3)),e,b1d I3 fun x S' H' r I' s'=>k z L3 q x S' H' r I' (s1.trans (s2.trans (s3.trans s')))⟩⟩⟩⟩
theorem sl_n {σ:L2.St} {i:Nat} {Q:VK} {Q1:FV→a0d→Prop} (I:Iv K c md L σ S H) (h:d2s i wl wh L Q1) (k:∀ v z o1 o2 L' S' H' x,a5v v o1 o2=some z→Q1 z L'→RH K S' H' v x→Iv K c md L' σ S' H'→Same S S'→NewOr K S' H' Q z):tSl (Rsl K) (c9b i) (lo K md wl) (lo K md wh) σ H Q:=by
 obtain ⟨_,e,h⟩:=wpx h
 obtain ⟨x,e1,_⟩:=I.rd e
 refine ⟨x,e1,c,L,S,_,I,h,fun o1 L2 h1 S2 H2 I2 s2=>⟨c,L2,S2,_,I2,h1,fun o2 L3 h2 S3 H3 I3 s3=>?_⟩⟩
 obtain ⟨v,e2,h3⟩:=wpx h2
 obtain ⟨z,e3,q⟩:=wpx h3
 obtain ⟨x',e4,r⟩:=I3.rd e2
 rw [e1] at e4; cases e4
 exact ⟨S3,v,z,I3.sub,r,e3,k v z o1 o2 L3 S3 H3 x e3 q r I3 (s2.trans s3)⟩
end
section
variable {X:Cx} {C:CC} {n:Nat} {sp:Γd→Nat→Sp} {a b d x y z:Expr} {ea eb ec:EW} {ba bb:BW} {pos p:Pos}
variable {K:Γd} {c:Cn} {md:Md} {L:a0d} {σ:L2.St} {S H:Hp} {i:Nat} {nx:Str}
variable {xl xh:Option Expr} {wl wh:OW} {p2:Pos}
theorem fe_slN (G:Good X C n sp) (h:C.nm i nx=true) (hl:FO X C xl wl) (hh:FO X C xh wh):FE X C (.Subscript (.Name nx p) (.Slice xl xh none p2) pos) (d2s i wl wh):=PE.imp (b3y q_sl (a1r G h) hl hh) fun σ H Q ⟨c,L,S,Q0,I,h,k⟩ =>
 sl_n I h fun v z o1 o2 L' S' H' x e q r I' s'=>b1d I' fun x S2 H2 r I2 s2=>k z L' q x S2 H2 r I2 (s'.trans s2)
noncomputable def sliceL (k:Nat) (l h:OW):EW:=fun L Q=>d2s k l h L fun z L'=>isL z=true∧(∃ ps,z=.lst ps)∧Q z L'
theorem d3d {f:FV→Option FV} {Q:VK} (hh:lv K md (eUn f ea) σ H Q):tCB (Rc K f) (c1m (lr K md ea) tNil) σ H Q:=by
 obtain ⟨c,L,S,Q0,I,h,k⟩:=hh
 refine ⟨c,L,S,_,I,h,fun v L1 hv x S1 H1 r1 I1 s1=>?_⟩
 obtain ⟨z,e,q⟩:=wpx hv
 exact ⟨S1,v,x,z,rfl,I1.sub,r1,e,b1d I1 fun x S' H' r I' s'=>k z L1 q x S' H' r I' (s1.trans s')⟩
theorem b3c {id nm:String} {f:FV→Option FV} (hc:a1n X.nox (.builtin id) (Rc X.K f)) (G:Good X C n sp) (hb:nm∈bltNames) (hv:bootBuiltins (Γe nm)=some (.builtin id)) (h1:Γe nm≠"__name__") (h2:(Γe nm == ("__debug__":Str))=false) (hg:C.gl (Γe nm)=true) (hs:a0g a=false) (ha:FR X C a ea) :
  FE X C (.Call (.Name (Γe nm) p) [a] [] pos) (eUn f ea):=PE.imp (a4n hc (G.gl hg) (G.blt nm hb) hv (a0j ha a1s (a0c hs)) h1 h2 (a0c hs) rfl) fun σ H Q h=>d3d h
theorem d2m {T nm:String} {f:FV→Option FV} (hc:a1n X.nox (.type T) (Rc X.K f)) (G:Good X C n sp) (hb:nm∈bltNames) (hv:bootBuiltins (Γe nm)=some (.type T)) (h1:Γe nm≠"__name__") (h2:(Γe nm == ("__debug__":Str))=false) (hg:C.gl (Γe nm)=true) (hs:a0g a=false) (ha:FR X C a ea) :
  FE X C (.Call (.Name (Γe nm) p) [a] [] pos) (eUn f ea):=PE.imp (a4m hc (G.gl hg) (G.blt nm hb) hv (a0j ha a1s (a0c hs)) h1 h2 (a0c hs) rfl) fun σ H Q h=>d3d h
theorem fe_len (G:Good X C n sp) (hg:C.gl (Γe "len")=true) (hs:a0g a=false) (ha:FR X C a ea):FE X C (.Call (.Name (Γe "len") p) [a] [] pos) (eUn a8h ea):=b3c e0b G (by decide) (by nofun) (by nofun) (by nofun) hg hs ha
theorem fe_abs (G:Good X C n sp) (hg:C.gl (Γe "abs")=true) (hs:a0g a=false) (ha:FR X C a ea):FE X C (.Call (.Name (Γe "abs") p) [a] [] pos) (eUn d3m ea):=b3c e0f G (by decide) (by nofun) (by nofun) (by nofun) hg hs ha
theorem fe_sum (G:Good X C n sp) (hg:C.gl (Γe "sum")=true) (hs:a0g a=false) (ha:FR X C a ea):FE X C (.Call (.Name (Γe "sum") p) [a] [] pos) (eUn c9p ea):=b3c (c8r G.calm) G (by decide) (by nofun) (by nofun) (by nofun) hg hs ha
theorem fe_all (G:Good X C n sp) (hg:C.gl (Γe "all")=true) (hs:a0g a=false) (ha:FR X C a ea):FE X C (.Call (.Name (Γe "all") p) [a] [] pos) (eUn d4r ea):=b3c (e0e G.calm) G (by decide) (by nofun) (by nofun) (by nofun) hg hs ha
theorem fe_any (G:Good X C n sp) (hg:C.gl (Γe "any")=true) (hs:a0g a=false) (ha:FR X C a ea):FE X C (.Call (.Name (Γe "any") p) [a] [] pos) (eUn c9f ea):=b3c (e0d G.calm) G (by decide) (by nofun) (by nofun) (by nofun) hg hs ha
theorem d8k (G:Good X C n sp) (hg:C.gl (Γe "min")=true) (hs:a0g a=false) (ha:FR X C a ea):FE X C (.Call (.Name (Γe "min") p) [a] [] pos) (eUn c2t ea):=b3c (d3f G.calm) G (by decide) (by nofun) (by nofun) (by nofun) hg hs ha
theorem d4e (G:Good X C n sp) (hg:C.gl (Γe "int")=true) (hs:a0g a=false) (ha:FR X C a ea):FE X C (.Call (.Name (Γe "int") p) [a] [] pos) (eUn b3p ea):=d2m e0c G (by decide) (by nofun) (by nofun) (by nofun) hg hs ha
theorem d4d (G:Good X C n sp) (hg:C.gl (Γe "tuple")=true) (hs:a0g a=false) (ha:FR X C a ea):FE X C (.Call (.Name (Γe "tuple") p) [a] [] pos) (eUn a2x ea):=d2m c8q G (by decide) (by nofun) (by nofun) (by nofun) hg hs ha
theorem d8e (G:Good X C n sp) (hg:C.gl (Γe "list")=true) (hs:a0g a=false) (ha:FR X C a ea):FF X C (.Call (.Name (Γe "list") p) [a] [] pos) (eUn a6z ea) :=
 PE.imp (a4m d3i (G.gl hg) (G.blt "list" (by decide)) (by nofun) (a0j ha a1s (a0c hs)) (by nofun) (by nofun) (a0c hs) rfl) fun σ H Q ⟨c,L,S,Q0,I,h,k⟩ =>
 ⟨c,L,S,_,I,h,fun v L1 hv x S1 H1 r1 I1 s1=>by
  obtain ⟨z,e,q⟩:=wpx hv
  obtain ⟨ps,e1,rfl⟩:=mpd e
  exact ⟨S1,v,x,_,rfl,I1.sub,r1,e,c7j I1 ⟨ps,rfl⟩ fun a S' H' o fr I' s'=>k _ L1 q a S' H' o fr I' (s1.trans s')⟩⟩
theorem d2n {id nm:String} {f:FV→FV→Option FV} (hc:a1n X.nox (.builtin id) (Rc2 X.K f)) (G:Good X C n sp) (hb:nm∈bltNames) (hv:bootBuiltins (Γe nm)=some (.builtin id)) (h1:Γe nm≠"__name__") (h2:(Γe nm == ("__debug__":Str))=false) (hg:C.gl (Γe nm)=true) (hs:a0g a=false) (hs2:a0g b=false) (ha:FE X C a ea) (hb':FR X C b eb) :
  FE X C (.Call (.Name (Γe nm) p) [a,b] [] pos) (eOp f ea eb):=PE.imp (a4n hc (G.gl hg) (G.blt nm hb) hv (a0j ha (a0j hb' a1s (a0c hs2)) (a0c hs)) h1 h2 (a0c hs) (by rw [a0c hs2]; rfl)) fun σ H Q ⟨c,L,S,Q0,I,h,k⟩ =>
 ⟨c,L,S,_,I,h,fun v L1 hv x S1 H1 r1 I1 s1=>⟨c,L1,S1,_,I1,hv,fun w L2 hw y S2 H2 r2 I2 s2=>by
  obtain ⟨z,e,q⟩:=wpx hw
  exact ⟨S2,v,w,x,y,z,rfl,I2.sub,.inl (r1.mono s2),r2,e,b1d I2 fun x S' H' r I' s'=>k z L2 q x S' H' r I' (s1.trans (s2.trans s'))⟩⟩⟩
theorem d8l (G:Good X C n sp) (hg:C.gl (Γe "min")=true) (hs:a0g a=false) (hs2:a0g b=false) (ha:FE X C a ea) (hb':FR X C b eb):FE X C (.Call (.Name (Γe "min") p) [a,b] [] pos) (eOp b5l ea eb):=d2n (d3g G.calm) G (by decide) (by nofun) (by nofun) (by nofun) hg hs hs2 ha hb'
theorem d8m (G:Good X C n sp) (hg:C.gl (Γe "max")=true) (hs:a0g a=false) (hs2:a0g b=false) (ha:FE X C a ea) (hb':FR X C b eb):FE X C (.Call (.Name (Γe "max") p) [a,b] [] pos) (eOp b8l ea eb):=d2n (d3h G.calm) G (by decide) (by nofun) (by nofun) (by nofun) hg hs hs2 ha hb'
noncomputable def b3m:Ty→String | .int=>"int" | .bool=>"bool" | .str=>"str" | .list=>"list" | .tuple=>"tuple"
theorem c1j {v:FV} {u:V} {t:Ty} {r:Bool} (s:Same S H) (rv:RH K S H v u) (e:a7d v t=some r):∃ T,TyOf K H u (.type T)∧PySem.W.kitOne K (.type T) (.type (b3m t))=some r:=by
 cases v with
 | non=>cases (show u=V.non from rv.val rfl); exact ⟨_,.non,by cases e; cases t <;> rfl⟩
 | bl c=>cases rv.bl; exact ⟨_,.bl _,by cases e; cases t <;> rfl⟩
 | int c=>cases rv.int; exact ⟨_,.int _,by cases e; cases t <;> rfl⟩
 | str c=>cases (show u=V.str _ from rv.val rfl); exact ⟨_,.str _,by cases e; cases t <;> rfl⟩
 | tup ps =>
  obtain ⟨a,xs,rfl,h1,h2⟩:=rv.tup s
  exact ⟨_,.tup h1,by cases e; cases t <;> rfl⟩
 | lst l =>
  obtain ⟨a,xs,rfl,h1,h2⟩:=rv.lst s
  exact ⟨_,.lst h1,by cases e; cases t <;> rfl⟩
 | scr ns=>cases e
 | dct _ _=>cases e
 | dci _ _=>cases e
 | dcz _ _ _=>cases e
 | shn d=>cases (show u=V.str _ from rv.val rfl); exact ⟨_,.str _,by cases e; cases t <;> rfl⟩
theorem fe_isi {t:Ty} {tn:Str} (G:Good X C n sp) (hg:C.gl (Γe "isinstance")=true) (ht:tn=Γe (b3m t)) (hg2:C.gl tn=true) (hs:a0g a=false) (ha:FR X C a ea) :
  FE X C (.Call (.Name (Γe "isinstance") p) [a,.Name tn p2] [] pos) (eUn (d2b t) ea):=by
 subst ht
 have cc:a1n X.nox (.builtin "isinstance") (fun xs H Q=>∃ v c b T,xs=[v,.ty c]∧TyOf X.K H v (.type T)∧PySem.W.kitOne X.K (.type T) (.type c)=some b∧Q (.bl b) H):=by
  rintro pins s σ H xs us Q I r ⟨v,c,b,T,rfl,h1,h2,q⟩
  obtain ⟨u,u',rfl,ru,ru'⟩:=b6v r
  obtain rfl:u'=.type c:=ru'
  exact b9h I ru h1 h2 fun tk=>⟨.bl b,H,I.tok _,rfl,q⟩
 have tt:PE X.nox (.Name (Γe (b3m t)) p2) (tC (.ty (b3m t))):=by
  cases t <;> exact c7b (G.gl hg2) (G.blt _ (by decide)) (by nofun) rfl (by nofun) (by nofun)
 refine PE.imp (a4n cc (G.gl hg) (G.blt "isinstance" (by decide)) (by nofun) (a0j ha (a0j tt a1s rfl) (a0c hs)) (by nofun) (by nofun) (a0c hs) rfl) fun σ H Q ⟨c,L,S,Q0,I,h,k⟩ =>
  ⟨c,L,S,_,I,h,fun v L1 hv x S1 H1 r1 I1 s1=>?_⟩
 obtain ⟨z,e,q⟩:=wpx hv
 obtain ⟨r,e1,rfl⟩:=mpd e
 obtain ⟨T,t1,t2⟩:=c1j I1.sub r1 e1
 exact ⟨x,_,_,T,rfl,t1,t2,k _ L1 q _ S1 H1 rfl I1 s1⟩
noncomputable def e0g (apos cpos:Pos):Bool:=apos.endLine == cpos.line
theorem fe_app (G:Good X C n sp) {apos cpos:Pos} (h:C.nm i nx=true) (m:a0m C.md i=.own) (hl:e0g apos cpos=true) (hs:a0g a=false) (ha:FE X C a ea):FE X C (.Call (.Attribute (.Name nx p) (Γe "append") apos) [a] [] cpos) (b3e d3l i ea):=by
 refine PE.imp (c7a PySem.F.plainAttrs_list PySem.F.slot_list_append PySem.F.type_list_append a6v (a1r G h) (a0j ha a1s (a0c hs)) rfl (by rw [a0c hs]; rfl) hl (a0c hs) rfl) fun σ H Q ⟨c,L,S,Q0,I,h,k⟩=>?_
 obtain ⟨v,e,h⟩:=wpx h
 obtain ⟨v9,e9,h⟩:=wpx h
 cases a3e e9
 have e':=(a2p _ _ _).mp e
 have mi:a0m C.md i≠.imm:=fun z=>by rw [m] at z; cases z
 obtain ⟨l,e1,⟨_,ps,xs,e8,h1,_⟩,_⟩:=I.own i _ mi e'
 refine ⟨_,e1,.inl ⟨rfl,xs,SqL.of h1⟩,c,L,S,_,I,h,fun w L1 hw y S1 H1 r1 I1 s1=>?_⟩
 obtain ⟨v1,e2,hw⟩:=wpx hw
 obtain ⟨z,e3,q⟩:=wpx hw
 have e2':=(a2p _ _ _).mp e2
 obtain ⟨qs,e4,e5⟩:=bnd e3
 cases a3e e4
 obtain ⟨hb,rfl⟩:=itd e5
 obtain ⟨l',f1,⟨f2,rs,zs,f3,f4,f5⟩,_⟩:=I1.own i _ mi e2'
 rw [e1] at f1; cases f1
 cases f3
 have:=a1i
 exact ⟨l,zs,y,rfl,rfl,f4,by rw [← f5.length]; lia,k _ _ q .non S1 _ rfl (I1.write m e2' e1 (f5.append (RVs.one r1))) s1⟩
theorem fe_ext (G:Good X C n sp) {apos cpos:Pos} (h:C.nm i nx=true) (m:a0m C.md i=.own) (hl:e0g apos cpos=true) (hs:a0g a=false) (ha:FR X C a ea):FE X C (.Call (.Attribute (.Name nx p) (Γe "extend") apos) [a] [] cpos) (b3e d9n i ea):=by
 have mt:MtR X.nox "list.extend" (fun x xs H Q=>b7q x xs H Q ∨ d0a X.K x xs H Q):=fun pins s σ H x xs v us Q I rx rv h=>h.elim (b8k pins s σ H x xs v us Q I rx rv) (c7l pins s σ H x xs v us Q I rx rv)
 refine PE.imp (c7a PySem.F.plainAttrs_list PySem.F.slot_list_extend PySem.F.type_list_extend mt (a1r G h) (a0j ha a1s (a0c hs)) rfl (by rw [a0c hs]; rfl) hl (a0c hs) rfl) fun σ H Q ⟨c,L,S,Q0,I,h,k⟩=>?_
 obtain ⟨v,e,h⟩:=wpx h
 obtain ⟨v9,e9,h⟩:=wpx h
 cases a3e e9
 have e':=(a2p _ _ _).mp e
 have mi:a0m C.md i≠.imm:=fun z=>by rw [m] at z; cases z
 obtain ⟨l,e1,⟨_,ps,xs,e8,h1,_⟩,_⟩:=I.own i _ mi e'
 refine ⟨_,e1,.inl ⟨rfl,xs,SqL.of h1⟩,c,L,S,_,I,h,fun w L1 hw y S1 H1 r1 I1 s1=>?_⟩
 obtain ⟨v1,e2,hw⟩:=wpx hw
 obtain ⟨z,e3,q⟩:=wpx hw
 have e2':=(a2p _ _ _).mp e2
 obtain ⟨qs,e4,e5⟩:=bnd e3
 obtain ⟨ys,e6,e7⟩:=bnd e5
 cases a3e e4
 obtain ⟨hb,rfl⟩:=itd e7
 obtain ⟨l',f1,⟨f2,rs,zs,f3,f4,f5⟩,_⟩:=I1.own i _ mi e2'
 rw [e1] at f1; cases f1
 cases f3
 have hbl:=a1i
 have l5:=f5.length
 have fin:∀ us,RVs X.K S1 ys us→Q .non (upd H1 l (.lst (zs++us))):=fun us ru=>k _ _ q .non S1 _ rfl (I1.write m e2' e1 (f5.append ru)) s1
 cases w with
 | tup ws =>
  cases e6
  obtain ⟨b,us,rfl,g1,g2⟩:=r1.tup I1.sub
  have l6:=g2.length
  exact .inr ⟨l,b,zs,us,rfl,rfl,f4,SqT.of g1,by lia,fin us g2⟩
 | lst ws =>
  cases e6
  obtain ⟨b,us,rfl,g1,g2⟩:=r1.lst I1.sub
  have l6:=g2.length
  exact .inl ⟨l,b,zs,us,rfl,rfl,f4,g1,by lia,fin us g2⟩
 | _=>cases e6
end
noncomputable def ArgsOk (K:Γd) (S H:Hp) (args:List FV) (vs:List V):Bool→Prop
 | false=>RVs K S args vs
 | true=>∃ v r a us,args=v :: r∧vs=.ref a :: us∧a4f K S H a v∧RVs K S r us
noncomputable def c8y (K:Γd) (S' H' H:Hp) (v:FV) (x:V):Bool→Prop
 | false=>RV K S' v x
 | true=>∃ a,x=.ref a∧a4f K S' H' a v∧H a=none
noncomputable def b4i (vs:List V):Bool→Option Addr
 | false=>none
 | true=>match vs with
  | .ref a :: _=>some a
  | _=>none
structure Kept (K:Γd) (S H S' H':Hp) (P:Option Addr) (w:FV):Prop where
 same:Same S S'
 sub:Same S' H'
 grow:∀ a o,S' a=some o→S a=some o ∨ H a=none ∨ a9z o=true
 keep:∀ a o,H a=some o→P≠some a→H' a=some o
 back:∀ a,P=some a→a4f K S' H' a w
noncomputable def spQ (K:Γd) (call:CW) (io fr:Bool) (f:Nat):Sp:=fun vs H Q E=>∃ S args Q0,Same S H∧ArgsOk K S H args vs io∧call f args Q0∧∀ z,Q0 z→∀ x S' H',Kept K S H S' H' (b4i vs io) z.2→c8y K S' H' H z.1 x fr→Q x H'
section
variable {X:Cx} {C:CC} {n:Nat} {sp:Γd→Nat→Sp} {a b d x y z:Expr} {ea eb ec:EW} {pos p:Pos} {call:CW}
variable {K:Γd} {c:Cn} {md:Md} {L:a0d} {σ:L2.St} {S H S' H':Hp} {i f:Nat} {nx:Str} {xs:List Expr} {as:AW}
noncomputable def a2j (xs:List Expr):Bool:=xs.all fun x=>!a0g x
theorem b3s:∀ {xs:List Expr} {env:Env},a2j xs=true→(backTo pos (starEach xs env)).any (·.1)=false
 | [],_,_=>rfl
 | x :: xs,env,h=>by
  have h:=b2 (show (!a0g x && a2j xs)=true from h)
  rw [a0c (nb h.1)]
  show (false || (backTo pos (starEach xs env)).any (·.1))=false
  rw [b3s h.2]; rfl
theorem Kept.iv (I:Iv K c md L σ S H) {w:FV} (k:Kept K S H S' H' none w):Iv K c md L σ S' H':=I.go3 k.same k.sub k.grow fun a o e=>k.keep a o e (by simp)
theorem b3j (G:Good X C n sp) {t:TA} (hf:C.fns[f]?=some nx) (hg:C.gl nx=true) (hd:(nx == ("__debug__":Str))=false) (hs:a2j (a :: xs)=true) (ha:PA X.nox (a :: xs) t):PE X.nox (.Call (.Name nx p) (a :: xs) [] pos) (fun σ H Q=>t σ H fun vs H1=>sp X.K f vs H1 Q E0):=by
 obtain ⟨fa,fd,ps,h1,h2,h3,h4⟩:=G.fns f nx hf
 have h:=b2 (show (!a0g a && a2j xs)=true from hs)
 refine PE.imp (c6z (X:=X.nox) h4 G.room (G.gl hg) h1 h2 h3 .nil d6j ha hd (a0c (nb h.1)) (b3s h.2)) fun σ H Q q=>?_
 show t σ H fun vs H1=>sp X.K f (vs++[]) H1 Q E0
 have e:(fun vs H1=>sp X.K f (vs++[]) H1 Q E0)=fun vs H1=>sp X.K f vs H1 Q E0:=by funext vs H1; rw [List.append_nil]
 rw [e]; exact q
theorem d8q (G:Good X C n sp) (e:sp X.K f=spQ X.K call false false f) (hf:C.fns[f]?=some nx) (hg:C.gl nx=true) (hd:(nx == ("__debug__":Str))=false) (hs:a2j (a :: xs)=true) (ha:FA X C (a :: xs) as):FE X C (.Call (.Name nx p) (a :: xs) [] pos) (a1q call f as) :=
 PE.imp (b3j G hf hg hd hs ha) fun σ H Q ⟨c,L,S,Q0,I,h,k⟩=>⟨c,L,S,_,I,h,fun vs L1 hv us S1 H1 r1 I1 s1=>by
  rw [e]
  exact ⟨S1,vs,_,I1.sub,r1,hv,fun z q x S' H' kp r=>k _ L1 q x S' H' r (kp.iv I1) (s1.trans kp.same)⟩⟩
theorem d8g (G:Good X C n sp) (e:sp X.K f=spQ X.K call false true f) (hf:C.fns[f]?=some nx) (hg:C.gl nx=true) (hd:(nx == ("__debug__":Str))=false) (hs:a2j (a :: xs)=true) (ha:FA X C (a :: xs) as):FF X C (.Call (.Name nx p) (a :: xs) [] pos) (a1q call f as) :=
 PE.imp (b3j G hf hg hd hs ha) fun σ H Q ⟨c,L,S,Q0,I,h,k⟩=>⟨c,L,S,_,I,h,fun vs L1 hv us S1 H1 r1 I1 s1=>by
  rw [e]
  refine ⟨S1,vs,_,I1.sub,r1,hv,fun z q x S' H' kp r=>?_⟩
  obtain ⟨a,rfl,o,hn⟩:=r
  exact k _ L1 q a S' H' o (I1.fresh hn) (kp.iv I1) (s1.trans kp.same)⟩
theorem b8i {v:FV} {q:Addr} (I:Iv K c md L σ S H) (o:a4f K S H q v) (fr:b0j c md L σ q):∃ u,H q=some u∧Iv K c md L σ (upd S q u) H∧RV K (upd S q u) v (.ref q):=by
 obtain ⟨h1,ps,us,e0,h2,h3⟩:=o
 have s:=a0h (o:=d3r v us) h1
 refine ⟨_,h2,⟨I.len,fun i v h e=>let ⟨x,e1,r⟩:=I.imm i v h e; ⟨x,e1,r.mono s⟩,fun i v h e=>?_,I.dis,fun a u e=>?_,I.frame,I.s0.trans s,fun a u e=>?_,I.lent,I.fzs,I.fzm,I.fzp,fun p hp=>let ⟨g1,g2,g3⟩:=I.prs p hp; ⟨g1,by rw [a0e (fr.2.1 p hp)]; exact g2,g3⟩,I.ntp⟩,?_⟩
 ·obtain ⟨b,e1,⟨g1,rs,zs,g2,g3,g4⟩,g5⟩:=I.own i v h e
  have hb:b≠q:=fun z=>by subst z; exact fr.2.2 i v h e e1
  exact ⟨b,e1,⟨by rw [a0e hb]; exact g1,rs,zs,g2,g3,g4.mono s⟩,g5⟩
 ·by_cases z:a=q
  ·subst z; rw [a0f] at e; cases e; exact h2
  ·rw [a0e z] at e; exact I.sub a u e
 ·by_cases z:a=q
  ·subst z; exact .inr (.inl fr.1)
  ·rw [a0e z] at e; exact I.grow a u e
 ·cases v with
  | lst qs=>cases e0; exact ⟨q,us,rfl,a0f,h3.mono s⟩
  | dct ks vs=>obtain ⟨hl,rfl⟩:=itd e0; exact ⟨q,us,rfl,hl,a0f,h3.mono s⟩
  | dci ks vs=>obtain ⟨hl,rfl⟩:=itd e0; exact ⟨q,us,rfl,hl,a0f,h3.mono s⟩
  | dcz o ks vs=>obtain ⟨hl,rfl⟩:=itd e0; exact ⟨q,us,rfl,hl,a0f,h3.mono s⟩
  | _=>cases e0
theorem a2v (h:FF X C a ea):FE X C a ea:=PE.imp h fun σ H Q ⟨c,L,S,Q0,I,h,k⟩=>⟨c,L,S,Q0,I,h,fun v L' q a S' H' o fr I' s'=>by
 obtain ⟨u,hu,I2,r⟩:=b8i I' o fr
 exact k v L' q _ _ H' r I2 (s'.trans (a0h o.1))⟩
theorem c7f (G:Good X C n sp) {t:TA} (h:C.nm i nx=true) (hr:PA X.nox xs t):PA X.nox (.Name nx p :: xs) (c1m (c9b i) t):=a0j (a1r G h) hr rfl
theorem c3w {Q:VK} {fr:Bool} {Q1:FV→a0d→Prop} (I:Iv K c md L σ S H) (m:a0m md i=.own) (h:a0q call f i as L Q1)
  (k:∀ v L' x H1 S' H',Q1 v L'→c8y K S' H' H1 v x fr→Iv K c md L' σ S' H'→Same S S'→(∀ a,H1 a=none→b0j c md L' σ a)→Q x H'):c1m (c9b i) (la K md as) σ H fun vs H1=>spQ K call true fr f vs H1 Q E0:=by
 obtain ⟨v0,e,h⟩:=wpx h
 have mi:a0m md i≠.imm:=fun z=>by rw [m] at z; cases z
 obtain ⟨l,e1,_⟩:=I.own i v0 mi ((a2p _ _ _).mp e)
 refine ⟨_,e1,c,L,S,_,I,h,fun vs L1 hv us S1 H1 r1 I1 s1=>?_⟩
 obtain ⟨v1,e2,q⟩:=wpx hv
 have e2:=(a2p _ _ _).mp e2
 obtain ⟨l',f1,o,_⟩:=I1.own i v1 mi e2
 rw [e1] at f1; cases f1
 refine ⟨S1,v1 :: vs,_,I1.sub,⟨v1,vs,l,us,rfl,rfl,o,r1⟩,q,fun z q x S' H' kp r=>?_⟩
 have I2:=I1.back3 m e2 e1 kp.same kp.sub kp.grow (fun b o e n=>kp.keep b o e fun z=>n (by cases z; rfl)) (kp.back l rfl)
 refine k _ _ x H1 S' H' q r I2 (s1.trans kp.same) fun a ha=>⟨I1.h0 ha,(I1.fresh ha).2.1,fun j w mj ej z=>?_⟩
 obtain ⟨_,_,g2⟩:=I1.fresh ha
 by_cases hj:j=i
 ·subst hj; exact g2 j v1 mj e2 z
 ·rw [List.getElem?_set_ne (Ne.symm hj)] at ej; exact g2 j w mj ej z
theorem d4i (G:Good X C n sp) {np:Str} {pp:Pos} (e:sp X.K f=spQ X.K call true false f) (hf:C.fns[f]?=some np) (hg:C.gl np=true) (hd:(np == ("__debug__":Str))=false) (h:C.nm i nx=true) (m:a0m C.md i=.own) (hs:a2j xs=true) (ha:FA X C xs as):FE X C (.Call (.Name np pp) (.Name nx p :: xs) [] pos) (a0q call f i as) :=
 PE.imp (b3j G hf hg hd (show (true && a2j xs)=true by rw [hs]; rfl) (c7f G h ha)) fun σ H Q ⟨c,L,S,Q0,I,h,k⟩=>by
  rw [e]
  exact c3w I m h fun v L' x H1 S' H' q r I' s' _=>k v L' q x S' H' r I' s'
end
section
variable {K:Γd} {c:Cn} {md:Md} {L:a0d} {σ:L2.St} {S H:Hp} {i:Nat} {v:FV} {x:V} {a:Addr}
theorem Iv.setI (I:Iv K c md L σ S H) (m:a0m md i=.imm) (r:RV K S v x):Iv K c md (L.set i (some v)) (σ.set i (some x)) S H :=
 I.set (fun a h z=>by subst z; exact (I.lent a h).1 m) (fun z=>by rw [m] at z; cases z) (.inl ⟨m,r⟩)
theorem Iv.prot (I:Iv K c md L σ S H) {o:HO} (h:H a=some o) (hs:S a=none) (ho:∀ i v,a0m md i=.own→L[i]?=some (some v)→σ[i]?≠some (some (.ref a))) (nt:a9z o=false:=by first | rfl | exact a6u _ _):Iv K { c with pr:=(a,o) :: c.pr } md L σ S H :=
 ⟨I.len,I.imm,I.own,I.dis,I.sub,I.frame,I.s0,I.grow,I.lent,I.fzs,I.fzm,fun p hp=>let ⟨xs,h⟩:=I.fzp p hp; ⟨xs,Γh _ h⟩,fun p hp=>(List.mem_cons.mp hp).elim (fun e=>e ▸ ⟨h,hs,ho⟩) (I.prs p),fun p hp=>(List.mem_cons.mp hp).elim (fun e=>e ▸ nt) (I.ntp p)⟩
theorem b4f:∀ {md:Md} {i j:Nat} {m:Mo},i < md.length→a0m (md.set i m) j=if j=i then m else a0m md j
 | [],i,j,m,h=>absurd h (Nat.not_lt_zero _)
 | a :: md,0,0,m,h=>rfl
 | a :: md,0,j + 1,m,h=>by simp [a0m]
 | a :: md,i + 1,0,m,h=>by simp [a0m]
 | a :: md,i + 1,j + 1,m,h=>by
  have:=b4f (md:=md) (i:=i) (j:=j) (m:=m) (by simpa using h)
  simpa [a0m] using this
theorem c4x:∀ {md:Md} {i:Nat},a0m md i=.own→i < md.length
 | [],i,h=>by simp [a0m] at h
 | a :: md,0,h=>by simp
 | a :: md,i + 1,h=>by simpa using c4x (md:=md) (i:=i) h
theorem Iv.frz (I:Iv K c md L σ S H) {ob:HO} (m:a0m md i=.own) (e:L[i]?=some (some v)) (e1:σ[i]?=some (some (.ref a))) (h:H a=some ob) :
  Iv K { c with fz:=(i,a) :: c.fz,pr:=(a,ob) :: c.pr } (md.set i .frz) L σ S H∧∀ L σ S H,Iv K { c with fz:=(i,a) :: c.fz,pr:=(a,ob) :: c.pr } (md.set i .frz) L σ S H→Iv K c md L σ S H:=by
 have hl:=c4x m
 have mi:a0m md i≠.imm:=fun z=>by rw [m] at z; cases z
 have M:∀ j,a0m (md.set i .frz) j=if j=i then .frz else a0m md j:=fun j=>b4f hl
 have im:∀ {j},a0m (md.set i .frz) j=.imm↔a0m md j=.imm:=fun {j}=>by
  rw [M]
  by_cases q:j=i
  ·subst q; rw [if_pos rfl,m]; simp
  ·rw [if_neg q]
 have nfz:∀ p∈c.fz,p.1≠i:=fun p hp z=>by have:=(I.fzs p hp).1; rw [z,m] at this; cases this
 have npr:∀ p∈c.pr,p.1≠a:=fun p hp z=>(I.prs p hp).2.2 i v m e (by rw [z]; exact e1)
 obtain ⟨a',f1,o,_⟩:=I.own i v mi e
 rw [e1] at f1; cases f1
 have nt:a9z ob=false:=by
  obtain ⟨_,_,_,_,h5,_⟩:=o
  rw [h] at h5; rw [Option.some.inj h5,a6u]
 constructor
 ·refine ⟨I.len,fun j w h=>I.imm j w (im.mp h),fun j w h=>I.own j w (fun z=>h (im.mpr z)),fun j k w u b h1 h2=>I.dis j k w u b (fun z=>h1 (im.mpr z)) (fun z=>h2 (im.mpr z)),I.sub,I.frame,I.s0,I.grow,fun b hb=>let ⟨g1,g2⟩:=I.lent b hb; ⟨fun z=>g1 (im.mp z),g2⟩,fun p hp=>?_,fun j w hm hj=>?_,fun p hp=>?_,fun p hp=>?_,fun p hp=>(List.mem_cons.mp hp).elim (fun z=>by rw [z]; exact nt) (I.ntp p)⟩
  ·rcases List.mem_cons.mp hp with rfl | hp
   ·exact ⟨by rw [M,if_pos rfl],e1,v,e⟩
   ·obtain ⟨g1,g2⟩:=I.fzs p hp
    exact ⟨by rw [M,if_neg (nfz p hp)]; exact g1,g2⟩
  ·by_cases q:j=i
   ·subst q; exact ⟨a,Γn⟩
   ·rw [M,if_neg q] at hm
    obtain ⟨b,g1⟩:=I.fzm j w hm hj
    exact ⟨b,Γh _ g1⟩
  ·rcases List.mem_cons.mp hp with rfl | hp
   ·exact ⟨_,Γn⟩
   ·obtain ⟨ys,g⟩:=I.fzp p hp
    exact ⟨ys,Γh _ g⟩
  ·have own':∀ {j},a0m (md.set i .frz) j=.own→j≠i∧a0m md j=.own:=fun {j} z=>by
    by_cases q:j=i
    ·subst q; rw [M,if_pos rfl] at z; cases z
    ·rw [M,if_neg q] at z; exact ⟨q,z⟩
   rcases List.mem_cons.mp hp with rfl | hp
   ·exact ⟨h,o.1,fun j w hm hj hz=>(own' hm).1 (I.dis j i w v a (fun z=>by rw [(own' hm).2] at z; cases z) mi hj e hz e1)⟩
   ·obtain ⟨g1,g2,g3⟩:=I.prs p hp
    exact ⟨g1,g2,fun j w hm=>g3 j w (own' hm).2⟩
 ·intro L σ S H J
  obtain ⟨_,j1,_⟩:=J.fzs (i,a) Γn
  refine ⟨J.len,fun j w h=>J.imm j w (im.mpr h),fun j w h=>J.own j w (fun z=>h (im.mp z)),fun j k w u b h1 h2=>J.dis j k w u b (fun z=>h1 (im.mp z)) (fun z=>h2 (im.mp z)),J.sub,J.frame,J.s0,J.grow,fun b hb=>let ⟨g1,g2⟩:=J.lent b hb; ⟨fun z=>g1 (im.mpr z),g2⟩,fun p hp=>?_,fun j w hm hj=>?_,I.fzp,fun p hp=>?_,I.ntp⟩
  ·obtain ⟨g1,g2⟩:=J.fzs p (Γh _ hp)
   rw [M,if_neg (nfz p hp)] at g1
   exact ⟨g1,g2⟩
  ·have q:j≠i:=fun z=>by rw [z,m] at hm; cases hm
   obtain ⟨b,g1⟩:=J.fzm j w (by rw [M,if_neg q]; exact hm) hj
   rcases List.mem_cons.mp g1 with z | g1
   ·exact absurd (Prod.mk.inj z).1 q
   ·exact ⟨b,g1⟩
  ·obtain ⟨g1,g2,g3⟩:=J.prs p (Γh _ hp)
   refine ⟨g1,g2,fun j w hm hj=>?_⟩
   by_cases q:j=i
   ·subst q; rw [j1]; exact fun z=>npr p hp (by cases z; rfl)
   ·exact g3 j w (by rw [M,if_neg q]; exact hm) hj
end
noncomputable def ItR (K:Γd) (c:Cn) (md:Md) (J:It) (xs:List FV) (S1:Hp):Prop :=
 ∀ (i:Nat) (L:a0d) (σ:L2.St) (S H:Hp),Iv K c md L σ S H→Same S1 S→(xs[i]?=none→J.stop i H)∧∀ p,xs[i]?=some p→J.go i H∧∀ v H',J.yld i H v H'→∃ S',Same S S'∧(∀ c md L σ,Iv K c md L σ S H→Iv K c md L σ S' H')∧RV K S' p v
noncomputable def li (K:Γd) (md md':Md) (it:AW):TI:=fun σ H R=>∃ c L S Q0,Iv K c md L σ S H∧it L Q0∧∀ xs L',Q0 xs L'→∀ J c' S' H',Iv K c' md' L' σ S' H'→(∀ L σ S H,Iv K c' md' L σ S H→Iv K c md L σ S H)→c'.H0=c.H0→ItR K c' md' J xs S'→Same S S'→R J H'
noncomputable def FI (X:Cx) (C:CC) (md':Md) (tg iter:Expr) (it:AW):Prop:=PI X.nox tg iter (li X.K C.md md' it)
section
variable {X:Cx} {C:CC} {n:Nat} {sp:Γd→Nat→Sp} {a b d x y z tg:Expr} {ea eb ec:EW} {pos p:Pos}
variable {K:Γd} {c:Cn} {md:Md} {L:a0d} {σ:L2.St} {S H:Hp} {i:Nat} {nx:Str}
theorem PI.imp {X:Cx} {tg it:Expr} {t u:TI} (h:PI X tg it t) (f:∀ σ H R,u σ H R→t σ H R):PI X tg it u:=fun pins s σ H R I hu=>h pins s σ H R I (f σ H R hu)
noncomputable def Its (K:Γd):Bool→Addr→It
 | true,a=>Itl K a
 | false,a=>Itt K a
theorem c4s {X:Cx} {tg it:Expr} {te:TE} (h:PE X it te):PI X tg it (fun σ H R=>te σ H fun v H1=>∃ b a xs,v=.ref a∧SqB b X.K H1 a xs∧R (Its X.K b a) H1):=by
 intro pins s σ H R I hh
 refine thn (h pins s σ H _ I hh) fun v s1 ⟨x,H1,I1,r1,b,a,xs,e,hq,q⟩=>?_
 subst e
 cases r1
 cases b with
 | true =>
  obtain ⟨its,rv,p,hz⟩:=I1.list hq
  refine wpAny_pyIter_list p.isList ?_
  refine ⟨s1.heap.objs.size,[s1.heap.objs.size],_,_,H1,rfl,I1.kept (t':=s1.toks) fun b o e=>Γc _ e,b6w a _,⟨_,Γm _ rfl,rfl,rfl⟩,fun b hb=>?_,q⟩
  have e:b=s1.heap.objs.size:=by simpa using hb
  subst e
  exact I1.fpOk (Γi _) (I1.hok.fresh (Γi _))
 | false =>
  obtain ⟨its,rv,p,hz⟩:=I1.tuple hq
  refine wpAny_pyIter_tuple p ?_
  refine ⟨s1.heap.objs.size,[s1.heap.objs.size],_,_,H1,rfl,I1.kept (t':=s1.toks) fun b o e=>Γc _ e,b5e a _,⟨_,Γm _ rfl,rfl,rfl⟩,fun b hb=>?_,q⟩
  have e:b=s1.heap.objs.size:=by simpa using hb
  subst e
  exact I1.fpOk (Γi _) (I1.hok.fresh (Γi _))
theorem c5e {t:Bool} {q:Addr} {ps:List FV} {S1:Hp} (h:∀ L σ S H,Iv K c md L σ S H→Same S1 S→∃ vs,SqB t K H q vs∧RVs K S ps vs):ItR K c md (Its K t q) ps S1:=by
 intro i L σ S H I s
 obtain ⟨vs,h1,h2⟩:=h L σ S H I s
 cases t with
 | true =>
  refine ⟨fun e=>⟨vs,h1,by rw [← h2.length]; exact List.getElem?_eq_none_iff.mp e⟩,fun p ep=>?_⟩
  obtain ⟨v,e1,r1⟩:=h2.get ep
  refine ⟨⟨vs,v,h1,e1⟩,fun w H' ⟨eh,y⟩=>?_⟩
  have:=y vs h1
  rw [e1] at this; cases this
  subst eh
  exact ⟨S,Same.refl S,fun _ _ _ _ I=>I,r1⟩
 | false =>
  refine ⟨fun e=>⟨vs,h1,by rw [← h2.length]; exact List.getElem?_eq_none_iff.mp e⟩,fun p ep=>?_⟩
  obtain ⟨v,e1,r1⟩:=h2.get ep
  refine ⟨⟨vs,v,h1,e1⟩,fun w H' ⟨eh,y⟩=>?_⟩
  have:=y vs h1
  rw [e1] at this; cases this
  subst eh
  exact ⟨S,Same.refl S,fun _ _ _ _ I=>I,r1⟩
theorem RV.stays {v:FV} {ps:List FV} {u:V} {S1:Hp} (r:RV K S1 v u) (e:a3v v=some ps):∃ q,u=.ref q∧∀ S H,Same S1 S→Same S H→∃ vs,SqB (isL v) K H q vs∧RVs K S ps vs:=by
 cases v with
 | tup qs=>cases e; obtain ⟨q,vs,rfl,h1,h2⟩:=r; exact ⟨q,rfl,fun S H s s'=>⟨vs,SqT.of (s' _ _ (s _ _ h1)),h2.mono s⟩⟩
 | lst qs=>cases e; obtain ⟨q,vs,rfl,h1,h2⟩:=r; exact ⟨q,rfl,fun S H s s'=>⟨vs,SqL.of (s' _ _ (s _ _ h1)),h2.mono s⟩⟩
 | scr ns=>cases e; obtain ⟨q,rfl,h⟩:=r; exact ⟨q,rfl,fun S H s s'=>⟨_,h.sq (s.trans s'),RVs.ns ns⟩⟩
 | _=>cases e
theorem fi_seq (ha:FE X C a ea):FI X C C.md tg a (a8n ea):=PI.imp (c4s ha) fun σ H R ⟨c,L,S,Q0,I,h,k⟩ =>
 ⟨c,L,S,_,I,h,fun v L1 hv x S1 H1 r1 I1 s1=>by
  obtain ⟨ps,e,q⟩:=wpx hv
  obtain ⟨l,rfl,st⟩:=r1.stays e
  obtain ⟨vs,h1,h2⟩:=st S1 H1 (Same.refl _) I1.sub
  exact ⟨isL v,l,vs,rfl,h1,k ps L1 q _ c S1 H1 I1 (fun _ _ _ _ I=>I) rfl (c5e fun L σ S H I s=>st S H s I.sub) s1⟩⟩
theorem c7e {v:FV} {qs ps:List FV} (e2:d3q v=some qs) (e0:a3v v=some ps):v=.lst ps∧qs=ps:=by
 cases v <;> first | (cases e2; cases e0; exact ⟨rfl,rfl⟩) | cases e2 | cases e0
theorem b2g:∀ (n:Nat) (lo:Int) (i:Nat),(upF lo n)[i]?=if i < n then some (.int (lo + i)) else none
 | 0,lo,i=>by simp [upF]
 | n + 1,lo,0=>by simp [upF]
 | n + 1,lo,i + 1=>by
  show (upF (lo + 1) n)[i]?=_
  rw [b2g n (lo + 1) i]
  have e:lo + 1 + (i:Int)=lo + ((i + 1:Nat):Int):=by lia
  rw [e]
  simp
theorem d1y {lo:Int} {m:Nat} {S1:Hp}:ItR K c md (Itr lo m) (upF lo m) S1:=by
 intro i L σ S H I s
 rw [b2g]
 by_cases h:i < m
 ·rw [if_pos h]
  refine ⟨fun e=>(nomatch e),fun p e=>?_⟩
  cases e
  exact ⟨h,fun v H' ⟨e1,e2⟩=>⟨S,Same.refl S,by rw [e1]; exact fun _ _ _ _ I=>I,e2⟩⟩
 ·rw [if_neg h]
  exact ⟨fun _=>show m≤i by lia,fun p e=>(nomatch e)⟩
theorem fi_rng (G:Good X C n sp) (hg:C.gl (Γe "range")=true) (hs:a0g a=false) (ha:FE X C a ea):FI X C C.md tg (.Call (.Name (Γe "range") p) [a] [] pos) (b0m ea):=PI.imp (b7y (G.gl hg) (G.blt "range" (by decide)) (a0j ha a1s (a0c hs)) (a0c hs)) fun σ H R ⟨c,L,S,Q0,I,h,k⟩ =>
 ⟨c,L,S,_,I,h,fun v L1 hv x S1 H1 r1 I1 s1=>by
  obtain ⟨j,e,hb,q⟩:=wpx hv
  cases a1k e
  have hb:=de hb
  exact ⟨j,by rw [show x=.int j from r1],hb.1,hb.2,k _ L1 q _ c S1 H1 I1 (fun _ _ _ _ I=>I) rfl d1y s1⟩⟩
theorem b4e {P Q:FV} {u w:V} {pp:Addr} (I:Iv K c md L σ S H) (hp:H pp=none) (r1:RV K S P u) (r2:RV K S Q w):∃ S',Same S S'∧(∀ c md L σ,Iv K c md L σ S H→Iv K c md L σ S' (upd H pp (.tup [u,w])))∧RV K S' (.tup [P,Q]) (.ref pp) :=
 ⟨upd S pp (.tup [u,w]),a0h (I.sn hp),fun _ _ _ _ I=>I.new hp _,pp,[u,w],rfl,a0f,u,[w],rfl,r1.mono (a0h (I.sn hp)),w,[],rfl,r2.mono (a0h (I.sn hp)),rfl⟩
theorem b9f {t t':Bool} {q q':Addr} {ps qs:List FV} {S1:Hp} (h:∀ L σ S H,Iv K c md L σ S H→Same S1 S→∃ vs,SqB t K H q vs∧RVs K S ps vs) (h':∀ L σ S H,Iv K c md L σ S H→Same S1 S→∃ vs,SqB t' K H q' vs∧RVs K S qs vs):ItR K c md (Iz2 K t t' q q') (a3w ps qs) S1:=by
 intro i L σ S H I s
 obtain ⟨vs,h1,h2⟩:=h L σ S H I s
 obtain ⟨ws,g1,g2⟩:=h' L σ S H I s
 unfold a3w
 rw [List.getElem?_zipWith]
 refine ⟨fun z=>⟨vs,ws,h1,g1,?_⟩,fun y ey=>?_⟩
 ·rw [← h2.length,← g2.length]
  cases c1:ps[i]? with
  | none=>exact .inl (List.getElem?_eq_none_iff.mp c1)
  | some _ =>
   cases c2:qs[i]? with
   | none=>exact .inr (List.getElem?_eq_none_iff.mp c2)
   | some _=>rw [c1,c2] at z; cases z
 ·cases c1:ps[i]? with
  | none=>rw [c1] at ey; cases ey
  | some p1 =>
   cases c2:qs[i]? with
   | none=>rw [c1,c2] at ey; cases ey
   | some q1 =>
    rw [c1,c2] at ey
    cases ey
    obtain ⟨v,f1,f2⟩:=h2.get c1
    obtain ⟨w,f3,f4⟩:=g2.get c2
    refine ⟨⟨vs,ws,v,w,h1,g1,f1,f3⟩,fun z H' ⟨pp,hp,ez,yy⟩=>?_⟩
    have:=yy vs ws v w h1 g1 f1 f3
    subst this ez
    exact b4e I hp f2 f4
theorem c7x {t:Bool} {q:Addr} {ps:List FV} {S1:Hp} (h:∀ L σ S H,Iv K c md L σ S H→Same S1 S→∃ vs,SqB t K H q vs∧RVs K S ps vs):ItR K c md (Ien K t q) (a3w (upF 0 ps.length) ps) S1:=by
 intro i L σ S H I s
 obtain ⟨vs,h1,h2⟩:=h L σ S H I s
 unfold a3w
 rw [List.getElem?_zipWith,b2g]
 refine ⟨fun z=>⟨vs,h1,?_⟩,fun y ey=>?_⟩
 ·rw [← h2.length]
  by_cases hi:i < ps.length
  ·rw [if_pos hi,List.getElem?_eq_getElem hi] at z; cases z
  ·lia
 ·by_cases hi:i < ps.length
  ·rw [if_pos hi,List.getElem?_eq_getElem hi] at ey
   cases ey
   obtain ⟨v,f1,f2⟩:=h2.get (List.getElem?_eq_getElem hi)
   refine ⟨⟨vs,v,h1,f1⟩,fun z H' ⟨pp,hp,ez,yy⟩=>?_⟩
   have:=yy vs v h1 f1
   subst this ez
   exact b4e I hp (show RV K S (.int (0 + i)) (.int i) by show V.int i=V.int (0 + i); rw [Int.zero_add]) f2
  ·rw [if_neg hi] at ey; cases ey
variable {elts:List Expr} {kk:Nat} {tp:Pos}
theorem fi_zip (G:Good X C n sp) (hg:C.gl (Γe "zip")=true) (hs:a0g a=false) (hs2:a0g b=false) (ha:FE X C a ea) (hb:FE X C b eb):FI X C C.md (.Tuple elts kk tp) (.Call (.Name (Γe "zip") p) [a,b] [] pos) (d2h ea eb) :=
 PI.imp (d0r (G.gl hg) (G.blt "zip" (by decide)) (a0j ha (a0j hb a1s (a0c hs2)) (a0c hs)) (by rw [a0c hs,a0c hs2]; rfl) (a0c hs2)) fun σ H R ⟨c,L,S,Q0,I,h,k⟩ =>
 ⟨c,L,S,_,I,h,fun v L1 hv x S1 H1 r1 I1 s1=>⟨c,L1,S1,_,I1,hv,fun w L2 hw y S2 H2 r2 I2 s2=>by
  obtain ⟨ps,e,hw⟩:=wpx hw
  obtain ⟨qs,e',q⟩:=wpx hw
  obtain ⟨l,rfl,st⟩:=(r1.mono s2).stays e
  obtain ⟨l',rfl,st'⟩:=r2.stays e'
  obtain ⟨vs,h1,_⟩:=st S2 H2 (Same.refl _) I2.sub
  obtain ⟨ws,h2,_⟩:=st' S2 H2 (Same.refl _) I2.sub
  exact ⟨_,_,l,l',rfl,⟨vs,h1⟩,⟨ws,h2⟩,k _ L2 q _ c S2 H2 I2 (fun _ _ _ _ I=>I) rfl (b9f (fun L σ S H I s=>st S H s I.sub) fun L σ S H I s=>st' S H s I.sub) (s1.trans s2)⟩⟩⟩
theorem d7z (G:Good X C n sp) (hg:C.gl (Γe "enumerate")=true) (hs:a0g a=false) (ha:FE X C a ea):FI X C C.md (.Tuple elts kk tp) (.Call (.Name (Γe "enumerate") p) [a] [] pos) (b5v ea) :=
 PI.imp (d6h (G.gl hg) (G.blt "enumerate" (by decide)) (a0j ha a1s (a0c hs)) (a0c hs)) fun σ H R ⟨c,L,S,Q0,I,h,k⟩ =>
 ⟨c,L,S,_,I,h,fun v L1 hv x S1 H1 r1 I1 s1=>by
  obtain ⟨ps,e,q⟩:=wpx hv
  obtain ⟨l,rfl,st⟩:=r1.stays e
  obtain ⟨vs,h1,_⟩:=st S1 H1 (Same.refl _) I1.sub
  exact ⟨_,l,rfl,⟨vs,h1⟩,k _ L1 q _ c S1 H1 I1 (fun _ _ _ _ I=>I) rfl (c7x fun L σ S H I s=>st S H s I.sub) s1⟩⟩
end
noncomputable def gTs:List Nat→TGs
 | []=>d7h
 | i :: is=>c3h (a4v i) (gTs is)
noncomputable def gT (K:Γd):Tg→TG
 | .nm i=>a4v i
 | .tp is=>d4a K is.length (gTs is)
 | .tn i is=>d4a K 2 (c3h (a4v i) (c3h (d4a K is.length (gTs is)) d7h))
noncomputable def a3u (md:Md):Tg→Bool
 | .nm i=>decide (a0m md i=.imm)
 | .tp is=>is.all fun i=>decide (a0m md i=.imm)
 | .tn i is=>decide (a0m md i=.imm) && is.all fun i=>decide (a0m md i=.imm)
noncomputable def a8z (n:Nat):Tg→Bool
 | .nm i=>decide (n≤i)
 | .tp is=>is.all fun i=>decide (n≤i)
 | .tn i is=>decide (n≤i) && is.all fun i=>decide (n≤i)
noncomputable def FG (X:Cx) (t:Expr) (tg:Tg):Prop:=PG X.nox t (gT X.K tg)
section
variable {K:Γd} {c:Cn} {md:Md} {L:a0d} {σ:L2.St} {S H:Hp}
theorem a9e:∀ {is:List Nat} {ps:List FV} {vs:List V} {L L':a0d} {σ:L2.St},(is.all fun i=>decide (a0m md i=.imm))=true→Iv K c md L σ S H→RVs K S ps vs→a9f L is ps=some L' →
  ∃ σ',(∀ Q:L2.St→Hp→Prop,Q σ' H→gTs is vs σ H Q)∧Iv K c md L' σ' S H∧σ'.length=σ.length∧is.length=vs.length∧∀ n,(is.all fun i=>decide (n≤i))=true→∀ j,j < n→σ'[j]?=σ[j]?
 | [],[],vs,L,L',σ,_,I,r,e=>by cases (show vs=[] from r); cases e; exact ⟨σ,fun Q q=>⟨rfl,q⟩,I,rfl,rfl,fun _ _ _ _=>rfl⟩
 | i :: is,p :: ps,vs,L,L',σ,hm,I,r,e=>by
  obtain ⟨v,q,rfl,h1,h2⟩:=r
  have hm:=b2 (show (decide (a0m md i=.imm) && is.all fun i=>decide (a0m md i=.imm))=true from hm)
  obtain ⟨σ',g,I',l1,l2,far⟩:=a9e (is:=is) (ps:=ps) (vs:=q) hm.2 (I.setI (de hm.1) h1) h2 e
  refine ⟨σ',fun Q q'=>⟨v,q,rfl,g Q q'⟩,I',by rw [l1,List.length_set],by rw [List.length_cons,List.length_cons,l2],fun n hn j hj=>?_⟩
  have hn:=b2 (show (decide (n≤i) && is.all fun i=>decide (n≤i))=true from hn)
  have:=de hn.1
  rw [far n hn.2 j hj,List.getElem?_set_ne (by lia)]
 | [],p :: ps,_,_,_,_,_,_,_,e=>by cases e
 | i :: is,[],_,_,_,_,_,_,_,e=>by cases e
theorem a8o {tg:Tg} {v:FV} {x:V} {Q:a0d→Prop} (hm:a3u md tg=true) (I:Iv K c md L σ S H) (r:RV K S v x) (h:gW tg v L Q) :
  ∃ σ' L',(∀ Q':L2.St→Hp→Prop,Q' σ' H→gT K tg x σ H Q')∧Q L'∧Iv K c md L' σ' S H∧σ'.length=σ.length∧∀ n,a8z n tg=true→∀ j,j < n→σ'[j]?=σ[j]?:=by
 cases tg with
 | nm i =>
  refine ⟨σ.set i (some x),L.set i (some v),fun Q q=>q,h,I.setI (de hm) r,List.length_set ..,fun n hn j hj=>?_⟩
  have:n≤i:=de hn
  exact List.getElem?_set_ne (by lia)
 | tp is =>
  obtain ⟨ps,e,h⟩:=wpx h
  obtain ⟨L',e1,q⟩:=wpx h
  cases a1u e
  obtain ⟨a,vs,rfl,h1,h2⟩:=r
  obtain ⟨σ',g,I',l1,l2,far⟩:=a9e hm I h2 e1
  exact ⟨σ',L',fun Q q=>⟨a,vs,rfl,SqT.of (I.sub _ _ h1),l2.symm,g Q q⟩,q,I',l1,far⟩
 | tn i is =>
  have hm:=b2 hm
  obtain ⟨ps,e,h⟩:=wpx h
  obtain ⟨p,e1,h⟩:=wpx h
  obtain ⟨qs,e2,h⟩:=wpx h
  obtain ⟨L',e3,q⟩:=wpx h
  cases a1u e
  obtain ⟨p1,p2⟩:=p
  obtain rfl:ps=[p1,p2]:=by
   rcases ps with _ | ⟨a,_ | ⟨b,_ | ⟨c,r⟩⟩⟩ <;> first | (cases e1; done) | (cases e1; rfl)
  obtain ⟨a,vs,rfl,h1,h2⟩:=r
  obtain ⟨u,w,rfl,r1,r2⟩:=h2.two_of
  cases a1u e2
  obtain ⟨b,ws,rfl,h3,h4⟩:=r2
  obtain ⟨σ',g,I',l1,l2,far⟩:=a9e hm.2 (I.setI (de hm.1) r1) h4 e3
  refine ⟨σ',L',fun Q q=>⟨a,_,rfl,SqT.of (I.sub _ _ h1),rfl,_,_,rfl,_,_,rfl,b,ws,rfl,SqT.of (I.sub _ _ h3),l2.symm,g _ ⟨rfl,q⟩⟩,q,I',by rw [l1,List.length_set],fun n hn j hj=>?_⟩
  have hn:=b2 hn
  have:=de hn.1
  rw [far n hn.2 j hj,List.getElem?_set_ne (by lia)]
theorem Iv.regrow {a:Addr} {o o':HO} (I:Iv K { c with pr:=(a,o) :: c.pr } md L σ S H) (h0:c.H0 a=none) (hp:∀ p∈c.pr,p.1≠a) (hz:∀ p∈c.fz,∃ o,(p.2,o)∈c.pr) (nt:a9z o'=false:=by first | rfl | exact a6u _ _):Iv K { c with pr:=(a,o') :: c.pr } md L σ S (upd H a o'):=by
 obtain ⟨_,sa,na⟩:=I.prs (a,o) Γn
 have oa:∀ j w b,a0m md j≠.imm→L[j]?=some (some w)→σ[j]?=some (some (.ref b))→b≠a:=fun j w b hm hj hs z=>by
  subst z
  by_cases m:a0m md j=.own
  ·exact na j w m hj hs
  ·have m:a0m md j=.frz:=by cases q:a0m md j with | imm=>exact absurd q hm | own=>exact absurd q m | frz=>rfl
   obtain ⟨b',g1⟩:=I.fzm j w m hj
   obtain ⟨_,g2,_⟩:=I.fzs _ g1
   rw [hs] at g2; cases g2
   obtain ⟨xs,g3⟩:=hz _ g1
   exact hp _ g3 rfl
 refine ⟨I.len,I.imm,fun j w hm hj=>?_,I.dis,fun b u e=>?_,fun b u e n=>?_,I.s0,I.grow,I.lent,I.fzs,I.fzm,fun p hpz=>let ⟨xs,g⟩:=hz p hpz; ⟨xs,Γh _ g⟩,fun p hpr=>?_,fun p hpr=>(List.mem_cons.mp hpr).elim (fun z=>by rw [z]; exact nt) fun z=>I.ntp p (Γh _ z)⟩
 ·obtain ⟨b,e1,⟨g1,ps,xs,g2,g3,g4⟩,g5⟩:=I.own j w hm hj
  exact ⟨b,e1,⟨g1,ps,xs,g2,by rw [a0e (oa j w b hm hj e1)]; exact g3,g4⟩,g5⟩
 ·rw [a0e fun z=>by subst z; rw [sa] at e; cases e]; exact I.sub b u e
 ·rw [a0e fun z=>by subst z; rw [h0] at e; cases e]; exact I.frame b u e n
 ·rcases List.mem_cons.mp hpr with rfl | hpr
  ·exact ⟨a0f,sa,na⟩
  ·obtain ⟨g1,g2,g3⟩:=I.prs p (Γh _ hpr)
   exact ⟨by rw [a0e (hp p hpr)]; exact g1,g2,g3⟩
theorem Iv.unprot {a:Addr} {o:HO} (I:Iv K { c with pr:=(a,o) :: c.pr } md L σ S H) (hz:∀ p∈c.fz,∃ o,(p.2,o)∈c.pr):Iv K c md L σ S H :=
 ⟨I.len,I.imm,I.own,I.dis,I.sub,I.frame,I.s0,I.grow,I.lent,I.fzs,I.fzm,hz,fun p hp=>I.prs p (Γh _ hp),fun p hp=>I.ntp p (Γh _ hp)⟩
theorem c4y:∀ {md:Md} {i:Nat},md.length≤i→a0m md i=.imm
 | [],i,_=>rfl
 | a :: md,0,h=>absurd h (by simp)
 | a :: md,i + 1,h=>c4y (md:=md) (i:=i) (by simpa using h)
theorem Iv.more (I:Iv K c md L σ S H) (m:Nat):Iv K c md (L++Γj m none) (σ++Γj m none) S H:=by
 have look:∀ j w,(L++Γj m none)[j]?=some (some w)→L[j]?=some (some w)∧(σ++Γj m none)[j]?=σ[j]?:=fun j w z=>by
  by_cases h:j < L.length
  ·rw [List.getElem?_append_left h] at z
   exact ⟨z,List.getElem?_append_left (by rw [← I.len]; exact h)⟩
  ·rw [List.getElem?_append_right (by lia),List.getElem?_replicate] at z
   split at z <;> cases z
 have up:∀ j w,L[j]?=some (some w)→(L++Γj m none)[j]?=some (some w)∧(σ++Γj m none)[j]?=σ[j]?:=fun j w z=>by
  have h:=(List.getElem?_eq_some_iff.mp z).1
  exact ⟨by rw [List.getElem?_append_left h]; exact z,List.getElem?_append_left (by rw [← I.len]; exact h)⟩
 refine ⟨by simp [I.len],fun j w hm z=>?_,fun j w hm z=>?_,fun j k w u b m1 m2 z1 z2 y1 y2=>?_,I.sub,I.frame,I.s0,I.grow,fun b hb=>?_,fun p hp=>?_,fun j w hm z=>I.fzm j w hm (look j w z).1,I.fzp,fun p hp=>?_,I.ntp⟩
 ·obtain ⟨z,y⟩:=look j w z; rw [y]; exact I.imm j w hm z
 ·obtain ⟨z,y⟩:=look j w z; rw [y]; exact I.own j w hm z
 ·obtain ⟨z1,q1⟩:=look j w z1
  obtain ⟨z2,q2⟩:=look k u z2
  rw [q1] at y1; rw [q2] at y2
  exact I.dis j k w u b m1 m2 z1 z2 y1 y2
 ·obtain ⟨g1,g2,w,g3⟩:=I.lent b hb
  obtain ⟨f1,f2⟩:=up 0 w g3
  exact ⟨g1,by rw [f2]; exact g2,w,f1⟩
 ·obtain ⟨g1,g2,w,g3⟩:=I.fzs p hp
  obtain ⟨f1,f2⟩:=up p.1 w g3
  exact ⟨g1,by rw [f2]; exact g2,w,f1⟩
 ·obtain ⟨g1,g2,g3⟩:=I.prs p hp
  refine ⟨g1,g2,fun j w hm z=>?_⟩
  obtain ⟨z,y⟩:=look j w z
  rw [y]; exact g3 j w hm z
theorem Iv.take {n:Nat} {σ2:L2.St} (I:Iv K c md L σ2 S H) (hmd:md.length≤n) (hs:σ.length=n) (hl:n≤σ2.length) (e:∀ j,j < n→σ2[j]?=σ[j]?):Iv K c md (L.take n) σ S H:=by
 have look:∀ j w,(L.take n)[j]?=some (some w)→L[j]?=some (some w)∧σ[j]?=σ2[j]?:=fun j w z=>by
  have h:=(List.getElem?_eq_some_iff.mp z).1
  rw [List.length_take] at h
  rw [List.getElem?_take_of_lt (by lia)] at z
  exact ⟨z,(e j (by lia)).symm⟩
 have up:∀ j w,a0m md j≠.imm→L[j]?=some (some w)→(L.take n)[j]?=some (some w)∧σ[j]?=σ2[j]?:=fun j w hm z=>by
  have h:j < n:=by
   by_cases h:j < n
   ·exact h
   ·exact absurd (c4y (by lia)) hm
  exact ⟨by rw [List.getElem?_take_of_lt h]; exact z,(e j h).symm⟩
 refine ⟨by rw [List.length_take,I.len,hs]; lia,fun j w hm z=>?_,fun j w hm z=>?_,fun j k w u b m1 m2 z1 z2 y1 y2=>?_,I.sub,I.frame,I.s0,I.grow,fun b hb=>?_,fun p hp=>?_,fun j w hm z=>I.fzm j w hm (look j w z).1,I.fzp,fun p hp=>?_,I.ntp⟩
 ·obtain ⟨z,y⟩:=look j w z; rw [y]; exact I.imm j w hm z
 ·obtain ⟨z,y⟩:=look j w z; rw [y]; exact I.own j w hm z
 ·obtain ⟨z1,q1⟩:=look j w z1
  obtain ⟨z2,q2⟩:=look k u z2
  rw [q1] at y1; rw [q2] at y2
  exact I.dis j k w u b m1 m2 z1 z2 y1 y2
 ·obtain ⟨g1,g2,w,g3⟩:=I.lent b hb
  obtain ⟨f1,f2⟩:=up 0 w g1 g3
  exact ⟨g1,by rw [f2]; exact g2,w,f1⟩
 ·obtain ⟨g1,g2,w,g3⟩:=I.fzs p hp
  obtain ⟨f1,f2⟩:=up p.1 w (fun z=>by rw [g1] at z; cases z) g3
  exact ⟨g1,by rw [f2]; exact g2,w,f1⟩
 ·obtain ⟨g1,g2,g3⟩:=I.prs p hp
  refine ⟨g1,g2,fun j w hm z=>?_⟩
  obtain ⟨z,y⟩:=look j w z
  rw [y]; exact g3 j w hm z
theorem c3s {J:It} {xs:List FV} {n m:Nat} {tg:Tg} {t:BW} {e:EW} {Q:VK} {Q1:List FV→a0d→Prop} (I:Iv K c md L σ S H) (hJ:ItR K c md J xs S) (hL:L.length=n) (hmd:md.length≤n) (ht:a3u md tg=true) (hg:a8z n tg=true) (hb:xs.length≤big) (h:a5s n m tg t e xs [] L Q1)
  (k:∀ acc ps L' S' H',H acc=none→Q1 ps L'→a4f K S' H' acc (.lst ps)→b0j c md L' σ acc→Iv K c md L' σ S' H'→Same S S'→Q (.ref acc) H') :
  ∀ acc,H acc=none→∃ W:Nat→Nat→Hp→Prop,(∃ m,W 0 m (upd H acc (.lst [])))∧∀ i j H,W i j H →
   (J.stop i H∧Q (.ref acc) H) ∨ (J.go i H∧∀ x H',J.yld i H x H'→gT K tg x (σ++Γj m none) H' fun σ2 H2=>Wk (σ++Γj m none) σ2∧lb K md t σ2 H2 fun b H3 =>
    if b=true then lv K md e σ2 H3 fun v H4=>∃ ys,H4 acc=some (.lst ys)∧ys.length < sizeLine∧∃ m',m' < j∧W (i + 1) m' (upd H4 acc (.lst (ys++[v]))) else ∃ m',m' < j∧W (i + 1) m' H3):=by
 intro acc hacc
 have h0:=I.h0 hacc
 have hp:∀ p∈c.pr,p.1≠acc:=(I.fresh hacc).2.1
 have hz:=I.fzp
 have hl:σ.length=n:=by rw [← I.len]; exact hL
 have hbl:=a1i
 let W:Nat→Nat→Hp→Prop:=fun i j H1=>∃ L S1 ps us,j=(xs.drop i).length∧Iv K { c with pr:=(acc,.lst us) :: c.pr } md L σ S1 H1∧RVs K S1 ps us∧Same S S1∧L.length=n∧ps.length≤i∧a5s n m tg t e (xs.drop i) ps L Q1
 have I1:Iv K { c with pr:=(acc,.lst []) :: c.pr } md L σ S (upd H acc (.lst [])):=(I.lay hacc _).prot a0f (I.sn hacc) fun j w hm hj=>(I.fresh hacc).2.2 j w (fun z=>by rw [hm] at z; cases z) hj
 refine ⟨W,⟨_,L,S,[],[],rfl,I1,rfl,Same.refl S,hL,Γi _,by rw [List.drop_zero]; exact h⟩,?_⟩
 rintro i j H1 ⟨L,S1,ps,us,rfl,I,r,s,hL,hps,hc⟩
 have I0:=I.unprot hz
 obtain ⟨j1,j2⟩:=hJ i L σ S1 H1 I0 s
 obtain ⟨g1,g2,g3⟩:=I.prs (acc,.lst us) Γn
 cases hd:xs.drop i with
 | nil =>
  left
  rw [hd] at hc
  refine ⟨j1 (List.getElem?_eq_none_iff.mpr (List.drop_eq_nil_iff.mp hd)),k acc ps L S1 H1 hacc hc ⟨g2,ps,us,rfl,g1,r⟩ ⟨h0,hp,fun q w hm hq hs=>?_⟩ I0 s⟩
  by_cases mo:a0m md q=.own
  ·exact g3 q w mo hq hs
  ·have mo:a0m md q=.frz:=by cases z:a0m md q with | imm=>exact absurd z hm | own=>exact absurd z mo | frz=>rfl
   obtain ⟨b,f1⟩:=I0.fzm q w mo hq
   obtain ⟨_,f2,_⟩:=I0.fzs _ f1
   rw [hs] at f2; cases f2
   obtain ⟨ys,f3⟩:=hz _ f1
   exact hp _ f3 rfl
 | cons p rest =>
  right
  rw [hd] at hc
  have hi:xs[i]?=some p:=by
   have:=congrArg (·[0]?) hd
   simpa using this
  have hd':xs.drop (i + 1)=rest:=by
   have:=congrArg List.tail hd
   simpa [List.tail_drop] using this
  have hix:i < xs.length:=(List.getElem?_eq_some_iff.mp hi).1
  obtain ⟨go,yl⟩:=j2 p hi
  refine ⟨go,fun x H2 y=>?_⟩
  obtain ⟨S2,s2,tr,rx⟩:=yl x H2 y
  have I2:=(tr _ _ _ _ I).more m
  obtain ⟨σ2,L2,gq,q2,I2,len2,far⟩:=a8o ht I2 rx hc
  have l2:n≤σ2.length:=by rw [len2,List.length_append,hl]; lia
  have far':∀ q,q < n→σ2[q]?=σ[q]?:=fun q hq=>by rw [far n hg q hq,List.getElem?_append_left (by rw [hl]; exact hq)]
  refine gq _ ⟨⟨len2,fun q v hv=>?_⟩,?_⟩
  ·have hq:q < n:=by
    by_cases h:q < σ.length
    ·rw [← hl]; exact h
    ·rw [List.getElem?_append_right (by lia),List.getElem?_replicate] at hv
     split at hv <;> cases hv
   rw [far n hg q hq]; exact hv
  ·refine ⟨_,L2,S2,_,I2,q2,fun b L3 hb3 S3 H3 I3 s3=>?_⟩
   cases b with
   | false =>
    rw [if_neg Γk] at hb3 ⊢
    exact ⟨rest.length,by simp,L3.take n,S3,ps,us,by rw [hd'],I3.take hmd hl l2 far',r.mono (s2.trans s3),s.trans (s2.trans s3),by rw [List.length_take,I3.len]; lia,by lia,by rw [hd']; exact hb3⟩
   | true =>
    rw [if_pos rfl] at hb3 ⊢
    refine ⟨_,L3,S3,_,I3,hb3,fun v L4 hv u S4 H4 r4 I4 s4=>?_⟩
    obtain ⟨k1,_⟩:=I4.prs (acc,.lst us) Γn
    have lr:=r.length
    exact ⟨us,k1,by lia,rest.length,by simp,L4.take n,S4,ps++[v],us++[u],by rw [hd'],(I4.take hmd hl l2 far').regrow h0 hp hz,(r.mono (s2.trans (s3.trans s4))).append (RVs.one r4),s.trans (s2.trans (s3.trans s4)),by rw [List.length_take,I4.len]; lia,by simp; lia,by rw [hd']; exact hv⟩
end
noncomputable def b9i:Expr→Bool
 | .Set ..=>true
 | _=>false
theorem b1n {x:Expr} {env:Env} (h:b9i x=false):∀ v,foldedSetIterable x env v=pure v:=by
 intro v
 cases x <;> first | rfl | (cases h; done)
noncomputable def CC.tn (C:CC) (i:Nat) (x:Str):Bool:=decide (C.N[i]?=some x) && C.loc x
noncomputable def d5t (outer:List (Str×NameKind)) (names:List (Str×NameKind)):List (Str×NameKind) :=
 names.map fun (n,k)=>if (k == NameKind.free && outer.lookup n == some .cell) then (n,NameKind.cell) else (n,k)
noncomputable def CC.sub (C:CC) (scope:Scope) (own:List Str) (md:Md):CC:=⟨C.N.map (a9q own)++own,d5t C.sc scope.names,C.fns,md,false,scope.names⟩
noncomputable def CC.scOk (C:CC) (scope:Scope) (own:List Str):Bool :=
 decide (scope.kind=.function) && scope.names.all (fun p=>decide (p.2=.cell→scope.names.lookup p.1=some .cell)) && scope.names.all (fun p=>decide (p.2=.local→scope.names.lookup p.1=some .local)) &&
 scope.names.all (fun p=>decide (p.2=.free→(C.sc.lookup p.1=some .cell ∨ C.sc.lookup p.1=some .free))) && C.N.all (fun x=>if own.contains x then decide (scope.names.lookup (d3z x)=none) else decide (scope.names.lookup x≠some .local∧scope.names.lookup x≠some .cell)) && decide ((C.N.map (a9q own)++own).Nodup)
noncomputable def d1p:Md→Md→Bool
 | [],_=>true
 | a :: md,[]=>decide (a=.imm) && d1p md []
 | a :: md,b :: md'=>(decide (a=.imm) || !decide (b=.imm)) && d1p md md'
theorem a6w:∀ {md md':Md},d1p md md'=true→∀ j,a0m md j≠.imm→a0m md' j≠.imm
 | [],_,_,j,h=>absurd rfl h
 | a :: md,[],h,0,h0=>absurd (de (b2 h).1) h0
 | a :: md,[],h,j + 1,h0=>a6w (md:=md) (md':=[]) (b2 h).2 j h0
 | a :: md,b :: md',h,0,h0=>fun z=>by
  have h:=(b2 h).1
  have h0:a≠.imm:=h0
  have z:b=.imm:=z
  simp [h0,z] at h
 | a :: md,b :: md',h,j + 1,h0=>a6w (md:=md) (md':=md') (b2 h).2 j h0
noncomputable def FGs (X:Cx) (es:List Expr) (is:List Nat):Prop:=PGs X.nox es (gTs is)∧(assignEach es X.env).length=is.length∧(assignEach es X.env).findIdx? (·.1)=none
noncomputable def FTs (X:Cx) (C:CC) (xs:List Expr) (t:BW):Prop:=PTs X.nox xs (lb X.K C.md t)
section
variable {X:Cx} {C:CC} {n:Nat} {sp:Γd→Nat→Sp} {a b x:Expr} {xs:List Expr} {pos p:Pos} {i k:Nat} {nx:Str} {is:List Nat} {t u:BW}
theorem Good.ix (G:Good X C n sp) {y:Str} (h:decide (C.N[i]?=some y)=true):X.N[i]?=some y:=by rw [G.N]; exact de h
theorem Good.nd' (G:Good X C n sp):X.N.Nodup:=by rw [G.N]; exact G.nd
theorem d8b (G:Good X C n sp) (h:C.tn i nx=true):FG X (.Name nx p) (.nm i):=by
 have h:=b2 h
 obtain ⟨l1,l2⟩:=G.loc h.2
 exact c6w (X:=X.nox) G.nd' (G.ix h.1) l1 l2
theorem d8a:FGs X [] []:=⟨c6v,rfl,rfl⟩
theorem d4b (G:Good X C n sp) (h:C.tn i nx=true) (r:FGs X xs is):FGs X (.Name nx p :: xs) (i :: is):=by
 obtain ⟨h1,h2,h3⟩:=r
 refine ⟨c2m (d8b G h) h1 rfl,?_,?_⟩
 ·show (assignEach xs X.env).length + 1=is.length + 1
  rw [h2]
 ·show ((false,assign (.Name nx p) X.env) :: assignEach xs X.env).findIdx? (·.1)=none
  rw [List.findIdx?_cons]
  simp [h3]
theorem d2k (G:Good X C n sp) (r:FGs X xs is):FG X (.Tuple xs k p) (.tp is):=d0s (X:=X.nox) G.calm r.1 r.2.1 r.2.2
theorem PTs.imp {e:List Expr} {t u:TT} (h:PTs X e t) (f:∀ σ H Q,u σ H Q→t σ H Q):PTs X e u:=fun pins s σ H Q I hu=>h pins s σ H Q I (f σ H Q hu)
theorem d7k:FTs X C [] a2b:=PTs.imp b7s fun σ H Q ⟨c,L,S,Q0,I,h,k⟩=>k true L h S H I (Same.refl S)
theorem d7j (h1:FB X C a t):FTs X C [a] t:=PTs.imp (c2f h1 (b7s (X:=X.nox))) fun σ H Q ⟨c,L,S,Q0,I,h,k⟩ =>
 ⟨c,L,S,_,I,h,fun r L1 q S1 H1 I1 s1=>by
  cases r with
  | true=>rw [if_pos rfl]; exact k true L1 q S1 H1 I1 s1
  | false=>rw [if_neg Γk]; exact k false L1 q S1 H1 I1 s1⟩
theorem Good.sub (G:Good X C n sp) {scope:Scope} {own:List Str} (h:C.scOk scope own=true) (md:Md):CScope X scope own∧∀ fp D s H,Good (cxC X scope own fp D s H) (C.sub scope own md) n sp:=by
 simp only [CC.scOk,Bool.and_eq_true,decide_eq_true_eq,List.all_eq_true] at h
 obtain ⟨⟨⟨⟨⟨h1,h2⟩,h3⟩,h4⟩,h5⟩,h6⟩:=h
 refine ⟨⟨h1,fun p hp=>by simpa using h2 p hp,fun p hp=>by simpa using h3 p hp,fun p hp hk=>?_,fun x hx hw=>?_,fun x hx hw=>?_⟩,fun fp D s H=>⟨?_,?_,h1,h6,G.calm,(fun x z=>z),G.room,G.fns,G.blt⟩⟩
 ·have:=h4 p hp
  show X.env.scope.names.lookup p.1=_ ∨ X.env.scope.names.lookup p.1=_
  rw [G.sc]; exact this hk
 ·have:=h5 x (by rw [← G.N]; exact hx)
  rw [if_neg (by rw [hw]; exact Γk)] at this
  exact de this
 ·have:=h5 x (by rw [← G.N]; exact hx)
  rw [if_pos hw] at this
  exact de this
 ·show X.N.map (a9q own)++own=C.N.map (a9q own)++own
  rw [G.N]
 ·show (relabel scope X.env).names=d5t C.sc scope.names
  unfold relabel d5t
  simp only
  refine List.map_congr_left fun p hp=>?_
  obtain ⟨nm,kd⟩:=p
  show (if (kd == NameKind.free && X.env.scope.kind == .function && X.env.scope.names.lookup nm == some .cell)=true then (nm,NameKind.cell) else (nm,kd))=_
  rw [G.kind,G.sc]
  simp
variable {scope:Scope} {own:List Str} {elt tgx iter:Expr} {ifs:List Expr} {it:AW} {tg:Tg} {e:EW} {nn m:Nat} {md':Md}
structure CompOk (X:Cx) (C:CC) (n:Nat) (sp:Γd→Nat→Sp) (scope:Scope) (own:List Str) (elt tgx iter:Expr) (ifs:List Expr) (nn m:Nat) (md':Md) (it:AW) (tg:Tg) (t:BW) (e:EW):Prop where
 st:(C.scOk scope own && decide (C.N.length=nn) && decide (own.length=m) && decide (md'.length≤nn) && d1p C.md md' && a3u md' tg && a8z nn tg && !b9i iter)=true
 it:FI X C md' tgx iter it
 tg:∀ X',Good X' (C.sub scope own md') n sp→FG X' tgx tg
 ts:∀ X',Good X' (C.sub scope own md') n sp→FTs X' (C.sub scope own md') ifs t
 el:∀ X',Good X' (C.sub scope own md') n sp→FE X' (C.sub scope own md') elt e
theorem CompOk.run (G:Good X C n sp) (h:CompOk X C n sp scope own elt tgx iter ifs nn m md' it tg t e) {σ:L2.St} {H:Hp} {Q:VK} (hq:lf X.K C.md (a1z nn m it tg t e) σ H Q):c5w (li X.K C.md md' it) (gT X.K tg) (lb X.K md' t) (lv X.K md' e) own.length σ H Q:=by
 have h0:=b2 h.st; have h1:=b2 h0.1; have h2:=b2 h1.1; have h3:=b2 h2.1; have h4:=b2 h3.1; have h5:=b2 h4.1; have h6:=b2 h5.1
 obtain ⟨c,L,S,Q0,I,hh,k⟩:=hq
 refine ⟨c,L,S,_,I,hh,fun xs L1 hx J c' S1 H1 I1 un e0 hJ s1=>?_⟩
 obtain ⟨hl,hb,hc⟩:=hx
 rw [de h5.2]
 refine c3s I1 hJ hl (de h4.2) h2.2 h1.2 hb hc fun acc ps L' S' H' hn q o fr I' s'=>k _ L' q acc S' H' o ⟨by rw [← e0]; exact fr.1,((un _ _ _ _ I1).fresh hn).2.1,fun j w hm=>fr.2.2 j w (a6w h3.2 j hm)⟩ (un _ _ _ _ I') (s1.trans s')
theorem CompOk.blk (G:Good X C n sp) (h:CompOk X C n sp scope own elt tgx iter ifs nn m md' it tg t e):CScope X scope own∧(∀ fp D s H,PG (cxC X scope own fp D s H) tgx (gT X.K tg)∧PTs (cxC X scope own fp D s H) ifs (lb X.K md' t)∧PE (cxC X scope own fp D s H) elt (lv X.K md' e))∧∀ v,foldedSetIterable iter X.env v=pure v:=by
 have h0:=b2 h.st; have h1:=b2 h0.1; have h2:=b2 h1.1; have h3:=b2 h2.1; have h4:=b2 h3.1; have h5:=b2 h4.1; have h6:=b2 h5.1
 obtain ⟨s1,s2⟩:=G.sub h6.1 md'
 exact ⟨s1,fun fp D s H=>⟨h.tg _ (s2 fp D s H),h.ts _ (s2 fp D s H),h.el _ (s2 fp D s H)⟩,b1n (nb h0.2)⟩
theorem a0x (G:Good X C n sp) (h:CompOk X C n sp scope own elt tgx iter ifs nn m md' it tg t e):FF X C (.ListComp elt [⟨tgx,iter,ifs,0⟩] scope pos) (a1z nn m it tg t e):=by
 obtain ⟨s1,s2,s3⟩:=h.blk G
 exact PE.imp (b8a G.calm s1 h.it s2 s3) fun σ H Q q=>h.run G q
end
noncomputable def e1f (K:Γd) (c:Cn) (S H:Hp) (v:FV) (x:V):Bool→Prop
 | false=>RV K S v x
 | true=>∃ a,x=.ref a∧a4f K S H a v∧c.H0 a=none
noncomputable def EndQ (K:Γd) (c:Cn) (fr:Bool) (D:Ends) (σ:L2.St) (S H:Hp):FFl→Prop
 | .next=>D.nx σ H
 | .brk=>D.bk σ H
 | .cont=>D.ct σ H
 | .ret v=>∀ x,e1f K c S H v x fr→D.rt x H
noncomputable def ls (K:Γd) (md:Md) (fr:Bool) (s:SW):TS:=fun D σ H=>∃ c L S Q0,Iv K c md L σ S H∧s L Q0∧∀ fl L',Q0 fl L'→∀ σ' S' H',Iv K c md L' σ' S' H'→Same S S'→EndQ K c fr D σ' S' H' fl
noncomputable def FS (X:Cx) (C:CC) (fr:Bool) (x:Stmt) (s:SW):Prop:=PS X.nox x (ls X.K C.md fr s)
noncomputable def FSs (X:Cx) (C:CC) (fr:Bool) (x:List Stmt) (s:SW):Prop:=PSs X.nox x (ls X.K C.md fr s)
noncomputable def CC.wmd (C:CC) (md:Md):CC:=⟨C.N,C.sc,C.fns,md,C.top,C.oc⟩
section
variable {X:Cx} {C:CC} {n:Nat} {sp:Γd→Nat→Sp} {fr:Bool} {a b x y:Expr} {e ea eb:EW} {pos p px py:Pos} {i j k:Nat} {nx ny:Str} {is:List Nat} {st:Stmt} {sts:List Stmt} {s r:SW}
variable {K:Γd} {c:Cn} {md:Md} {L:a0d} {σ:L2.St} {S H:Hp}
theorem Good.wmd (G:Good X C n sp) (md:Md):Good X (C.wmd md) n sp:=⟨G.N,G.sc,G.kind,G.nd,G.calm,G.fn,G.room,G.fns,G.blt⟩
theorem PS.imp {e:Stmt} {t u:TS} (h:PS X e t) (f:∀ D σ H,u D σ H→t D σ H):PS X e u:=fun pins s σ H D I hu=>h pins s σ H D I (f D σ H hu)
theorem PSs.imp {e:List Stmt} {t u:TS} (h:PSs X e t) (f:∀ D σ H,u D σ H→t D σ H):PSs X e u:=fun pins s σ H D I hu=>h pins s σ H D I (f D σ H hu)
theorem fs_nil:FSs X C fr [] a9i:=PSs.imp c6o fun D σ H ⟨c,L,S,Q0,I,h,k⟩=>k .next L h σ S H I (Same.refl S)
theorem b1o (h:FS X C fr st s):FSs X C fr [st] s:=c6n h
theorem a0p (h:FS X C fr st s) (h2:FSs X C fr sts r):FSs X C fr (st :: sts) (a0u s r):=PSs.imp (c2h h h2) fun D σ H ⟨c,L,S,Q0,I,h,k⟩ =>
 ⟨c,L,S,_,I,h,fun fl L1 q σ1 S1 H1 I1 s1=>by
  cases fl with
  | next=>exact ⟨c,L1,S1,_,I1,q,fun fl L2 q σ2 S2 H2 I2 s2=>k fl L2 q σ2 S2 H2 I2 (s1.trans s2)⟩
  | brk=>exact k _ L1 q σ1 S1 H1 I1 s1
  | cont=>exact k _ L1 q σ1 S1 H1 I1 s1
  | ret v=>exact k _ L1 q σ1 S1 H1 I1 s1⟩
noncomputable def a8l:Expr→Bool
 | .ListComp ..=>true
 | .SetComp ..=>true
 | .DictComp ..=>true
 | _=>false
theorem a4i {e:Expr} {t:Option Expr} {n:Nat} {env:Env} (h:a8l e=false):swapsWith e t n env=pure false:=by
 cases e <;> first | rfl | (cases h; done)
theorem d7p (hc:a8l a=false) (h:FE X C a e):FS X C fr (.Expr a pos) (c4l e):=PS.imp (c6p h (a4i hc)) fun D σ H ⟨c,L,S,Q0,I,h,k⟩ =>
 ⟨c,L,S,_,I,h,fun v L1 q x S1 H1 r I1 s1=>k .next L1 q σ S1 H1 I1 s1⟩
theorem fs_ret (h:FE X C a e):FS X C false (.Return (some a) pos) (a2n e):=PS.imp (b7u h) fun D σ H ⟨c,L,S,Q0,I,h,k⟩ =>
 ⟨c,L,S,_,I,h,fun v L1 q x S1 H1 r I1 s1=>k (.ret v) L1 q σ S1 H1 I1 s1 x r⟩
theorem d7o (h:FF X C a e):FS X C true (.Return (some a) pos) (a2n e):=PS.imp (b7u h) fun D σ H ⟨c,L,S,Q0,I,h,k⟩ =>
 ⟨c,L,S,_,I,h,fun v L1 q l S1 H1 o fr I1 s1=>k (.ret v) L1 q σ S1 H1 I1 s1 _ ⟨l,rfl,o,fr.1⟩⟩
theorem Iv.mine (I:Iv K c md L σ S H) {v:FV} {a:Addr} (hi:i≠0) (m:a0m md i≠.imm) (e:L[i]?=some (some v)) (e1:σ[i]?=some (some (.ref a))):c.H0 a=none:=by
 obtain ⟨b,e2,_,h⟩:=I.own i v m e
 rw [e1] at e2; cases e2
 rcases h with h | h
 ·obtain ⟨g1,g2,w,g3⟩:=I.lent a h
  exact absurd (I.dis i 0 v w a m g1 e g3 e1 g2) hi
 ·exact h
theorem d7n (G:Good X C n sp) (h:C.nm i nx=true) (m:(decide (a0m C.md i=.own) && decide (i≠0))=true):FS X C true (.Return (some (.Name nx p)) pos) (a2n (a0b i)):=PS.imp (b7u (a1r G h)) fun D σ H ⟨c,L,S,Q0,I,h,k⟩=>by
 have m:=b2 m
 have mi:a0m C.md i≠.imm:=fun z=>by rw [de m.1] at z; cases z
 obtain ⟨v,e,q⟩:=wpx h
 have e:=(a2p _ _ _).mp e
 obtain ⟨l,e1,o,_⟩:=I.own i v mi e
 exact ⟨_,e1,k (.ret v) L q σ S H I (Same.refl S) _ ⟨l,rfl,o,I.mine (de m.2) mi e e1⟩⟩
theorem fs_if {t:BW} {xa xb:List Stmt} (h:FB X C a t) (ha:FSs X C fr xa s) (hb:FSs X C fr xb r):FS X C fr (.If a xa xb pos) (sIf t s r):=PS.imp (d6f h ha hb) fun D σ H ⟨c,L,S,Q0,I,h,k⟩ =>
 ⟨c,L,S,_,I,h,fun v L1 q S1 H1 I1 s1=>by
  cases v with
  | true=>rw [if_pos rfl] at q ⊢; exact ⟨c,L1,S1,_,I1,q,fun fl L2 q σ2 S2 H2 I2 s2=>k fl L2 q σ2 S2 H2 I2 (s1.trans s2)⟩
  | false=>rw [if_neg Γk] at q ⊢; exact ⟨c,L1,S1,_,I1,q,fun fl L2 q σ2 S2 H2 I2 s2=>k fl L2 q σ2 S2 H2 I2 (s1.trans s2)⟩⟩
theorem b3k {tg:Tg} {te:TE} (ht:a3u C.md tg=true) (hte:∀ σ H Q,lv X.K C.md e σ H Q→te σ H Q) (h:PS X.nox st (c1c te (gT X.K tg))):FS X C fr st (a1g e tg):=PS.imp h fun D σ H ⟨c,L,S,Q0,I,h,k⟩=>hte _ _ _
 ⟨c,L,S,_,I,h,fun v L1 q x S1 H1 r I1 s1=>by
  obtain ⟨σ',L',g,q,I2,_⟩:=a8o ht I1 r q
  exact g _ (k .next L' q σ' S1 H1 I2 s1)⟩
theorem c0y {te:TE} (m:a0m C.md i=.imm) (hte:∀ σ H Q,lf X.K C.md e σ H Q→te σ H Q) (h:PS X.nox st (c1c te (a4v i))):FS X C fr st (a1g e (.nm i)):=PS.imp h fun D σ H ⟨c,L,S,Q0,I,h,k⟩=>hte _ _ _
 ⟨c,L,S,_,I,h,fun v L1 q l S1 H1 o f I1 s1=>by
  obtain ⟨u,hu,I2,r⟩:=b8i I1 o f
  exact k .next _ q _ _ H1 (I2.setI m r) (s1.trans (a0h o.1))⟩
theorem c8v {te:TE} (m:(decide (a0m C.md i=.own) && decide (i≠0))=true) (hte:∀ σ H Q,lf X.K C.md e σ H Q→te σ H Q) (h:PS X.nox st (c1c te (a4v i))):FS X C fr st (a1g e (.nm i)):=PS.imp h fun D σ H ⟨c,L,S,Q0,I,h,k⟩=>hte _ _ _
 ⟨c,L,S,_,I,h,fun v L1 q l S1 H1 o f I1 s1=>by
  have m:=b2 m
  exact k .next _ q _ _ H1 (I1.set (fun _ _=>de m.2) (fun z=>by rw [de m.1] at z; cases z) (.inr ⟨de m.1,l,rfl,o,f.1,f.2.1,fun j w _ hm hj=>f.2.2 j w hm hj⟩)) s1⟩
theorem c2k (G:Good X C n sp) {te:TE} (ht:C.tn i nx=true) (hs:swapsWith a (some (.Name nx px)) pos.line X.env=pure false) (h:PE X.nox a te):PS X.nox (.Assign [.Name nx px] a pos) (c1c te (a4v i)):=by
 have ht:=b2 ht
 obtain ⟨l1,l2⟩:=G.loc ht.2
 exact d0n (X:=X.nox) G.nd' (G.ix ht.1) l1 h hs l2
theorem fs_set (G:Good X C n sp) (ht:C.tn i nx=true) (m:a0m C.md i=.imm) (hc:a8l a=false) (h:FE X C a e):FS X C fr (.Assign [.Name nx px] a pos) (a1g e (.nm i)) :=
 b3k (tg:=.nm i) (by simpa [a3u] using m) (fun _ _ _ z=>z) (c2k G ht (a4i hc) h)
theorem d7m (G:Good X C n sp) (ht:C.tn i nx=true) (m:(decide (a0m C.md i=.own) && decide (i≠0))=true) (hc:a8l a=false) (h:FF X C a e):FS X C fr (.Assign [.Name nx px] a pos) (a1g e (.nm i)) :=
 c8v m (fun _ _ _ z=>z) (c2k G ht (a4i hc) h)
noncomputable def swC (C:CC) (x:Str) (px:Pos) (scope:Scope) (p:Pos):Bool:=decide (C.sc.lookup x=some .local) && (px.line == p.line) && !(scope.names.any fun (n,k)=>n == x && (k == .local || k == .cell))
theorem b7b {elt:Expr} {gs:List Comprehension} {scope:Scope} {p px:Pos} {x:Str} {n:Nat} {env:Env} (hk:env.scope.kind=.function) :
  swapsWith (.ListComp elt gs scope p) (some (.Name x px)) n env=pure (decide (env.scope.names.lookup x=some .local) && (px.line == p.line) && !(scope.names.any fun (n,k)=>n == x && (k == .local || k == .cell))):=by
 have hb:env.blockKind=.function:=by unfold Env.blockKind; rw [hk]; rfl
 have:(env.kindOf x == some .local)=decide (env.scope.names.lookup x=some .local):=by
  rw [Bool.eq_iff_iff]; simp [Env.kindOf]
 unfold swapsWith
 simp only [hb,this]
 rfl
variable {scope:Scope} {own:List Str} {elt tgx iter:Expr} {ifs:List Expr} {it:AW} {tg:Tg} {t:BW} {nn m:Nat} {md':Md}
theorem c3r (G:Good X C n sp) (ht:C.tn i nx=true) (h:CompOk X C n sp scope own elt tgx iter ifs nn m md' it tg t e):∃ te:TE,(∀ σ H Q,lf X.K C.md (a1z nn m it tg t e) σ H Q→te σ H Q)∧PS X.nox (.Assign [.Name nx px] (.ListComp elt [⟨tgx,iter,ifs,0⟩] scope p) pos) (c1c te (a4v i)):=by
 have hsw:swapsWith (.ListComp elt [⟨tgx,iter,ifs,0⟩] scope p) (some (.Name nx px)) pos.line X.env=pure (swC C nx px scope p):=by rw [b7b G.kind,G.sc]; rfl
 obtain ⟨s1,s2,s3⟩:=h.blk G
 cases hb:swC C nx px scope p with
 | false =>
  rw [hb] at hsw
  exact ⟨_,fun σ H Q q=>h.run G q,c2k G ht hsw (b8a G.calm s1 h.it s2 s3)⟩
 | true =>
  rw [hb] at hsw
  have hlo:X.env.scope.names.lookup nx=some .local:=by
   rw [G.sc]
   have hb:=b2 hb
   exact de (b2 hb.1).1
  exact ⟨_,fun σ H Q q=>h.run G q,b5j G.calm s1 G.nd' (G.ix (b2 ht).1) hlo h.it s2 hsw s3⟩
theorem c8c (G:Good X C n sp) (ht:C.tn i nx=true) (hm:a0m C.md i=.imm) (h:CompOk X C n sp scope own elt tgx iter ifs nn m md' it tg t e):FS X C fr (.Assign [.Name nx px] (.ListComp elt [⟨tgx,iter,ifs,0⟩] scope p) pos) (a1g (a1z nn m it tg t e) (.nm i)) :=
 let ⟨te,h1,h2⟩:=c3r G ht h
 c0y hm h1 h2
noncomputable def tupX:Expr→Bool
 | .Tuple ..=>true
 | _=>false
noncomputable def b5g:Expr→Bool
 | .Starred ..=>true
 | _=>false
theorem fs_tup (G:Good X C n sp) {ts:List Expr} (hm:a3u C.md (.tp is)=true) (hn:tupX a=false) (hg:FGs X ts is) (h:FE X C a e):FS X C fr (.Assign [.Tuple ts k p] a pos) (a1g e (.tp is)) :=
 b3k (tg:=.tp is) hm (fun _ _ _ z=>z) (b7v (X:=X.nox) h (d2k G hg) (by cases a <;> rfl) (by cases a <;> first | rfl | (cases hn; done)) rfl)
noncomputable def b1c (sc:List (Str×NameKind)) (t:Expr):Bool:=match t with
 | .Name x _=>!(decide (sc.lookup x=some .local))
 | _=>true
theorem d5g {ts vs:List Expr} {k k2:Nat} {tp tp2:Pos} {env:Env} (h:4≤ts.length ∨ ∃ t∈ts,b1c env.scope.names t=true):swappedStores [.Tuple ts k tp] (.Tuple vs k2 tp2) env=pure none:=by
 unfold swappedStores
 simp only
 split
 ·rfl
 ·rename_i h1
  split
  ·rfl
  ·have hlen:ts.length=2 ∨ ts.length=3:=by
    simp only [Bool.or_eq_true,Bool.not_eq_true',bne_iff_ne,ne_eq,not_or,Bool.not_eq_false] at h1
    simpa using h1.1.1
   obtain ⟨t,ht,hn⟩:∃ t∈ts,b1c env.scope.names t=true:=by
    rcases h with h | h
    ·lia
    ·exact h
   have lt:∀ (l:List Expr) (f:Expr→Option Str),t∈l→f t=none→(l.filterMap f).length < l.length:=by
    intro l f
    induction l with
    | nil=>intro h; cases h
    | cons a r ih =>
     intro hm hf
     have le:=List.length_filterMap_le f r
     rcases List.mem_cons.mp hm with rfl | hm
     ·rw [List.filterMap_cons,hf,List.length_cons]; show (List.filterMap f r).length < _; lia
     ·rw [List.filterMap_cons]
      have:=ih hm hf
      split <;> simp only [List.length_cons] <;> lia
   have:=lt ts (fun
    | .Name id pos=>if env.kindOf id == some .local && pos.line == (ts.head?.map (·.pos.line)).getD 0 then some id else none
    | _=>none) ht (by
     cases t with
     | Name x p =>
      have hx:¬ env.scope.names.lookup x=some .local:=by simpa [b1c] using hn
      have hk:(env.kindOf x == some NameKind.local)=false:=by
       cases hq:(env.kindOf x == some NameKind.local) with
       | false=>rfl
       | true=>exact absurd (show env.kindOf x=some .local by simpa using hq) hx
      simp only [hk,Bool.false_and,Γp,if_false]
     | _=>rfl)
   rw [if_pos]
   simp only [Bool.or_eq_true,bne_iff_ne,ne_eq]
   left
   exact Γo this
theorem d7l (G:Good X C n sp) {ts vs:List Expr} {k2:Nat} {p2:Pos} (hm:a3u C.md (.tp is)=true) (hn:(decide (4≤ts.length) || ts.any fun t=>b1c C.sc t)=true) (hg:FGs X ts is) (h:FE X C (.Tuple vs k2 p2) e):FS X C fr (.Assign [.Tuple ts k p] (.Tuple vs k2 p2) pos) (a1g e (.tp is)) :=
 b3k (tg:=.tp is) hm (fun _ _ _ z=>z) (b7v (X:=X.nox) h (d2k G hg) rfl (d5g (by
  show 4≤ts.length ∨ ∃ t∈ts,b1c X.env.scope.names t=true
  rw [G.sc]
  simpa using hn)) rfl)
theorem sw2 {x y:Str} {px py pt pt2:Pos} {kt k2:Nat} {a b:Expr} {env:Env} (hk:env.scope.kind=.function) (hx:env.scope.names.lookup x=some .local) (hy:env.scope.names.lookup y=some .local) (hxy:x≠y) (hl:(py.line == px.line)=true)
  (sa:b5g a=false) (sb:b5g b=false) (hf:(foldedForSure 8 a && foldedForSure 8 b)=false) (hc:(constantsAlone 8 a && constantsAlone 8 b)=false) :
  swappedStores [.Tuple [.Name x px,.Name y py] kt pt] (.Tuple [a,b] k2 pt2) env=pure (some [x,y]):=by
 have hb:env.blockKind=.function:=by unfold Env.blockKind; rw [hk]; rfl
 have kx:env.kindOf x=some .local:=hx
 have ky:env.kindOf y=some .local:=hy
 unfold swappedStores
 have hyx:¬ y=x:=fun z=>hxy z.symm
 have hs:([a,b].any fun | .Starred ..=>true | _=>false)=false:=by
  show (b5g a || (b5g b || false))=false
  rw [sa,sb]; rfl
 have hf':[a,b].all (foldedForSure 8)=false:=by simpa using hf
 have hc':[a,b].all (constantsAlone 8)=false:=by simpa using hc
 have hlx:((some (Expr.Name x px)).map (·.pos.line)).getD 0=px.line:=rfl
 simp only [List.length_cons,List.length_nil,hb,hs,hf',hc',List.head?_cons,hlx,List.filterMap_cons,List.filterMap_nil,kx,ky,hl,beq_self_eq_true,Bool.and_self,if_true]
 simp [List.eraseDups_cons,hyx,bne,hxy]
 intro h
 exfalso
 rcases h with h | h
 ·cases a <;> first | (cases h; done) | (cases sa; done)
 ·cases b <;> first | (cases h; done) | (cases sb; done)
noncomputable def d6k (C:CC) (i j:Nat) (x y:Str) (px py:Pos) (a b:Expr):Bool:=decide (C.N[i]?=some x) && decide (C.N[j]?=some y) && decide (i≠j) && decide (x≠y) && decide (C.sc.lookup x=some .local) && decide (C.sc.lookup y=some .local) && (py.line == px.line) && !b5g a && !b5g b && !(foldedForSure 8 a && foldedForSure 8 b) && !(constantsAlone 8 a && constantsAlone 8 b)
theorem fs_par (G:Good X C n sp) {kt k2:Nat} {pt p2:Pos} (hm:a3u C.md (.tp [i,j])=true) (h:d6k C i j nx ny px py a b=true) (ha:FE X C a ea) (hb:FE X C b eb):FS X C fr (.Assign [.Tuple [.Name nx px,.Name ny py] kt pt] (.Tuple [a,b] k2 p2) pos) (a1g (a3y (a0a ea (a0a eb a0k))) (.tp [i,j])):=by
 have g0:=b2 h; have g1:=b2 g0.1; have g2:=b2 g1.1; have g3:=b2 g2.1; have g4:=b2 g3.1; have g5:=b2 g4.1; have g6:=b2 g5.1; have g7:=b2 g6.1; have g8:=b2 g7.1; have g9:=b2 g8.1
 have lx:X.env.scope.names.lookup nx=some .local:=by rw [G.sc]; exact de g6.2
 have ly:X.env.scope.names.lookup ny=some .local:=by rw [G.sc]; exact de g5.2
 have sa:a0g a=false:=by cases a <;> first | rfl | (exact nb g3.2)
 have sb:a0g b=false:=by cases b <;> first | rfl | (exact nb g2.2)
 refine PS.imp (d0o (X:=X.nox) G.calm G.nd' (G.ix g9.1) (G.ix g9.2) (de g8.2) lx ly (a0j ha (a0j hb a1s (a0c sb)) (a0c sa)) (sw2 (env:=X.env) G.kind lx ly (de g7.2) g4.2 (nb g3.2) (nb g2.2) (nb g1.2) (nb g0.2))) fun D σ H ⟨c,L,S,Q0,I,h,k⟩=>?_
 have hm:=b2 (show (decide (a0m C.md i=.imm) && (decide (a0m C.md j=.imm) && true))=true from hm)
 refine ⟨c,L,S,_,I,h,fun v L1 q x S1 H1 r1 I1 s1=>⟨c,L1,S1,_,I1,q,fun w L2 q y S2 H2 r2 I2 s2=>⟨x,y,rfl,?_⟩⟩⟩
 exact k .next _ q.2 _ S2 H2 ((I2.setI (de hm.1) (r1.mono s2)).setI (de (b2 hm.2).1) r2) (s1.trans s2)
theorem c1v {xo xi : Expr} {p : Pos} {env : Env} (h : a4c xi = false) : ∀ v, assign (.Subscript xo xi p) env v = (do
      let ov ← holding [v] (eval xo env)
      let iv ← holding [v, ov] (eval xi env)
      standAt p
      holding [v, ov, iv] (setItem ov iv v)
      release [v, ov, iv] []) := by
  intro v
  cases xi <;> first | rfl | (cases h; done)
theorem fs_ix (G:Good X C n sp) (hn:C.nm i nx=true) (m:a0m C.md i=.own) (hc:(!a8l a && !a4c b)=true) (ha:FE X C a ea) (hb:FE X C b eb):FS X C fr (.Assign [.Subscript (.Name nx px) b p] a pos) (c6d i eb ea):=by
 have hc:=b2 hc
 refine PS.imp (b7v (X:=X.nox) ha (d0t (a1r (pos:=px) G hn) hb c1w (c1v (nb hc.2))) (by simp only [swapsWithSole]; exact a4i (nb hc.1)) rfl rfl) fun D σ H ⟨c,L,S,Q0,I,h,k⟩=>?_
 have mi:a0m C.md i≠.imm:=fun z=>by rw [m] at z; cases z
 obtain ⟨v0,e,h⟩:=wpx h
 obtain ⟨l,e1,_⟩:=I.own i v0 mi ((a2p _ _ _).mp e)
 refine ⟨c,L,S,_,I,h,fun v L1 q x S1 H1 r1 I1 s1=>⟨_,e1,c,L1,S1,_,I1,q,fun w L2 q y S2 H2 r2 I2 s2=>?_⟩⟩
 obtain ⟨v1,e2,q2⟩:=wpx q
 obtain ⟨z,e3,q3⟩:=wpx q2
 have e2:=(a2p _ _ _).mp e2
 obtain ⟨l',f1,⟨o1,ps,us,e9,o2,o3⟩,_⟩:=I2.own i v1 mi e2
 rw [e1] at f1; cases f1
 obtain ⟨xs,g1,e3⟩:=bnd e3
 obtain ⟨nn,g2,e3⟩:=bnd e3
 obtain ⟨pp,g3,rfl⟩:=mpd e3
 cases a3e g1
 cases e9
 obtain rfl:w=.int nn:=by cases w <;> cases g2; rfl
 obtain rfl:y=.int nn:=r2
 refine ⟨l,us,nn,pp,rfl,rfl,o2,by rw [← o3.length]; exact g3,?_⟩
 exact k .next _ q3 σ S2 _ (I2.write m e2 e1 (o3.set pp (r1.mono s2))) (s1.trans s2)
noncomputable def augF (f:Int→Int→Int):FV→FV→Option FV
 | .int a,.int b=>some (.int (f a b))
 | _,_=>none
theorem c8e {J:It} {xs:List FV} {D:Ends} {Q0:FFl→a0d→Prop} (I:Iv K c md L σ S H) (hJ:ItR K c md J xs S) (ht:a3u md tg=true) (h:c8f tg s xs L Q0)
  (k:∀ fl L',Q0 fl L'→∀ σ' S' H',Iv K c md L' σ' S' H'→Same S S'→EndQ K c fr D σ' S' H' fl) :
  ∃ W:Nat→Nat→L2.St→Hp→Prop,(∃ m,W 0 m σ H)∧∀ i m σ H,W i m σ H →
   (J.stop i H∧D.nx σ H) ∨ (J.go i H∧∃ N:L2.St→Hp→Prop,(∀ σ' H',N σ' H'→∃ m',m' < m∧W (i + 1) m' σ' H')∧∀ x H',J.yld i H x H'→gT K tg x σ H' fun σ2 H2=>ls K md fr s { D with nx:=N,ct:=N,bk:=D.nx } σ2 H2):=by
 let W:Nat→Nat→L2.St→Hp→Prop:=fun i j σ1 H1=>∃ L S1,j=(xs.drop i).length∧Iv K c md L σ1 S1 H1∧Same S S1∧c8f tg s (xs.drop i) L Q0
 refine ⟨W,⟨_,L,S,rfl,I,Same.refl S,by rw [List.drop_zero]; exact h⟩,?_⟩
 rintro i m σ1 H1 ⟨L,S1,rfl,I,s1,h⟩
 obtain ⟨j1,j2⟩:=hJ i L σ1 S1 H1 I s1
 cases hd:xs.drop i with
 | nil =>
  rw [hd] at h
  exact .inl ⟨j1 (List.getElem?_eq_none_iff.mpr (List.drop_eq_nil_iff.mp hd)),k .next L h σ1 S1 H1 I s1⟩
 | cons p rest =>
  right
  rw [hd] at h
  have hi:xs[i]?=some p:=by
   have:=congrArg (·[0]?) hd
   simpa using this
  have hd':xs.drop (i + 1)=rest:=by
   have:=congrArg List.tail hd
   simpa [List.tail_drop] using this
  obtain ⟨go,yl⟩:=j2 p hi
  refine ⟨go,fun σ' H'=>∃ m',m' < rest.length + 1∧W (i + 1) m' σ' H',fun σ' H' h=>h,fun x H2 y=>?_⟩
  obtain ⟨S2,s2,tr,rx⟩:=yl x H2 y
  have I2:=tr _ _ _ _ I
  obtain ⟨σ2,L2,g,q,I3,_⟩:=a8o ht I2 rx h
  refine g _ ⟨c,L2,S2,_,I3,q,fun fl L3 q σ3 S3 H3 I4 s3=>?_⟩
  have ss:=s1.trans (s2.trans s3)
  cases fl with
  | next=>exact ⟨_,Nat.lt_succ_self _,L3,S3,by rw [hd'],I4,ss,by rw [hd']; exact q⟩
  | cont=>exact ⟨_,Nat.lt_succ_self _,L3,S3,by rw [hd'],I4,ss,by rw [hd']; exact q⟩
  | brk=>exact k .next L3 q σ3 S3 H3 I4 ss
  | ret v=>exact k (.ret v) L3 q σ3 S3 H3 I4 ss
theorem a1t (G:Good X C n sp) {body:List Stmt} (hc:(a3u md' tg && !b9i iter)=true) (hi:FI X C md' tgx iter it) (hg:FG X tgx tg) (hb:Good X (C.wmd md') n sp→FSs X (C.wmd md') fr body s):FS X C fr (.For tgx iter body [] pos) (a8c it tg s):=by
 have hc:=b2 hc
 refine PS.imp (d0p (X:=X.nox) PassesOwn.never G.calm hi hg (hb (G.wmd md')) (b1n (nb hc.2))) fun D σ H ⟨c,L,S,Q0,I,h,k⟩=>?_
 refine ⟨c,L,S,_,I,h,fun xs L1 q J c' S1 H1 I1 un e0 hJ s1=>?_⟩
 refine c8e I1 hJ hc.1 q fun fl L2 q σ2 S2 H2 I2 s2=>?_
 have:=k fl L2 q σ2 S2 H2 (un _ _ _ _ I2) (s1.trans s2)
 cases fl with
 | next=>exact this
 | brk=>exact this
 | cont=>exact this
 | ret v =>
  intro x r
  refine this x ?_
  cases fr with
  | false=>exact r
  | true =>
   obtain ⟨a,r1,r2,r3⟩:=r
   exact ⟨a,r1,r2,by rw [← e0]; exact r3⟩
theorem fs_whl {body:List Stmt} (hc:FB X C a t) (hb:FSs X C fr body s):FS X C fr (.While a body [] pos) (c9d t s):=by
 refine PS.imp (c2j (X:=X.nox) PassesOwn.never hc hb) fun D σ H ⟨c,L,S,Q0,I,⟨m,h⟩,k⟩=>?_
 refine ⟨fun m σ1 H1=>∃ L S1,Iv X.K c C.md L σ1 S1 H1∧Same S S1∧c9a t s m L Q0,⟨m,L,S,I,Same.refl S,h⟩,?_⟩
 rintro m σ1 H1 ⟨L,S1,I1,s1,h⟩
 cases m with
 | zero=>exact h.elim
 | succ m =>
  refine ⟨c,L,S1,_,I1,h,fun v L1 q S2 H2 I2 s2=>?_⟩
  cases v with
  | false =>
   rw [if_neg Γk] at q ⊢
   exact k .next L1 q σ1 S2 H2 I2 (s1.trans s2)
  | true =>
   rw [if_pos rfl] at q ⊢
   refine ⟨fun σ' H'=>∃ m',m' < m + 1∧∃ L S1,Iv X.K c C.md L σ' S1 H'∧Same S S1∧c9a t s m' L Q0,fun σ' H' h=>h,c,L1,S2,_,I2,q,fun fl L3 q σ3 S3 H3 I4 s3=>?_⟩
   have ss:=s1.trans (s2.trans s3)
   cases fl with
   | next=>exact ⟨m,Nat.lt_succ_self _,L3,S3,I4,ss,q⟩
   | cont=>exact ⟨m,Nat.lt_succ_self _,L3,S3,I4,ss,q⟩
   | brk=>exact k .next L3 q σ3 S3 H3 I4 ss
   | ret v=>exact k (.ret v) L3 q σ3 S3 H3 I4 ss
end
structure Df where
 name:String
 st:Stmt
 ps:List Str
 N:List Str
 md:Md
noncomputable def Df.cc (d:Df) (fns:List Str):CC:=⟨d.N,(a0r d.st).names,fns,d.md,true,[]⟩
noncomputable def d6l (io:Bool) (md:Md) (np:Nat):Bool:=(List.range np).all fun i=>decide (a0m md i=if (io && decide (i=0))=true then .own else .imm)
noncomputable def Df.ok (d:Df) (np ns:Nat) (io:Bool):Bool :=
 decide ((a0r d.st).kind=.function) && !(a0r d.st).isCoroutine && !(a0r d.st).isGenerator && decide (d.N.Nodup) && decide (d.N.take d.ps.length=d.ps) && d.ps.all (fun x=>decide ((a0r d.st).names.lookup x=some .local ∨ (a0r d.st).names.lookup x=some .cell)) &&
 (a0r d.st).names.all (fun p=>decide (p.2≠.free)) && decide (np=d.ps.length) && decide (ns=d.N.length) && d6l io d.md np
noncomputable def spT (K:Γd) (tb:List FD) (call:CW) (f:Nat):Sp:=match tb[f]? with
 | some fd=>spQ K call fd.io fd.fr f
 | none=>fun _ _ _ _=>False
noncomputable def spK (tb:List FD) (call:CW) (K:Γd):Nat→Sp:=spT K tb call
theorem Df.sc {d:Df} {np ns:Nat} {io:Bool} (h:d.ok np ns io=true):FnScope d.N d.ps (a0r d.st)∧np=d.ps.length∧ns=d.N.length∧∀ i,i < np→a0m d.md i=if (io && decide (i=0))=true then .own else .imm:=by
 have h0:=b2 h; have h1:=b2 h0.1; have h2:=b2 h1.1; have h3:=b2 h2.1; have h4:=b2 h3.1; have h5:=b2 h4.1; have h6:=b2 h5.1; have h7:=b2 h6.1; have h8:=b2 h7.1
 exact ⟨⟨de h8.1,nb h8.2,nb h7.2,de h6.2,de h5.2,fun x hx=>de (List.all_eq_true.mp h4.2 x hx),fun y hy=>de (List.all_eq_true.mp h3.2 y hy)⟩,de h2.2,de h1.2,fun i hi=>de (List.all_eq_true.mp h0.2 i (List.mem_range.mpr hi))⟩
section
variable {P:Program} {w:World} {K:Γd} {mg:Str→Option Value} {base:Heap} {tb:List FD} {fns:List Str}
theorem ArgsOk.len {S H:Hp} {args:List FV} {vs:List V} {io:Bool} (h:ArgsOk K S H args vs io):args.length=vs.length:=by
 cases io with
 | false=>exact RVs.length h
 | true =>
  obtain ⟨v,r,a,us,rfl,rfl,_,h⟩:=h
  rw [List.length_cons,List.length_cons,h.length]
theorem c2y {S H:Hp} {args:List FV} {vs:List V} {io:Bool} {md:Md} {N:List Str} {np ns:Nat} (h:ArgsOk K S H args vs io) (hs:Same S H) (hn:args.length=np) (hN:ns=N.length) (hm:∀ i,i < np→a0m md i=if (io && decide (i=0))=true then .own else .imm) :
  Iv K ⟨H,S,b4i vs io,[],[]⟩ md (args.map some++Γj (ns - np) none) (L2.start N vs) S H:=by
 have hl:=h.len
 have look:∀ i v,(args.map some++Γj (ns - np) none)[i]?=some (some v)→args[i]?=some v∧i < np:=fun i v e=>by
  by_cases hi:i < args.length
  ·rw [List.getElem?_append_left (by rw [List.length_map]; exact hi),List.getElem?_map] at e
   cases ea:args[i]? with
   | none=>rw [ea] at e; cases e
   | some q=>rw [ea] at e; cases e; exact ⟨rfl,by lia⟩
  ·rw [List.getElem?_append_right (by rw [List.length_map]; lia),List.getElem?_replicate] at e
   split at e <;> cases e
 have st:∀ i,i < np→(L2.start N vs)[i]?=vs[i]?.map some:=fun i hi=>by
  unfold L2.start
  rw [List.getElem?_append_left (by rw [List.length_map]; lia),List.getElem?_map]
 have own:∀ i v,a0m md i≠.imm→(args.map some++Γj (ns - np) none)[i]?=some (some v)→i=0∧io=true∧a0m md 0=.own:=fun i v hm' e=>by
  obtain ⟨_,hi⟩:=look i v e
  have:=hm i hi
  cases io with
  | false=>exact absurd (by simpa using this) hm'
  | true =>
   by_cases h0:i=0
   ·subst h0; exact ⟨rfl,rfl,by simpa using this⟩
   ·exact absurd (by simpa [h0] using this) hm'
 have lent:∀ a,b4i vs io=some a→io=true∧0 < np∧a0m md 0=.own∧vs[0]?=some (.ref a)∧∃ v,args[0]?=some v∧a4f K S H a v:=fun a e=>by
  cases io with
  | false=>cases e
  | true =>
   obtain ⟨v,r,a',us,rfl,rfl,o,_⟩:=h
   cases e
   have hp:0 < np:=by rw [← hn]; exact Nat.succ_pos _
   exact ⟨rfl,hp,by simpa using hm 0 hp,rfl,v,rfl,o⟩
 refine ⟨?_,fun i v hm' e=>?_,fun i v hm' e=>?_,fun i j v w a m1 m2 e1 e2 _ _=>?_,hs,fun a o e _=>e,Same.refl S,fun a o e=>.inl e,fun a e=>?_,fun p hp=>absurd hp List.not_mem_nil,fun i v hf e=>?_,fun p hp=>absurd hp List.not_mem_nil,fun p hp=>absurd hp List.not_mem_nil,fun p hp=>absurd hp List.not_mem_nil⟩
 ·unfold L2.start
  rw [List.length_append,List.length_append,List.length_map,List.length_map,List.length_replicate,List.length_replicate,hN]
  lia
 ·obtain ⟨ea,hi⟩:=look i v e
  rw [st i hi]
  cases io with
  | false =>
   obtain ⟨x,e1,r⟩:=RVs.get (show RVs K S args vs from h) ea
   exact ⟨x,by rw [e1]; rfl,r⟩
  | true =>
   obtain ⟨v0,r,a',us,rfl,rfl,o,hr⟩:=h
   cases i with
   | zero=>rw [show a0m md 0=.own by simpa using hm 0 hi] at hm'; cases hm'
   | succ i =>
    obtain ⟨x,e1,r1⟩:=RVs.get hr (by simpa using ea)
    exact ⟨x,by simp [e1],r1⟩
 ·obtain ⟨rfl,rfl,m0⟩:=own i v hm' e
  obtain ⟨ea,hi⟩:=look 0 v e
  obtain ⟨v0,r,a',us,rfl,rfl,o,hr⟩:=h
  cases ea
  exact ⟨a',by rw [st 0 hi]; rfl,o,.inl rfl⟩
 ·rw [(own i v m1 e1).1,(own j w m2 e2).1]
 ·obtain ⟨rfl,hp,m0,e1,v,ea,_⟩:=lent a e
  refine ⟨fun z=>(nomatch (m0.symm.trans z)),by rw [st 0 hp,e1]; rfl,v,?_⟩
  rw [List.getElem?_append_left (by rw [List.length_map]; lia),List.getElem?_map,ea]; rfl
 ·have:=own i v (fun z=>by rw [z] at hf; cases hf) e
  rw [this.1,this.2.2] at hf; cases hf
theorem b9p {d f:Nat} {fa:Addr} {fdd:FuncData} {df:Df} {fd:FD} (F:Fun K (Γe df.name) (Γe df.name) df.st fa fdd) (hf:tb[f]?=some fd) (hok:df.ok fd.np fd.ns fd.io=true)
  (hb:∀ X call n,Good X (df.cc fns) n (spK tb call)→FSs X (df.cc fns) fd.fr (a2m df.st) (fd.body call))
  (fnsOk:∀ (f:Nat) (x:Str),fns[f]?=some x→∃ fa fd ps,mg x=some (.ref fa)∧PySem.W.keepIn K (.ref fa)=true∧Binds K fd ps []∧FnOk P w K mg base CX0 d fa fd ps (spT K tb (callW tb d) f))
  (blt:∀ b∈bltNames,mg (Γe b)=none):FnOk P w K mg base CX0 (d + 1) fa fdd df.ps (spT K tb (callW tb (d + 1)) f):=by
 obtain ⟨S,hnp,hns,hmd⟩:=Df.sc hok
 have e0:spT K tb (callW tb (d + 1)) f=spQ K (callW tb (d + 1)) fd.io fd.fr f:=by unfold spT; rw [hf]
 have run:∀ {args:List FV} {Q:FV×FV→Prop},callW tb (d + 1) f args Q→args.length=fd.np∧fd.body (callW tb d) (args.map some++Γj (fd.ns - fd.np) none) (c1e fd.io fd.fr Q):=fun {args Q} h=>by
  have h:(match tb[f]? with
   | none=>False
   | some fd=>args.length=fd.np∧fd.body (callW tb d) (args.map some++Γj (fd.ns - fd.np) none) (c1e fd.io fd.fr Q)):=h
  rw [hf] at h; exact h
 rw [e0]
 refine F.ok S (fun vs H Q E h=>?_) (fun cdv A outer s H vs Q E hr h=>?_)
 ·obtain ⟨S0,args,Q0,_,ao,hc,_⟩:=h
  rw [← ao.len,(run hc).1,hnp]
 ·obtain ⟨S0,args,Q0,hs,ao,hc,k⟩:=h
  obtain ⟨hl,hc⟩:=run hc
  have G:Good (c8o CX0 P w K mg base df.N (Γe df.name) (a0r df.st) fa cdv A outer s H E) (df.cc fns) d (spK tb (callW tb d)) :=
   ⟨rfl,rfl,S.kind,S.nd,rfl,fun _ _=>rfl,hr,fnsOk,blt⟩
  refine ⟨_,hb _ _ _ G,_,_,S0,_,c2y ao hs hl hns hmd,hc,fun fl L' q σ' S' H' I s'=>?_⟩
  have kp:∀ w,(fd.io=true→lk L' 0=some w)→Kept K S0 H S' H' (b4i vs fd.io) w:=fun w hw=>⟨s',I.sub,I.grow,fun a o e n=>I.frame a o e n,fun a e=>by
   have hio:fd.io=true:=by
    cases z:fd.io with
    | true=>rfl
    | false=>rw [z] at e; cases e
   obtain ⟨m0,e1,v,e2⟩:=I.lent a e
   obtain ⟨b,e3,o,_⟩:=I.own 0 v m0 e2
   rw [e1] at e3; cases e3
   have:=(a2p _ _ _).mp (hw hio)
   rw [e2] at this; cases this
   exact o⟩
  have fin:∀ v x,c1e fd.io fd.fr Q0 (.ret v) L'→c8y K S' H' H v x fd.fr→Q x H':=fun v x q r=>by
   cases hio:fd.io with
   | true =>
    rw [hio] at q
    obtain ⟨w,e1,q⟩:=wpx q
    exact k _ q x S' H' (kp w fun _=>e1) r
   | false =>
    rw [hio] at q
    exact k (v,.non) q x S' H' (kp .non fun z=>by rw [hio] at z; cases z) r
  cases fl with
  | next =>
   cases hfr:fd.fr with
   | true=>rw [hfr] at q; exact q.elim
   | false=>rw [hfr] at q; exact fin .non .non (by rw [hfr]; exact q) (by rw [hfr]; exact rfl)
  | ret v =>
   intro x r
   refine fin v x q ?_
   cases hfr:fd.fr with
   | true=>rw [hfr] at r; exact r
   | false=>rw [hfr] at r; exact r
  | brk=>exact q.elim
  | cont=>exact q.elim
theorem c0z (blt:∀ b∈bltNames,mg (Γe b)=none)
  (D:∀ (f:Nat) (x:Str),fns[f]?=some x→∃ df fd fa fdd,tb[f]?=some fd∧Df.ok df fd.np fd.ns fd.io=true∧(∀ X call n,Good X (df.cc fns) n (spK tb call)→FSs X (df.cc fns) fd.fr (a2m df.st) (fd.body call))∧Fun K (Γe df.name) (Γe df.name) df.st fa fdd∧mg x=some (.ref fa)∧Binds K fdd df.ps []) :
  ∀ (d f:Nat) (x:Str),fns[f]?=some x→∃ fa fd ps,mg x=some (.ref fa)∧PySem.W.keepIn K (.ref fa)=true∧Binds K fd ps []∧FnOk P w K mg base CX0 d fa fd ps (spT K tb (callW tb d) f)
 | 0,f,x,h=>by
  obtain ⟨df,fd,fa,fdd,h1,h2,h6,h3,h4,h5⟩:=D f x h
  have no:∀ vs H Q E,¬ spT K tb (callW tb 0) f vs H Q E:=fun vs H Q E z=>by
   unfold spT at z
   rw [h1] at z
   obtain ⟨_,_,_,_,_,k,_⟩:=z
   exact k
  exact ⟨fa,fdd,df.ps,h4,h3.kp,h5,fun vs H Q E z=>absurd z (no vs H Q E),fun A outer s H args us vs Q E _ _ _ _ z=>absurd z (no vs H Q E)⟩
 | d + 1,f,x,h=>by
  obtain ⟨df,fd,fa,fdd,h1,h2,h6,h3,h4,h5⟩:=D f x h
  exact ⟨fa,fdd,df.ps,h4,h3.kp,h5,b9p h3 h1 h2 h6 (c0z blt D d) blt⟩
theorem law_sp {d f:Nat} {H:Hp} {a:Addr} {ns:List Int} {fd:FD} (hf:tb[f]?=some fd) (hio:fd.io=false) (hfr:fd.fr=false) (hO:d3n H) (hS:SqL K H a (ns.map V.int)) (h:callW tb d f [.scr ns] fun z=>z.1=.bl true) :
  spT K tb (callW tb d) f [.ref a] H (fun v _=>v=.bl true) fun _ _ _=>False:=by
 have e0:spT K tb (callW tb d) f=spQ K (callW tb d) false false f:=by unfold spT; rw [hf]; show spQ K (callW tb d) fd.io fd.fr f=_; rw [hio,hfr]
 rw [e0]
 refine ⟨H,[.scr ns],_,Same.refl H,RVs.one ⟨a,rfl,?_⟩,h,fun z e x S' H' _ r=>?_⟩
 ·rcases hS with (h | ⟨o,h⟩) | h
  ·rcases hO a with z | ⟨o,xs,z⟩
   ·rw [z] at h; cases h
   ·rw [z] at h; cases h
  ·exact .inl ⟨o,h⟩
  ·exact .inr (.inr h)
 ·have r:RV K S' z.1 x:=r
  rw [e] at r; exact r
end
noncomputable def EachI {α:Type} (P:Nat→α→Prop):Nat→List α→Prop
 | _,[]=>True
 | i,x :: xs=>P i x∧EachI P (i + 1) xs
theorem EachI.get {α:Type} {P:Nat→α→Prop}:∀ {xs:List α} {k:Nat},EachI P k xs→∀ (f:Nat) (x:α),xs[f]?=some x→P (k + f) x
 | _ :: _,_,h,0,x,e=>(Option.some.inj e) ▸ h.1
 | _ :: xs,k,h,f + 1,x,e=>by
  have:=EachI.get h.2 f x e
  rw [Nat.add_assoc,Nat.add_comm 1 f] at this
  exact this
theorem us1 {P:List Value→Prop} {us:List Value} (h:us.length=1) (H:∀ a,P [a]):P us:=match us,h with | [_],_=>H _
theorem us2 {P:List Value→Prop} {us:List Value} (h:us.length=2) (H:∀ a b,P [a,b]):P us:=match us,h with | [_,_],_=>H _ _
end Kq
end
section
namespace Kq
open PySem PySem.Spec PySem.Calls PyProof.Rows L2 PySem.W
theorem a9r:∀ {K:Frag} {a:Addr} {o:Obj},K.lookup a=some o→(a,o)∈K
 | [],a,o,h=>by simp at h
 | (b,u) :: K,a,o,h=>by
  rw [List.lookup_cons] at h
  split at h
  ·rename_i e; cases h; rw [beq_iff_eq.mp e]; exact Γn
  ·exact Γh _ (a9r h)
theorem b8o {K:Frag} {a:Addr} {o:Obj} (h:(a,o)∈K):∃ u,K.lookup a=some u:=by
 induction K with
 | nil=>exact absurd h List.not_mem_nil
 | cons p K ih =>
  obtain ⟨b,u⟩:=p
  rw [List.lookup_cons]
  split
  ·exact ⟨_,rfl⟩
  ·rename_i e
   rcases List.mem_cons.mp h with z | z
   ·rw [(Prod.mk.inj z).1,beq_self_eq_true] at e; cases e
   ·exact ih z
noncomputable def AllIn (K:Frag) (h:Heap):Prop:=∀ p∈K,h.get? p.1=some p.2
theorem AllIn.to {K:Frag} {h:Heap} (x:AllIn K h):K.In h:=fun a o e=>x _ (a9r e)
theorem AllIn.look {K:Frag} {h:Heap} (x:AllIn K h) {a:Addr} {o:Obj} (m:(a,o)∈K):K.lookup a=some o:=by
 obtain ⟨u,e⟩:=b8o m
 have h1:=x _ (a9r e)
 rw [show h.get? a=some o from x _ m] at h1
 cases h1; exact e
noncomputable def CIn (K:Frag) (cd:Value) (q:Str):Prop:=∃ c oc vs t,cd=.ref c∧(c,oc)∈K∧oc.data=.fields vs∧vs[1]?=some (.str q t)
noncomputable def DIn (K:Frag) (mg:Str→Option Value) (d:DefRec):Prop:=∃ fa o pm cd doc,mg d.name=some (.ref fa)∧(fa,o)∈K∧o.data=.func (docDef d.name d.params d.body d.scope pm cd doc)∧CIn K cd d.name
theorem DIn.more {K K':Frag} {mg:Str→Option Value} {d:DefRec} (s:∀ p∈K,p∈K') (x:DIn K mg d):DIn K' mg d:=by
 obtain ⟨fa,o,pm,cd,doc,h1,h2,h3,c,oc,vs,t,h4,h5,h6⟩:=x
 exact ⟨fa,o,pm,cd,doc,h1,s _ h2,h3,c,oc,vs,t,h4,s _ h5,h6⟩
theorem c0c {q:Program} {loose:List Str} {mean:ExcName→Option Value} {mg mb:Str→Option Value} {h:Heap} (T:Top q loose mean mg mb h):∀ ds:List DefRec,(∀ d∈ds,d∈recsOf q)→∃ K:Frag,AllIn K h∧∀ d∈ds,DIn K mg d
 | [],_=>⟨[],fun _ m=>absurd m List.not_mem_nil,fun _ m=>absurd m List.not_mem_nil⟩
 | d :: ds,hm=>by
  obtain ⟨K,h1,h2⟩:=c0c T ds fun e m=>hm e (Γh _ m)
  obtain ⟨a,o,pm,cd,doc,g1,g2,g3,c,oc,vs,t,g4,g5,g6⟩:=T.fn d (hm d Γn)
  refine ⟨(a,o) :: (c,oc) :: K,fun p m=>?_,fun e m=>?_⟩
  ·rcases List.mem_cons.mp m with z | z
   ·cases z; exact g2
   ·rcases List.mem_cons.mp z with z | z
    ·cases z; exact g5
    ·exact h1 p z
  ·rcases List.mem_cons.mp m with z | z
   ·cases z
    exact ⟨a,o,pm,cd,doc,g1,Γn,g3,c,oc,vs,t,g4,Γh _ Γn,g6⟩
   ·exact (h2 e z).more fun p m=>Γh _ (Γh _ m)
theorem DIn.fn {K:Frag} {h:Heap} (A:AllIn K h) {mg:Str→Option Value} {x:Str} {st:Stmt} {pos:Pos} (D:DIn K mg ⟨x,a5r st,a2m st,a0r st,pos⟩):∃ fa fd,mg x=some (.ref fa)∧Fun K x x st fa fd:=by
 obtain ⟨fa,o,pm,cd,doc,h1,h2,h3,c,oc,vs,t,rfl,h5,h6,h7⟩:=D
 have l:=A.look h2
 have lc:=A.look h5
 obtain ⟨k1,k2,k3,k4⟩:=o
 obtain ⟨j1,j2,j3,j4⟩:=oc
 cases h3; cases h6
 refine ⟨fa,_,h1,d2j (kV:=.none) (doc:=doc) (pm:=pm) (an:=none) (cdv:=.ref c) (ct:=.none) l ?_ ?_⟩
 ·show (match K.lookup c with | some ⟨_,_,.fields vs,_⟩=>_ | _=>_)=true
  rw [lc]
  obtain ⟨l⟩:=vs
  match l,h7 with
  | [],h7=>simp at h7
  | [a],h7=>simp at h7
  | a :: b :: r,h7 =>
   simp at h7; subst h7
   exact beq_self_eq_true _
 ·show (match K.lookup fa with | some ⟨_,_,.func _,_⟩=>true | some ⟨_,_,.cls _,_⟩=>_ | _=>false)=true
  rw [l]
noncomputable def d3b:Stmt→Pos
 | .FunctionDef _ _ _ _ _ _ _ _ _ p=>p
 | _=>⟨0,0,0,0⟩
noncomputable def d7c:Stmt→Bool
 | .FunctionDef ..=>true
 | _=>false
noncomputable def c9h (p:Program):Program:={ p with main:={ p.main with body:=p.main.body.filter d7c } }
noncomputable def freeIn (q:Program) (loose:List Str) (x:Str):Bool:=!startupNames.contains x && !loose.contains x && !((recsOf q).map (·.name)).contains x && !((litsOf q).map (·.1)).contains x && !((clssOf q loose).map (·.name)).contains x
theorem c8d {q:Program} {loose:List Str} {mean:ExcName→Option Value} {mg mb:Str→Option Value} {h:Heap} (T:Top q loose mean mg mb h) {x:Str} (e:freeIn q loose x=true):mg x=none:=by
 unfold freeIn at e
 simp only [Bool.and_eq_true,Bool.not_eq_true',List.contains_eq_mem,decide_eq_false_iff_not] at e
 exact T.free x e.1.1.1.1 e.1.1.1.2 e.1.1.2 e.1.2 e.2
theorem walk2 {l:OpenLaw} {n k:Nat} {q:Program} {XP:(Str→Option Value)→Heap→Prop} {YP:World→Heap→Prop} {d:DefRec} {ds:List DefRec} {x:Str} {sp:Frag→Sp}
  (hn:l.most=some n) (hn2:n≤sizeLine) (hdf:d.params.defaults=[]) (hr:Room k callerA) (hds:ds=recsOf q) (hfree:(bltNames.all fun b=>freeIn q (looseW q []) (Γe b))=true)
  (F:∀ (w:World) (K:Frag) (mg:Str→Option Value) (fa:Addr) (h:Heap),AllIn K h→(∀ d∈ds,DIn K mg d)→(∀ b∈bltNames,mg (Γe b)=none)→mg d.name=some (.ref fa) →
   ∃ fd:FuncData,(∀ (s:Shared) (u:Value),BindsTo s fd ⟨[u],[]⟩ [(x,u)])∧∀ base:Heap,FnOk l.prog w K mg base CX0 k fa fd [x] (sp K))
  (hsp:∀ (K:Frag) (H:Hp) (a:Addr) (ns:List Int),ns.length≤n→d3n H→SqL K H a (ns.map V.int)→sp K [.ref a] H (fun v _=>v=.bl true) fun _ _ _=>False) :
  WalkO q [] XP YP l.row.toRowW d [] (fun f vs=>PySem.call f vs):=by
 refine Att.attach_call hn hdf fun w s₀ s₁ mg mb fa o pm cd doc a vs ns G Y ho hd hcd hmg hobj hints hlen hg=>?_
 obtain ⟨K,hK,hD⟩:=c0c G.T ds fun d m=>hds ▸ m
 obtain ⟨fd,hb,hF⟩:=F w K mg fa _ hK hD (fun b hb=>c8d G.T (List.all_eq_true.mp hfree b hb)) hmg
 exact b4m hK.to G.T.g G.T.b G.T.builtins G.T.nolimit hg hobj hints (Nat.le_trans hlen hn2) hr (fun base _ _=>hF base) hb (fun H hO hS=>hsp K H a ns hlen hO hS) fun H e s' z=>z
theorem row_holds {l:OpenLaw} {q:Program} {d:DefRec} {N:Nat} (said:l.wellSaid=true) (left:LeftO l.prog q [] (fun s=>xlAt q [] s && recOk (RowW.records l.row.toRowW) s) (fun _=>()) (fun _=>()) N)
  (hdef:defOf q l.name=some (d,[])) (hp:l.prog.theDef l.name=some (d.params,d.body,d.scope)) (hk:kwWritten? d.params.kwonlyargs d.params.kw_defaults=some []) (hwr:(!l.writes || l.row.records.isEmpty)=true)
  (ok:(chainsOk q && opensWell l.prog && (frees l.row.toRowW && l.row.within.isEmpty))=true) (hb:l.prog.bare) (hw:l.row.toRowW.promised)
  (call:WalkO q [] (XL q []) (fun _ _=>True) l.row.toRowW d [] fun f vs=>PySem.call f vs):l.Holds :=
 holds_law said fun k1=>holds_open (r:=l.row) left (fun _ _ _=>trivial) (fun _ _ _ _ _=>trivial) (fun s e=>xl_of s (Bool.and_eq_true_iff.mp e).1) XL.keeps hdef hp hk (fun s e=>recFacts_of (Bool.and_eq_true_iff.mp e).2) hwr k1 ok hb hw call
end Kq
end
set_option maxHeartbeats 1000000
section
namespace Kq
@[scoped simp ↓] theorem a5g {α:Type} (x:α) (Q:α→Prop):wp (some x) Q=Q x:=propext Iff.rfl
@[scoped simp ↓] theorem d4u {α:Type} (Q:α→Prop):wp (none:Option α) Q=False:=propext Iff.rfl
theorem a1f {α β:Type} (r:Option α) (f:α→Option β) (Q:β→Prop):wp (r.bind f) Q↔wp r (fun x=>wp (f x) Q):=by cases r <;> rfl
@[scoped simp ↓] theorem a2g {α β:Type} (r:Option α) (f:α→β) (Q:β→Prop):wp (r.map f) Q↔wp r (fun x=>Q (f x)):=by cases r <;> rfl
@[scoped simp ↓] theorem a3h {α:Type} (c:Prop) [Decidable c] (a:α) (Q:α→Prop):wp (if c then some a else none) Q↔c∧Q a:=by
 by_cases h:c <;> simp [h]
@[scoped simp ↓] theorem d9p (i:Nat) (L:a0d) (Q:FV→a0d→Prop):a0b i L Q=(wp (lk L i) fun x=>Q x L):=propext Iff.rfl
@[scoped simp ↓] theorem eC_eq (v:FV) (L:a0d) (Q:FV→a0d→Prop):eC v L Q=(Q v L):=propext Iff.rfl
@[scoped simp ↓] theorem eUn_eq (f:FV→Option FV) (a:EW) (L:a0d) (Q:FV→a0d→Prop):eUn f a L Q=(a L fun x L1=>wp (f x) fun z=>Q z L1):=propext Iff.rfl
@[scoped simp ↓] theorem eOp_eq (f:FV→FV→Option FV) (a b:EW) (L:a0d) (Q:FV→a0d→Prop):eOp f a b L Q=(a L fun x L1=>b L1 fun y L2=>wp (f x y) fun z=>Q z L2):=propext Iff.rfl
@[scoped simp ↓] theorem d9t (f:FV→FV→Option FV) (i:Nat) (b:EW) (L:a0d) (Q:FV→a0d→Prop):b0n f i b L Q=(wp (lk L i) fun _=>b L fun y L1=>wp (lk L1 i) fun x=>wp (f x y) fun z=>Q z L1):=propext Iff.rfl
@[scoped simp ↓] theorem d9v (a b:EW) (L:a0d) (Q:FV→a0d→Prop):d2x a b L Q=(a L fun x L1=>wp (c1l x) fun r=>if r=true then b L1 Q else Q x L1):=propext Iff.rfl
@[scoped simp ↓] theorem eIf_eq (c:BW) (a b:EW) (L:a0d) (Q:FV→a0d→Prop):eIf c a b L Q=(c L fun r L1=>if r=true then a L1 Q else b L1 Q):=propext Iff.rfl
@[scoped simp ↓] theorem e0z (a:EW) (L:a0d) (Q:Bool→a0d→Prop):a2c a L Q=(a L fun x L1=>wp (c1l x) fun b=>Q b L1):=propext Iff.rfl
@[scoped simp ↓] theorem e1b (a b:BW) (L:a0d) (Q:Bool→a0d→Prop):c3x a b L Q=(a L fun r L1=>if r=true then b L1 Q else Q false L1):=propext Iff.rfl
@[scoped simp ↓] theorem bOr_eq (a b:BW) (L:a0d) (Q:Bool→a0d→Prop):bOr a b L Q=(a L fun r L1=>if r=true then Q true L1 else b L1 Q):=propext Iff.rfl
@[scoped simp ↓] theorem e1a (a:BW) (L:a0d) (Q:Bool→a0d→Prop):d3k a L Q=(a L fun r L1=>Q (!r) L1):=propext Iff.rfl
@[scoped simp ↓] theorem d4q (L:a0d) (Q:Bool→a0d→Prop):a2b  L Q=(Q true L):=propext Iff.rfl
@[scoped simp ↓] theorem e1d (L:a0d) (Q:List FV→a0d→Prop):a0k  L Q=(Q [] L):=propext Iff.rfl
@[scoped simp ↓] theorem d4s (a:EW) (r:AW) (L:a0d) (Q:List FV→a0d→Prop):a0a a r L Q=(a L fun x L1=>r L1 fun xs L2=>Q (x :: xs) L2):=propext Iff.rfl
@[scoped simp ↓] theorem d9q (a:AW) (L:a0d) (Q:FV→a0d→Prop):a3y a L Q=(a L fun xs L1=>xs.length≤big∧Q (.tup xs) L1):=propext Iff.rfl
@[scoped simp ↓] theorem d9u (a:AW) (L:a0d) (Q:FV→a0d→Prop):b0o a L Q=(a L fun xs L1=>xs.length≤big∧Q (.lst xs) L1):=propext Iff.rfl
@[scoped simp ↓] theorem d3t (L:a0d) (Q:Option Int→a0d→Prop):b2v  L Q=(Q none L):=propext Iff.rfl
@[scoped simp ↓] theorem d3s (a:EW) (L:a0d) (Q:Option Int→a0d→Prop):b2u a L Q=(a L fun x L1=>wp (a5f x) fun i=>Q (some i) L1):=propext Iff.rfl
@[scoped simp ↓] theorem eSl_eq (a:EW) (l h:OW) (L:a0d) (Q:FV→a0d→Prop):eSl a l h L Q=(a L fun x L1=>l L1 fun i L2=>h L2 fun j L3=>wp (a5v x i j) fun z=>Q z L3):=propext Iff.rfl
@[scoped simp ↓] theorem d9s (k:Nat) (l h:OW) (L:a0d) (Q:FV→a0d→Prop):d2s k l h L Q=(wp (lk L k) fun _=>l L fun i L2=>h L2 fun j L3=>wp (lk L3 k) fun x=>wp (a5v x i j) fun z=>Q z L3):=propext Iff.rfl
@[scoped simp ↓] theorem d4m (call:CW) (f:Nat) (a:AW) (L:a0d) (Q:FV→a0d→Prop):a1q call f a L Q=(a L fun xs L1=>call f xs fun z=>Q z.1 L1):=propext Iff.rfl
@[scoped simp ↓] theorem d2w (call:CW) (f i:Nat) (a:AW) (L:a0d) (Q:FV→a0d→Prop):a0q call f i a L Q=(wp (lk L i) fun _=>a L fun xs L1=>wp (lk L1 i) fun x=>call f (x :: xs) fun z=>Q z.1 (L1.set i (some z.2))):=propext Iff.rfl
@[scoped simp ↓] theorem d4k (f:FV→FV→Option FV) (i:Nat) (a:EW) (L:a0d) (Q:FV→a0d→Prop):b3e f i a L Q=(wp (lk L i) fun v=>wp (a8f v) fun _=>a L fun y L1=>wp (lk L1 i) fun x=>wp (f x y) fun z=>Q .non (L1.set i (some z))):=propext Iff.rfl
@[scoped simp ↓] theorem d7e (a:EW) (L:a0d) (Q:List FV→a0d→Prop):a8n a L Q=(a L fun x L1=>wp (a3v x) fun xs=>Q xs L1):=propext Iff.rfl
@[scoped simp ↓] theorem d7f (a:EW) (L:a0d) (Q:List FV→a0d→Prop):b0m a L Q=(a L fun x L1=>wp (a5f x) fun j=>a1v j=true∧Q (upF 0 j.toNat) L1):=propext Iff.rfl
@[scoped simp ↓] theorem d7d (a b:EW) (L:a0d) (Q:List FV→a0d→Prop):d2h a b L Q=(a L fun x L1=>b L1 fun y L2=>wp (a3v x) fun xs=>wp (a3v y) fun ys=>Q (a3w xs ys) L2):=propext Iff.rfl
@[scoped simp ↓] theorem d3y (a:EW) (L:a0d) (Q:List FV→a0d→Prop):b5v a L Q=(a L fun x L1=>wp (a3v x) fun xs=>Q (a3w (upF 0 xs.length) xs) L1):=propext Iff.rfl
@[scoped simp ↓] theorem d4l (n m:Nat) (it:AW) (tg:Tg) (t:BW) (e:EW) (L:a0d) (Q:FV→a0d→Prop):a1z n m it tg t e L Q=(it L fun xs L1=>L1.length=n∧xs.length≤big∧a5s n m tg t e xs [] L1 fun ys L2=>Q (.lst ys) L2):=propext Iff.rfl
@[scoped simp ↓] theorem d5o (L:a0d) (Q:FFl→a0d→Prop):a9i  L Q=(Q .next L):=propext Iff.rfl
@[scoped simp ↓] theorem d5m (s r:SW) (L:a0d) (Q:FFl→a0d→Prop):a0u s r L Q=(s L (aft (fun L1=>r L1 Q) Q)):=propext Iff.rfl
@[scoped simp ↓] theorem d5s (e:EW) (tg:Tg) (L:a0d) (Q:FFl→a0d→Prop):a1g e tg L Q=(e L fun x L1=>gW tg x L1 fun L2=>Q .next L2):=propext Iff.rfl
@[scoped simp ↓] theorem d5l (k:Nat) (i e:EW) (L:a0d) (Q:FFl→a0d→Prop):c6d k i e L Q=(wp (lk L k) fun _=>e L fun x L1=>i L1 fun j L2=>wp (lk L2 k) fun y=>wp (d5j y j x) fun z=>Q .next (L2.set k (some z))):=propext Iff.rfl
@[scoped simp ↓] theorem d5n (e:EW) (L:a0d) (Q:FFl→a0d→Prop):a2n e L Q=(e L fun x L1=>Q (.ret x) L1):=propext Iff.rfl
@[scoped simp ↓] theorem d5q (e:EW) (L:a0d) (Q:FFl→a0d→Prop):c4l e L Q=(e L fun _ L1=>Q .next L1):=propext Iff.rfl
@[scoped simp ↓] theorem sIf_eq (c:BW) (a b:SW) (L:a0d) (Q:FFl→a0d→Prop):sIf c a b L Q=(c L fun r L1=>if r=true then a L1 Q else b L1 Q):=propext Iff.rfl
@[scoped simp ↓] theorem d5p (it:AW) (tg:Tg) (b:SW) (L:a0d) (Q:FFl→a0d→Prop):a8c it tg b L Q=(it L fun xs L1=>c8f tg b xs L1 Q):=propext Iff.rfl
@[scoped simp ↓] theorem d5k (c:BW) (b:SW) (L:a0d) (Q:FFl→a0d→Prop):c9d c b L Q=(∃ n,c9a c b n L Q):=propext Iff.rfl
@[scoped simp ↓] theorem lk_z (x:Option FV) (L:a0d) (Q:FV→Prop):wp (lk (x :: L) 0) Q=wp x Q:=propext Iff.rfl
@[scoped simp ↓] theorem lk_s (x:Option FV) (L:a0d) (n:Nat) (Q:FV→Prop):wp (lk (x :: L) (n + 1)) Q=wp (lk L n) Q:=propext Iff.rfl
@[scoped simp ↓] theorem gw_nm (i:Nat) (v:FV) (L:a0d) (Q:a0d→Prop):gW (.nm i) v L Q=Q (L.set i (some v)):=propext Iff.rfl
@[scoped simp ↓] theorem gw_tp (is:List Nat) (v:FV) (L:a0d) (Q:a0d→Prop):gW (.tp is) v L Q=wp (a8y v) fun xs=>wp (a9f L is xs) Q:=propext Iff.rfl
@[scoped simp ↓] theorem sa_n (L:a0d) (Q:a0d→Prop):wp (a9f L [] []) Q=Q L:=propext Iff.rfl
@[scoped simp ↓] theorem sa_c (L:a0d) (i:Nat) (is:List Nat) (v:FV) (vs:List FV) (Q:a0d→Prop):wp (a9f L (i :: is) (v :: vs)) Q=wp (a9f (L.set i (some v)) is vs) Q:=propext Iff.rfl
section
variable (L:a0d) (k:a0d→Prop) (Q:FFl→a0d→Prop)
@[scoped simp ↓] theorem e1c:aft k Q .next L=k L:=propext Iff.rfl
@[scoped simp ↓] theorem af_ret (v:FV):aft k Q (.ret v) L=Q (.ret v) L:=propext Iff.rfl
@[scoped simp ↓] theorem tq_n:b2h k Q .next L=k L:=propext Iff.rfl
@[scoped simp ↓] theorem tq_r (v:FV):b2h k Q (.ret v) L=Q (.ret v) L:=propext Iff.rfl
end
@[scoped simp ↓] theorem en_rt (fr:Bool) (Q:FV×FV→Prop) (v:FV) (L:a0d):c1e true fr Q (.ret v) L=wp (lk L 0) fun x=>Q (v,x):=propext Iff.rfl
@[scoped simp ↓] theorem en_rf (fr:Bool) (Q:FV×FV→Prop) (v:FV) (L:a0d):c1e false fr Q (.ret v) L=Q (v,.non):=propext Iff.rfl
section
variable (Q:FV→Prop) (B:Bool→Prop) (i j:Int)
@[scoped simp ↓] theorem tr_b (b:Bool):wp (c1l (.bl b)) B=B b:=propext Iff.rfl
@[scoped simp ↓] theorem in_i (Q:Int→Prop):wp (a5f (.int i)) Q=Q i:=propext Iff.rfl
@[scoped simp ↓] theorem tp_t (xs:List FV) (Q:List FV→Prop):wp (a8y (.tup xs)) Q=Q xs:=propext Iff.rfl
@[scoped simp ↓] theorem ls_l (xs:List FV) (Q:List FV→Prop):wp (a8f (.lst xs)) Q=Q xs:=propext Iff.rfl
@[scoped simp ↓] theorem sq_t (xs:List FV) (Q:List FV→Prop):wp (a3v (.tup xs)) Q=Q xs:=propext Iff.rfl
@[scoped simp ↓] theorem sq_l (xs:List FV) (Q:List FV→Prop):wp (a3v (.lst xs)) Q=Q xs:=propext Iff.rfl
@[scoped simp ↓] theorem sq_s (ns:List Int) (Q:List FV→Prop):wp (a3v (.scr ns)) Q=Q (ns.map .int):=propext Iff.rfl
@[scoped simp ↓] theorem li_l (xs:List FV) (Q:List FV→Prop):wp (a2a (.lst xs)) Q=Q xs:=propext Iff.rfl
@[scoped simp ↓] theorem b_add:wp (a3s (.int i) (.int j)) Q=Q (.int (i + j)):=propext Iff.rfl
@[scoped simp ↓] theorem b_sub:wp (d3o (.int i) (.int j)) Q=Q (.int (i - j)):=propext Iff.rfl
@[scoped simp ↓] theorem b_mul:wp (b6k (.int i) (.int j)) Q↔(a2h i || a2h j)=true∧Q (.int (i * j)):=a3h _ _ _
@[scoped simp ↓] theorem b_fdiv:wp (b9r (.int i) (.int j)) Q↔(0 < j∧j < 1073741824)∧Q (.int (i / j)):=a3h _ _ _
@[scoped simp ↓] theorem b_mod:wp (c4w (.int i) (.int j)) Q↔0 < j∧Q (.int (i % j)):=a3h _ _ _
@[scoped simp ↓] theorem b_pow:wp (d0q (.int i) (.int j)) Q↔(0≤j∧j≤1000∧a2h i=true)∧Q (.int (i ^ j.toNat)):=a3h _ _ _
@[scoped simp ↓] theorem b_addt (xs ys:List FV):wp (a3s (.tup xs) (.tup ys)) Q↔xs.length + ys.length≤big∧Q (.tup (xs++ys)):=a3h _ _ _
@[scoped simp ↓] theorem b_addl (xs ys:List FV):wp (a3s (.lst xs) (.lst ys)) Q↔xs.length + ys.length≤big∧Q (.lst (xs++ys)):=a3h _ _ _
@[scoped simp ↓] theorem b_rep (xs:List FV) (k:Int):wp (b6k (.lst xs) (.int k)) Q↔(-(2 ^ 63)≤k∧k < 2 ^ 63∧xs.length * k.toNat≤big)∧Q (.lst (Γj k.toNat xs).flatten):=a3h _ _ _
@[scoped simp ↓] theorem d6x {f:FV→FV→Option FV} (v w:FV):wp (a5p f v w) Q↔wp (f v w) fun z=>wp (a8f z) fun xs=>Q (.lst xs):=by unfold a5p; rw [a1f]; simp only [a2g]
@[scoped simp ↓] theorem k_eq (a b:FV):wp (eqB a b) Q↔wp (eqF a b) fun r=>Q (.bl r):=a2g _ _ _
@[scoped simp ↓] theorem k_ne (a b:FV):wp (neB a b) Q↔wp (eqF a b) fun r=>Q (.bl (!r)):=a2g _ _ _
@[scoped simp ↓] theorem k_lt:wp (ltB (.int i) (.int j)) Q=Q (.bl (decide (i < j))):=propext Iff.rfl
@[scoped simp ↓] theorem k_gt:wp (gtB (.int i) (.int j)) Q=Q (.bl (decide (j < i))):=propext Iff.rfl
@[scoped simp ↓] theorem k_ge:wp (geB (.int i) (.int j)) Q=Q (.bl (decide (j≤i))):=propext Iff.rfl
@[scoped simp ↓] theorem e_ii:wp (eqF (.int i) (.int j)) B=B (i == j):=propext Iff.rfl
@[scoped simp ↓] theorem e_ni:wp (eqF .non (.int i)) B=B false:=propext Iff.rfl
@[scoped simp ↓] theorem d7a (v:FV):wp (ixF v (.int i)) Q↔wp (a3v v) fun xs=>wp (atF xs i) Q:=by
 show wp ((a3v v).bind _) Q↔_; rw [a1f]
@[scoped simp ↓] theorem f_min:wp (b5l (.int i) (.int j)) Q=Q (.int (if j < i then j else i)):=propext Iff.rfl
@[scoped simp ↓] theorem f_max:wp (b8l (.int i) (.int j)) Q=Q (.int (if j > i then j else i)):=propext Iff.rfl
@[scoped simp ↓] theorem f_not (b:Bool):wp (d6t (.bl b)) Q=Q (.bl (!b)):=propext Iff.rfl
@[scoped simp ↓] theorem f_len (v:FV):wp (a8h v) Q↔wp (a3v v) fun xs=>Q (.int xs.length):=a2g _ _ _
@[scoped simp ↓] theorem f_abs:wp (d3m (.int i)) Q=Q (.int (if i < 0 then -i else i)):=propext Iff.rfl
@[scoped simp ↓] theorem f_intb (b:Bool):wp (b3p (.bl b)) Q=Q (.int (if b then 1 else 0)):=propext Iff.rfl
@[scoped simp ↓] theorem f_sum (v:FV):wp (c9p v) Q↔wp (a2a v) fun xs=>wp (c9c xs) fun n=>Q (.int n):=by
 show wp ((a2a v).bind _) Q↔_; rw [a1f]; simp only [a2g]
@[scoped simp ↓] theorem f_all (v:FV):wp (d4r v) Q↔wp (a2a v) fun xs=>wp (a5b xs) fun bs=>Q (.bl (bs.all id)):=by
 show wp ((a2a v).bind _) Q↔_; rw [a1f]; simp only [a2g]
@[scoped simp ↓] theorem f_any (v:FV):wp (c9f v) Q↔wp (a2a v) fun xs=>wp (a5b xs) fun bs=>Q (.bl (bs.any id)):=by
 show wp ((a2a v).bind _) Q↔_; rw [a1f]; simp only [a2g]
@[scoped simp ↓] theorem f_minI (v:FV):wp (c2t v) Q↔wp (a2a v) fun xs=>wp (d3u xs) Q:=a1f _ _ _
@[scoped simp ↓] theorem d9m (v:FV):wp (a2x v) Q↔wp (a3v v) fun xs=>Q (.tup xs):=a2g _ _ _
@[scoped simp ↓] theorem f_list (v:FV):wp (a6z v) Q↔wp (a3v v) fun xs=>Q (.lst xs):=a2g _ _ _
@[scoped simp ↓] theorem f_isi (t:Ty) (v:FV):wp (d2b t v) Q↔wp (a7d v t) fun b=>Q (.bl b):=a2g _ _ _
@[scoped simp ↓] theorem y_non (t:Ty):wp (a7d .non t) B=B false:=propext Iff.rfl
@[scoped simp ↓] theorem y_bl (b:Bool) (t:Ty):wp (a7d (.bl b) t) B=B (t == .int || t == .bool):=propext Iff.rfl
@[scoped simp ↓] theorem y_int (t:Ty):wp (a7d (.int i) t) B=B (t == .int):=propext Iff.rfl
@[scoped simp ↓] theorem y_str (b:String) (t:Ty):wp (a7d (.str b) t) B=B (t == .str):=propext Iff.rfl
@[scoped simp ↓] theorem y_tup (b:List FV) (t:Ty):wp (a7d (.tup b) t) B=B (t == .tuple):=propext Iff.rfl
@[scoped simp ↓] theorem y_lst (b:List FV) (t:Ty):wp (a7d (.lst b) t) B=B (t == .list):=propext Iff.rfl
@[scoped simp ↓] theorem iN_n:wp (a2l .non) Q=Q (.bl true):=propext Iff.rfl
@[scoped simp ↓] theorem iN_i:wp (a2l (.int i)) Q=Q (.bl false):=propext Iff.rfl
@[scoped simp ↓] theorem nN_n:wp (a0n .non) Q=Q (.bl false):=propext Iff.rfl
@[scoped simp ↓] theorem nN_b (b:Bool):wp (a0n (.bl b)) Q=Q (.bl true):=propext Iff.rfl
@[scoped simp ↓] theorem nN_i:wp (a0n (.int i)) Q=Q (.bl true):=propext Iff.rfl
@[scoped simp ↓] theorem nN_t (xs:List FV):wp (a0n (.tup xs)) Q=Q (.bl true):=propext Iff.rfl
@[scoped simp ↓] theorem nN_l (xs:List FV):wp (a0n (.lst xs)) Q=Q (.bl true):=propext Iff.rfl
@[scoped simp ↓] theorem nB_b (b c:Bool):wp (a5w c (.bl b)) Q=Q (.bl (b != c)):=propext Iff.rfl
@[scoped simp ↓] theorem m_app (xs:List FV) (v:FV):wp (d3l (.lst xs) v) Q↔xs.length < big∧Q (.lst (xs++[v])):=a3h _ _ _
@[scoped simp ↓] theorem m_ext (xs ys:List FV):wp (d9n (.lst xs) (.lst ys)) Q↔xs.length + ys.length≤big∧Q (.lst (xs++ys)):=a3h _ _ _
@[scoped simp ↓] theorem s_t (xs:List FV) (lo hi:Option Int):wp (a5v (.tup xs) lo hi) Q=Q (.tup (b2f xs lo hi)):=propext Iff.rfl
@[scoped simp ↓] theorem s_l (xs:List FV) (lo hi:Option Int):wp (a5v (.lst xs) lo hi) Q=Q (.lst (b2f xs lo hi)):=propext Iff.rfl
@[scoped simp ↓] theorem st_l (xs:List FV) (v:FV):wp (d5j (.lst xs) (.int j) v) Q↔wp (ixN xs.length j) fun p=>Q (.lst (xs.set p v)):=a2g _ _ _
end
theorem a2d {xs:List FV} {i:Int} {n:Nat} {v:FV} {Q:FV→Prop} (h:i=n) (hv:xs[n]?=some v):wp (atF xs i) Q↔Q v:=by
 subst h
 have:=(List.getElem?_eq_some_iff.mp hv).1
 simp only [atF,ixN,Int.natCast_nonneg,if_true,Int.ofNat_lt,this,Option.bind_some,Int.toNat_natCast,hv,a5g]
@[scoped simp ↓] theorem at_0 (x:FV) (r:List FV) (Q:FV→Prop):wp (atF (x :: r) 0) Q↔Q x:=a2d (n:=0) rfl rfl
@[scoped simp ↓] theorem at_1 (x y:FV) (r:List FV) (Q:FV→Prop):wp (atF (x :: y :: r) 1) Q↔Q y:=a2d (n:=1) rfl rfl
@[scoped simp ↓] theorem at_2 (x y z:FV) (r:List FV) (Q:FV→Prop):wp (atF (x :: y :: z :: r) 2) Q↔Q z:=a2d (n:=2) rfl rfl
theorem b9a {n:Nat} {i:Int} {j:Nat} {Q:Nat→Prop} (h:i=j) (hj:j < n):wp (ixN n i) Q↔Q j:=by
 subst h; simp [ixN,hj]
theorem c5k {xs:List FV} {u:Int} {Q:FV→Prop} (h0:0≤u) (h1:u < xs.length) (h:∀ x∈xs,Q x):wp (atF xs u) Q:=by
 have hu:u.toNat < xs.length:=by lia
 rw [a2d (show u=u.toNat by lia) (List.getElem?_eq_getElem hu)]
 exact h _ (List.getElem_mem hu)
theorem a3n {α:Type} (p:α→Bool):∀ xs:List α,a5b (xs.map fun x=>.bl (p x))=some (xs.map p)
 | []=>rfl
 | x :: r=>by simp only [List.map_cons,a5b,a3n p r,Option.map_some]
theorem b0b:∀ ns:List Int,a0o (ns.map .int)=some ns
 | []=>rfl
 | x :: r=>by simp only [List.map_cons,a0o,b0b r,Option.map_some]
@[scoped simp] theorem ty_01:(Ty.int == Ty.bool)=false:=by decide
@[scoped simp] theorem ty_02:(Ty.int == Ty.str)=false:=by decide
@[scoped simp] theorem ty_03:(Ty.int == Ty.list)=false:=by decide
@[scoped simp] theorem ty_04:(Ty.int == Ty.tuple)=false:=by decide
@[scoped simp] theorem ty_10:(Ty.bool == Ty.int)=false:=by decide
@[scoped simp] theorem ty_40:(Ty.tuple == Ty.int)=false:=by decide
@[scoped simp] theorem ty_41:(Ty.tuple == Ty.bool)=false:=by decide
@[scoped simp] theorem ty_42:(Ty.tuple == Ty.str)=false:=by decide
@[scoped simp] theorem ty_43:(Ty.tuple == Ty.list)=false:=by decide
theorem a0l {tb:List FD} {d f:Nat} {args:List FV} {fd:FD} {Q:FV×FV→Prop} (h:tb[f]?=some fd) (hl:args.length=fd.np)
  (H:fd.body (callW tb d) (args.map some++Γj (fd.ns - fd.np) none) (c1e fd.io fd.fr Q)):callW tb (d + 1) f args Q:=by
 show (match tb[f]? with
  | none=>False
  | some fd=>args.length=fd.np∧fd.body (callW tb d) (args.map some++Γj (fd.ns - fd.np) none) (c1e fd.io fd.fr Q))
 rw [h]; exact ⟨hl,H⟩
theorem b0i {tb:List FD} {d f:Nat} {args:List FV} {fd:FD} {Q:FV×FV→Prop} (h:tb[f]?=some fd) (hl:args.length=fd.np) :
  callW tb (d + 1) f args Q↔fd.body (callW tb d) (args.map some++Γj (fd.ns - fd.np) none) (c1e fd.io fd.fr Q):=by
 show (match tb[f]? with
  | none=>False
  | some fd=>args.length=fd.np∧fd.body (callW tb d) (args.map some++Γj (fd.ns - fd.np) none) (c1e fd.io fd.fr Q))↔_
 rw [h]; exact ⟨fun z=>z.2,fun z=>⟨hl,z⟩⟩
theorem a3f {α:Type} {tg:Tg} {b:SW} {f:α→FV} {I:List α→a0d→Prop} {Q:FFl→a0d→Prop} (all:List α) :
  ∀ (rest done:List α) (L:a0d),all=done++rest→I done L →
  (∀ d x r L (K:a0d→Prop),all=d++x :: r→I d L→(∀ L',I (d++[x]) L'→K L')→gW tg (f x) L fun L1=>b L1 (b2h K Q)) →
  (∀ L,I all L→Q .next L)→c8f tg b (rest.map f) L Q
 | [],done,L,e,h,_,E=>by
  rw [List.append_nil] at e
  exact E L (e ▸ h)
 | x :: rest,done,L,e,h,B,E=>B done x rest L _ e h fun L' h'=>a3f all rest (done++[x]) L' (by simp [e]) h' B E
theorem a1h {tg:Tg} {b:SW} {I:Nat→a0d→Prop} {Q:FFl→a0d→Prop}:∀ (n i:Nat) (L:a0d),I i L →
  (∀ j L (K:a0d→Prop),i≤j→j < i + n→I j L→(∀ L',I (j + 1) L'→K L')→gW tg (.int (j:Int)) L fun L1=>b L1 (b2h K Q)) →
  (∀ L,I (i + n) L→Q .next L)→c8f tg b (upF (i:Int) n) L Q
 | 0,i,L,h,_,E=>E L h
 | n + 1,i,L,h,B,E=>B i L _ (Γi _) (by lia) h fun L' h'=>by
  have:=a1h n (i + 1) L' h' (fun j L K hj hj'=>B j L K (by lia) (by lia)) (fun L h=>E L (by rw [show i + (n + 1)=i + 1 + n by lia]; exact h))
  simpa using this
theorem while_by {c:BW} {b:SW} {I:Nat→a0d→Prop} {Q:FFl→a0d→Prop} (B:∀ m L (K:a0d→Prop),I m L→(∀ m' L',m' < m→I m' L'→K L')→c L fun t L1=>if t=true then b L1 (b2h K Q) else Q .next L1) {m:Nat} {L:a0d} (h:I m L):c9d c b L Q:=by
 have go:∀ n m L,m < n→I m L→c9a c b n L Q:=by
  intro n
  induction n with
  | zero=>intro m L hm; lia
  | succ n ih=>intro m L hm h; exact B m L _ h fun m' L' h1 h2=>ih m' L' (by lia) h2
 exact ⟨m + 1,go _ m L (Nat.lt_succ_self _) h⟩
theorem a5a {α:Type} {tg:Tg} {n m:Nat} {t:BW} {e:EW} {f:α→FV} {I:List α→List FV→a0d→Prop} {Q:List FV→a0d→Prop} (all:List α) :
  ∀ (rest done:List α) (acc:List FV) (L:a0d),all=done++rest→I done acc L →
  (∀ d x r acc L (K:List FV→a0d→Prop),all=d++x :: r→I d acc L→(∀ acc' L',I (d++[x]) acc' L'→K acc' L')→gW tg (f x) (L++Γj m none) fun L1=>t L1 fun b L2=>if b=true then e L2 fun v L3=>K (acc++[v]) (L3.take n) else K acc (L2.take n)) →
  (∀ ys L,I all ys L→Q ys L)→a5s n m tg t e (rest.map f) acc L Q
 | [],done,acc,L,e,h,_,E=>by
  rw [List.append_nil] at e
  exact E acc L (e ▸ h)
 | x :: rest,done,acc,L,e,h,B,E=>B done x rest acc L (fun acc' L'=>a5s _ _ _ _ _ (rest.map f) acc' L' Q) e h fun acc' L' h'=>a5a all rest (done++[x]) acc' L' (by simp [e]) h' B E
theorem a1a {α:Type} {tg:Tg} {n m:Nat} {e:EW} {f:α→FV} {g:α→FV} {Q:List FV→a0d→Prop} {L:a0d}:∀ (xs:List α) (acc:List FV),
  (∀ x∈xs,∀ K:FV→a0d→Prop,K (g x) L→gW tg (f x) (L++Γj m none) fun L1=>e L1 fun v L3=>K v (L3.take n))→Q (acc++xs.map g) L→a5s n m tg a2b e (xs.map f) acc L Q
 | [],acc,_,E=>by
  show Q acc L
  simpa using E
 | x :: xs,acc,B,E=>B x Γn (fun v L'=>a5s n m tg a2b e (xs.map f) (acc++[v]) L' Q) (a1a xs (acc++[g x]) (fun y hy=>B y (Γh _ hy)) (by simpa using E))
theorem a1w {α:Type} {tg:Tg} {n m:Nat} {t:BW} {e:EW} {f:α→FV} {g:α→FV} {p:α→Bool} {Q:List FV→a0d→Prop} {L:a0d}:∀ (xs:List α) (acc:List FV),
  (∀ x∈xs,∀ (K:FV→a0d→Prop) (N:a0d→Prop),(p x=true→K (g x) L)→(p x=false→N L)→gW tg (f x) (L++Γj m none) fun L1=>t L1 fun b L2=>if b=true then e L2 fun v L3=>K v (L3.take n) else N (L2.take n))→Q (acc++(xs.filter p).map g) L→a5s n m tg t e (xs.map f) acc L Q
 | [],acc,_,E=>by
  show Q acc L
  simpa using E
 | x :: xs,acc,B,E=>B x Γn (fun v L'=>a5s n m tg t e (xs.map f) (acc++[v]) L' Q) (fun L'=>a5s n m tg t e (xs.map f) acc L' Q)
   (fun hp=>a1w xs (acc++[g x]) (fun y hy=>B y (Γh _ hy)) (by rw [List.filter_cons_of_pos hp] at E; simpa using E))
   (fun hp=>a1w xs acc (fun y hy=>B y (Γh _ hy)) (by rw [List.filter_cons_of_neg (by simp [hp])] at E; exact E))
theorem c4e:∀ n lo:Nat,upF (lo:Int) n=(List.range' lo n).map fun i:Nat=>FV.int i
 | 0,lo=>rfl
 | n + 1,lo=>by simp only [upF,List.range'_succ,List.map_cons]; rw [← c4e n (lo + 1)]; simp
theorem a3c (n:Nat):upF 0 n=(List.range n).map fun i:Nat=>FV.int i:=by
 have:=c4e n 0
 rw [List.range_eq_range']; exact_mod_cast this
theorem ite2 {c A B:Prop} [Decidable c] (h1:c→A) (h2:¬ c→B):if c then A else B:=by
 by_cases h:c
 ·rw [if_pos h]; exact h1 h
 ·rw [if_neg h]; exact h2 h
end Kq
end
set_option maxHeartbeats 4000000
section
namespace Kq
open PySem PySem.Spec PyProof.Rows L2
section
variable {X:Cx} {C:CC} {n:Nat} {sp:Γd→Nat→Sp} {a:Expr} {ea:EW} {p p2 p3 p4 pos:Pos}
end
section
variable {X:Cx} {C:CC} {n:Nat} {sp:Γd→Nat→Sp} {fr:Bool} {a b:Expr} {ea eb:EW} {pos px py pt p2:Pos} {i j kt k2:Nat} {nx ny:Str}
end
section
variable {X:Cx} {tg:Expr}
end
noncomputable def c8m (hi:Int):Nat→List FV
 | 0=>[]
 | n + 1=>.int hi :: c8m (hi - 1) n
noncomputable def iDown (a b:EW):AW:=fun L Q=>a L fun x L1=>b L1 fun y L2=>wp (a5f x) fun i=>wp (a5f y) fun j=>(a1v i && a1v j)=true∧Q (c8m i (i - j).toNat) L2
section
variable {X:Cx} {C:CC} {n:Nat} {sp:Γd→Nat→Sp} {a b tg:Expr} {ea eb:EW} {p p3 p4 pos:Pos} {kk:Nat}
variable {K:Γd} {c:Cn} {md:Md}
end
end Kq
end
section
namespace PySem
open PySem.Spec
section
variable {prog:Program} {w:World} {A:Around} {E:Value→Shared→Prop} {s:Shared}
end
end PySem
end
section
namespace Kq
open PySem PySem.Spec PyProof.Rows L2
section
variable {X:Cx} {tg:Expr}
end
noncomputable def iRevr (a:EW):AW:=fun L Q=>a L fun x L1=>wp (a5f x) fun j=>a1v j=true∧Q (c8m ((j.toNat:Int) - 1) j.toNat) L1
section
variable {P:Program} {w:World} {A:Around} {R:Result→Shared→Prop} {it S N:Addr} {fp wr:List Addr} {n:Nat} {V:Nat→Value→Prop} {St:Nat→Heap→Prop} {bt:Nat→Nat→Bool} {h0:Heap} {kw:List (Str×Value)}
end
section
variable {P:Program} {w:World} {A:Around} {E:Value→Shared→Prop} {s:Shared}
end
section
variable {P:Program} {w:World} {A:Around} {E:Value→Shared→Prop} {s:Shared}
end
noncomputable def c7m (b:Int):List Int→Int
 | []=>b
 | x :: r=>c7m (if b < x then x else b) r
noncomputable def mostD (d:Int):List Int→Int
 | []=>d
 | n :: r=>c7m n r
section
variable {X:Cx}
variable {x:Str} {p pos kp:Pos} {e v:Expr} {t:TA} {tv:TE} {id:String} {kn:Str} {r:V→V→Hp→VK→Prop}
end
section
variable {X:Cx} {C:CC} {n:Nat} {sp:Γd→Nat→Sp} {a b:Expr} {ea eb:EW} {pos p kp:Pos}
end
section
variable (Q:FV→Prop)
end
section
variable {P:Program} {w:World} {A:Around} {E:Value→Shared→Prop}
end
section
variable {X:Cx} {pos:Pos}
end
noncomputable def sUnp (e:EW) (is:List Nat):SW:=fun L Q=>e L fun x L1=>wp (a8f x) fun xs=>wp (a9f L1 is xs) fun L2=>Q .next L2
section
variable {X:Cx} {C:CC} {n:Nat} {sp:Γd→Nat→Sp} {fr:Bool} {a:Expr} {e:EW} {pos p:Pos} {is:List Nat} {k:Nat}
end
section
variable {prog:Program} {w:World} {A:Around} {E:Value→Shared→Prop} {s:Shared}
end
section
variable {X:Cx} {S H:Hp} {Q:VK}
noncomputable def tmulF (v w:FV):Option FV:=(a8y v).bind fun xs=>(a5f w).bind fun k=>if -(2 ^ 63)≤k∧k < 2 ^ 63∧xs.length * k.toNat≤big then some (.tup (Γj k.toNat xs).flatten) else none
end
section
variable {X:Cx} {C:CC} {a b:Expr} {ea eb:EW} {pos:Pos}
end
end Kq
end
section
namespace PySem
section
variable {prog:Program} {w:World} {A:Around} {E:Value→Shared→Prop} {s:Shared}
end
end PySem
end
section
namespace Kq
open PySem PySem.Spec PyProof.Rows L2
section
variable {X:Cx}
variable {a b:Expr} {ta:TA} {p p2 pos pos2:Pos} {T:Str} {Tn:String} {ho:List V→HO}
end
noncomputable def rngF (c:List FV→FV) (v:FV):Option FV:=(a5f v).bind fun j=>if a1v j=true∧j.toNat≤big then some (c (upF 0 j.toNat)) else none
noncomputable def rng2F (c:List FV→FV) (v w:FV):Option FV:=(a5f v).bind fun i=>(a5f w).bind fun j=>if (a1v i && a1v j)=true∧(j - i).toNat≤big then some (c (upF i (j - i).toNat)) else none
section
variable {X:Cx} {C:CC} {n:Nat} {sp:Γd→Nat→Sp} {a b:Expr} {ea eb:EW} {pos p p2 pos2:Pos}
end
end Kq
end
section
namespace PySem
noncomputable def e1h (A:Around) (s:Shared) (x y:Value) (b:Bool):Prop :=
 ∀ (prog:Program) (w:World) (E:Value→Shared→Prop) (Q:Value→Shared→Prop),Q (.bool b) s→wpAny (model prog w) A (richCompare .Lt x y) Q E s
inductive LexAt (A:Around) (s:Shared):List Value→List Value→Bool→Prop
 | nn:LexAt A s [] [] false
 | nc {y ys}:LexAt A s [] (y :: ys) true
 | cn {x xs}:LexAt A s (x :: xs) [] false
 | eq {x y xs ys r}:SeqAt.EqAt A s x y true→LexAt A s xs ys r→LexAt A s (x :: xs) (y :: ys) r
 | ne {x y xs ys r}:SeqAt.EqAt A s x y false→e1h A s x y r→LexAt A s (x :: xs) (y :: ys) r
section
open PySem.SeqAt
open PySem.AutoSeq1 (wpAny_loadPart')
open PySem.MeetsSeq PySem.MeetsSeq2 PySem.MeetsSeq3
theorem b0r (l b:Addr) (items items2:Array Value) (n n2:Nat) (dd dd2:Option Addr) (sl sl2:Array (Option Value)) :
  Meets (Builtin.«tuple.__lt__» ⟨[.ref l,.ref b],[]⟩)
   (fun A R s=>s.heap.get? l=some { cls:=.type "tuple",dict:=dd,data:=.seq items n,slots:=sl }∧s.heap.get? b=some { cls:=.type "tuple",dict:=dd2,data:=.seq items2 n2,slots:=sl2 } ∧
    ∃ r,LexAt A.in1 s items.toList items2.toList r∧R (.ok (.ret (.bool r))) s) :=
 .of_wp fun prog w A R s h=>by
  obtain ⟨hp,g,d,tk,os⟩:=s; obtain ⟨hl,hb,r,hlex,h⟩:=h
  have f2:=AutoSeq1.sub_tuple_tuple
  wp_walk using wpAny_loadPart' hl,wpAny_loadPart' hb,wpAny_forIn_list _ (fun rest b s'=>b.1=none∧s'=⟨hp,g,d,tk,os⟩∧∃ (vs ws:List Value),rest=vs.zip ws ∧
   LexAt A.in1 ⟨hp,g,d,tk,os⟩ vs ws r∧vs.length + items2.size=ws.length + items.size) _
  case turn =>
   rintro ⟨y,x⟩ rest b s' ⟨hb',rfl,vs,ws,hz,hlx,hlen⟩
   cases hlx with
   | nn=>cases hz
   | nc=>cases hz
   | cn=>rw [List.zip_nil_right] at hz; cases hz
   | eq he hr =>
    rw [List.zip_cons_cons] at hz
    injection hz with hyx hrest
    injection hyx with hy hx
    subst hy hx
    simp only [List.length_cons] at hlen
    refine Γa (he prog w _ _ ?_)
    wp_walk
    exact ⟨rfl,rfl,_,_,hrest,hr,by lia⟩
   | ne he hr =>
    rw [List.zip_cons_cons] at hz
    injection hz with hyx hrest
    injection hyx with hy hx
    subst hy hx
    refine Γa (he prog w _ _ ?_)
    have hri:=hr prog w
    wp_walk using hri
    exact ⟨_,rfl,by simpa using h⟩
  case fin =>
   rintro ⟨b1,b2⟩ s' ⟨hb',rfl,vs,ws,hz,hlx,hlen⟩
   simp only at hb'
   subst hb'
   have hv:r=decide (items.size < items2.size):=by
    cases hlx with
    | nn=>simp only [List.length_nil] at hlen; exact (decide_eq_false (by lia)).symm
    | nc=>simp only [List.length_nil,List.length_cons] at hlen; exact (decide_eq_true (by lia)).symm
    | cn=>simp only [List.length_nil,List.length_cons] at hlen; exact (decide_eq_false (by lia)).symm
    | eq=>rw [List.zip_cons_cons] at hz; cases hz
    | ne=>rw [List.zip_cons_cons] at hz; cases hz
   rw [hv] at h
   wp_walk
   exact ⟨_,rfl,by simpa [Builtin.Tuple.tupleCompareSizes] using h⟩
  case h =>
   exact ⟨rfl,rfl,items.toList,items2.toList,rfl,hlex,by simp; lia⟩
end
theorem c2u {A:Around} {s:Shared} {l b:Addr} {o o2:Obj} {items items2:Array Value} {n n2:Nat} {r:Bool} (h1:s.heap.get? l=some o) (h2:o.cls=.type "tuple") (h3:o.data=.seq items n) (g1:s.heap.get? b=some o2) (g2:o2.cls=.type "tuple") (g3:o2.data=.seq items2 n2)
  (hlex:LexAt A.in1 s items.toList items2.toList r) (hu:A.units < cLine):e1h A s (.ref l) (.ref b) r:=by
 intro prog w E Q h
 obtain ⟨cls,dd,data,sl⟩:=o
 obtain ⟨cls2,dd2,data2,sl2⟩:=o2
 simp only at h2 h3 g2 g3
 subst h2 h3 g2 g3
 exact richCompare_meets_room (op:=.Lt) ⟨_,h1,rfl⟩ ⟨_,g1,rfl⟩ PySem.F.slot_tuple_lt PySem.F.entry_tuple_lt (PySem.F.args_tuple_lt_2 _ _) (b0r l b items items2 n n2 dd dd2 sl sl2)
  ⟨h1,g1,r,hlex,show Value.bool r≠Value.notImplemented∧Q (.bool r) s from ⟨(fun x=>nomatch x),h⟩⟩ hu
end PySem
namespace Kq
open PySem PySem.Spec PyProof.Rows L2
noncomputable def d5h (a b:String):Bool:=decide ((Γe a).cps.toList < (Γe b).cps.toList)
mutual
noncomputable def ltD:D→D→Option Bool
 | .int a,.int b=>some (decide (a < b))
 | .str a,.str b=>some (d5h a b)
 | .tup a,.tup b=>d3v a b
 | _,_=>none
noncomputable def d3v:List D→List D→Option Bool
 | [],[]=>some false
 | [],_ :: _=>some true
 | _ :: _,[]=>some false
 | a :: r,b :: q=>if D.eqv a b=true then d3v r q else ltD a b
end
mutual
theorem d1r:∀ (x y:D) (A:Around) (s:Shared) (v u:Value) (as bs:List Addr) (r:Bool),Reads s.heap v (dPy x) as→Reads s.heap u (dPy y) bs→ltD x y=some r→A.units + (dPy x).depth < cLine→e1h A s v u r
 | .int a,y,A,s,v,u,as,bs,r,h1,h2,e,hu=>by
  cases y with
  | int b =>
   cases e
   simp only [dPy] at h1 h2
   cases h1; cases h2
   exact fun prog w E Q h=>PyProof.Rows.lt_int h
  | _=>cases e
 | .str a,y,A,s,v,u,as,bs,r,h1,h2,e,hu=>by
  cases y with
  | str b =>
   cases e
   simp only [dPy] at h1 h2
   cases h1; cases h2
   exact fun prog w E Q h=>PySem.P.lt_str h
  | _=>cases e
 | .tup xs,y,A,s,v,u,as,bs,r,h1,h2,e,hu=>by
  cases y with
  | tup ys =>
   simp only [dPy] at h1 h2
   simp only [dPy,PyData.depth] at hu
   cases h1 with
   | tuple a1 a2 a3 a4 =>
    cases h2 with
    | tuple b1 b2 b3 b4 =>
     exact c2u a1 a2 a3 b1 b2 b3 (b8s xs ys A.in1 s _ _ _ _ r a4 b4 e (by show A.units + 1 + _ < _; lia)) (by lia)
  | _=>cases e
 | .non,y,A,s,v,u,as,bs,r,h1,h2,e,hu=>by cases y <;> cases e
 | .bl _,y,A,s,v,u,as,bs,r,h1,h2,e,hu=>by cases y <;> cases e
 | .lst _,y,A,s,v,u,as,bs,r,h1,h2,e,hu=>by cases y <;> cases e
theorem b8s:∀ (xs ys:List D) (A:Around) (s:Shared) (vs us:List Value) (as bs:List Addr) (r:Bool),ReadsAll s.heap vs (a4z xs) as→ReadsAll s.heap us (a4z ys) bs→d3v xs ys=some r→A.units + PyData.depthAll (a4z xs) < cLine→LexAt A s vs us r
 | [],[],A,s,vs,us,as,bs,r,h1,h2,e,hu=>by cases h1; cases h2; cases e; exact .nn
 | [],y :: ys,A,s,vs,us,as,bs,r,h1,h2,e,hu=>by cases h1; cases h2; cases e; exact .nc
 | x :: xs,[],A,s,vs,us,as,bs,r,h1,h2,e,hu=>by cases h1; cases h2; cases e; exact .cn
 | x :: xs,y :: ys,A,s,vs,us,as,bs,r,h1,h2,e,hu=>by
  simp only [a4z] at h1 h2
  simp only [a4z,PyData.depthAll] at hu
  cases h1 with
  | cons a1 a2 =>
   cases h2 with
   | cons b1 b2 =>
    have he:=PySem.SeqAt.eqAt_reads _ _ A s _ _ _ _ a1 b1 (a7m x) (a7m y) (by lia)
    rw [c0l] at he
    simp only [d3v] at e
    split at e
    ·rename_i hq
     rw [hq] at he
     exact .eq he (b8s xs ys A s _ _ _ _ r a2 b2 e (by lia))
    ·rename_i hq
     have hq:D.eqv x y=false:=by simpa using hq
     rw [hq] at he
     exact .ne he (d1r x y A s _ _ _ _ r a1 b1 e (by lia))
end
end Kq
end
section
namespace Kq
open PySem PySem.Spec PyProof.Rows L2
noncomputable def btD (ds:List D) (i j:Nat):Bool:=(ltD (ds.getD i .non) (ds.getD j .non)).getD false
open Classical in
noncomputable def minDF (v:FV):Option FV:=(a2a v).bind fun xs=>(b6l (fD a1e) xs).bind fun ds =>
 if 0 < ds.length∧(∀ x∈ds,∀ y∈ds,(ltD x y).isSome=true)∧∀ ps,xs[argBest (btD ds) (ds.length - 1)]?≠some (.lst ps) then xs[argBest (btD ds) (ds.length - 1)]? else none
section
variable {X:Cx}
end
section
variable {X:Cx} {C:CC} {n:Nat} {sp:Γd→Nat→Sp} {a:Expr} {ea:EW} {pos p:Pos}
end
noncomputable def a2o {κ α:Type} [DecidableEq κ] (ks:List κ) (vs:List α) (k:κ) (v:α):List κ×List α :=
 if k∈ks then (ks,List.zipWith (fun k' v'=>if k'=k then v else v') ks vs) else (ks++[k],vs++[v])
noncomputable def a2z {κ α:Type} [DecidableEq κ]:List κ→List α→κ→Option α
 | k' :: ks,v :: vs,k=>if k'=k then some v else a2z ks vs k
 | _,_,_=>none
theorem b9l {a b:List Int} (h:a.map (Sum.inl:Int→Int ⊕ Str)=b.map Sum.inl):a=b:=by
 induction a generalizing b with
 | nil=>cases b with | nil=>rfl | cons=>cases h
 | cons x r ih=>cases b with
  | nil=>cases h
  | cons y q =>
   simp only [List.map_cons,List.cons.injEq,Sum.inl.injEq] at h
   rw [h.1,ih h.2]
theorem a7g:∀ (ks:List (List Int)) (us:List V) (k:List Int),b2e ((a0y ks).zip us) (k.map Sum.inl)=a2z ks us k
 | [],us,k=>by cases us <;> rfl
 | k' :: ks,[],k=>rfl
 | k' :: ks,u :: us,k=>by
  show b2e ((k'.map Sum.inl,u) :: (a0y ks).zip us) (k.map Sum.inl)=if k'=k then some u else a2z ks us k
  by_cases e:k'=k
  ·subst e; rw [a4g rfl,if_pos rfl]
  ·rw [a4h fun z=>e (b9l z),if_neg e]; exact a7g ks us k
theorem a2f {κ α:Type} [DecidableEq κ]:∀ {ks:List κ} {vs:List α} (k:κ),ks.length=vs.length→((a2z ks vs k).isSome=true↔k∈ks)
 | [],vs,k,h=>by simp [a2z]
 | k' :: ks,[],k,h=>by simp at h
 | k' :: ks,v :: vs,k,h=>by
  simp only [a2z]
  by_cases e:k'=k
  ·simp [e]
  ·simp only [e,if_false,List.mem_cons,Ne.symm e,false_or]
   rw [a2f k (by simpa using h)]
theorem b2q (ks:List (List Int)) (us:List V) (k:List Int) (u:V) (hl:ks.length=us.length):a5e ((a0y ks).zip us) (k.map Sum.inl) u=(a0y (a2o ks us k u).1).zip (a2o ks us k u).2:=by
 have hany:(((a0y ks).zip us).any fun kv=>decide (kv.1=k.map Sum.inl))=true↔k∈ks:=by
  rw [a6b,a7g,a2f k hl]
 unfold a5e a2o
 by_cases e:k∈ks
 ·rw [if_pos (hany.mpr e),if_pos e]
  clear e hany
  induction ks generalizing us with
  | nil=>cases us <;> rfl
  | cons k' ks ih=>cases us with
   | nil=>rfl
   | cons u' us =>
    have:=ih us (by simpa using hl)
    show (if k'.map Sum.inl=k.map Sum.inl then (k'.map Sum.inl,u) else (k'.map Sum.inl,u')) :: ((a0y ks).zip us).map _=(k'.map Sum.inl,if k'=k then u else u') :: (a0y ks).zip _
    rw [this]
    congr 1
    by_cases e:k'=k
    ·subst e; simp
    ·rw [if_neg fun z=>e (b9l z),if_neg e]
 ·rw [if_neg fun z=>e (hany.mp z),if_neg e]
  show _=(a0y (ks++[k])).zip (us++[u])
  have:a0y (ks++[k])=a0y ks++[k.map Sum.inl]:=by simp [a0y]
  rw [this,List.zip_append (by simpa [a0y] using hl)]; rfl
theorem a4k {κ α:Type} [DecidableEq κ] (ks:List κ) (vs:List α) (k:κ) (v:α) (h:ks.length=vs.length):(a2o ks vs k v).1.length=(a2o ks vs k v).2.length∧(a2o ks vs k v).1.length≤ks.length + 1:=by
 unfold a2o
 split
 ·simp [h]
 ·simp [h]
section
variable {K:Γd} {S H:Hp}
theorem b7r {κ:Type} [DecidableEq κ] {k:κ} {v:FV} {u:V} (r2:RV K S v u):∀ {ks:List κ} {vs:List FV} {us:List V},RVs K S vs us→RVs K S (List.zipWith (fun k' v'=>if k'=k then v else v') ks vs) (List.zipWith (fun k' v'=>if k'=k then u else v') ks us)
 | [],vs,us,_=>rfl
 | k' :: ks,[],us,r=>by cases (show us=[] from r); rfl
 | k' :: ks,p :: vs,us,⟨x,q,e,h1,h2⟩=>by
  subst e
  refine ⟨_,_,rfl,?_,b7r r2 h2⟩
  by_cases e:k'=k
  ·simp only [e,if_true]; exact r2
  ·simp only [e,if_false]; exact h1
theorem a6g {κ:Type} [DecidableEq κ] {ks:List κ} {vs:List FV} {us:List V} {k:κ} {v:FV} {u:V} (r:RVs K S vs us) (r2:RV K S v u):(a2o ks vs k v).1=(a2o ks us k u).1∧RVs K S (a2o ks vs k v).2 (a2o ks us k u).2:=by
 unfold a2o
 split
 ·exact ⟨rfl,b7r r2 r⟩
 ·exact ⟨rfl,r.append (RVs.one r2)⟩
theorem a6j {κ:Type} [DecidableEq κ]:∀ {ks:List κ} {vs:List FV} {us:List V} {k:κ} {v:FV},RVs K S vs us→a2z ks vs k=some v→∃ u,a2z ks us k=some u∧RV K S v u
 | [],vs,us,k,v,r,e=>by simp [a2z] at e
 | k' :: ks,[],us,k,v,r,e=>by simp [a2z] at e
 | k' :: ks,p :: vs,us,k,v,⟨x,q,e',h1,h2⟩,e=>by
  subst e'
  simp only [a2z] at e ⊢
  by_cases e0:k'=k
  ·rw [if_pos e0] at e ⊢; cases e; exact ⟨x,rfl,h1⟩
  ·rw [if_neg e0] at e ⊢; exact a6j h2 e
theorem a8j {ps:List FV} {k:List Int} {x:V} (r:RV K S (.tup ps) x) (e:a0o ps=some k):∃ b,x=.ref b∧S b=some (.tup ((k.map (Sum.inl:Int→Int ⊕ Str)).map kV)):=by
 obtain ⟨b,xs,rfl,h1,h2⟩:=r
 refine ⟨b,rfl,?_⟩
 rw [h1,a1y h2 e,List.map_map]; rfl
variable {c:Cn} {md:Md} {L:a0d} {σ:L2.St}
theorem c7k {q:Addr} {ks:List (List Int)} {vs:List FV} {us:List V} (I:Iv K c md L σ S H) (h1:S q=none) (h2:H q=some (.dT ((a0y ks).zip us))) (hl:ks.length=vs.length) (h3:RVs K S vs us) (fr:b0j c md L σ q):∃ u,H q=some u∧Iv K c md L σ (upd S q u) H∧RV K (upd S q u) (.dct ks vs) (.ref q):=by
 have s:=a0h (o:=.dT ((a0y ks).zip us)) h1
 refine ⟨_,h2,⟨I.len,fun i v h e=>let ⟨x,e1,r⟩:=I.imm i v h e; ⟨x,e1,r.mono s⟩,fun i v h e=>?_,I.dis,fun a u e=>?_,I.frame,I.s0.trans s,fun a u e=>?_,I.lent,I.fzs,I.fzm,I.fzp,fun p hp=>let ⟨g1,g2,g3⟩:=I.prs p hp; ⟨g1,by rw [a0e (fr.2.1 p hp)]; exact g2,g3⟩,I.ntp⟩,q,us,rfl,hl,a0f,h3.mono s⟩
 ·obtain ⟨b,e1,⟨g1,rs,zs,g2,g3,g4⟩,g5⟩:=I.own i v h e
  have hb:b≠q:=fun z=>by subst z; exact fr.2.2 i v h e e1
  exact ⟨b,e1,⟨by rw [a0e hb]; exact g1,rs,zs,g2,g3,g4.mono s⟩,g5⟩
 ·by_cases z:a=q
  ·subst z; rw [a0f] at e; cases e; exact h2
  ·rw [a0e z] at e; exact I.sub a u e
 ·by_cases z:a=q
  ·subst z; exact .inr (.inl fr.1)
  ·rw [a0e z] at e; exact I.grow a u e
end
noncomputable def a5y (n m:Nat) (tg:Tg) (t:BW) (ek ev:EW):List FV→List (List Int)→List FV→a0d→(List (List Int)→List FV→a0d→Prop)→Prop
 | [],ks,vs,L,Q=>Q ks vs L
 | x :: xs,ks,vs,L,Q=>gW tg x (L++Γj m none) fun L1=>t L1 fun b L2=>if b=true then ek L2 fun kx L3=>wp (a8y kx) fun ps=>wp (a0o ps) fun k=>ev L3 fun v L4=>a5y n m tg t ek ev xs (a2o ks vs k v).1 (a2o ks vs k v).2 (L4.take n) Q else a5y n m tg t ek ev xs ks vs (L2.take n) Q
noncomputable def b9w (n m:Nat) (it:AW) (tg:Tg) (t:BW) (ek ev:EW):EW:=fun L Q=>it L fun xs L1=>L1.length=n∧xs.length≤big∧a5y n m tg t ek ev xs [] [] L1 fun ks vs L2=>Q (.dct ks vs) L2
section
variable {K:Γd} {c:Cn} {md:Md} {L:a0d} {σ:L2.St} {S H:Hp}
theorem c0p {J : It} {xs : List FV} {n m : Nat} {tg : Tg} {t : BW} {ek ev : EW} {Q : VK} {Q1 : List (List Int) → List FV → a0d → Prop} (I : Iv K c md L σ S H) (hJ : ItR K c md J xs S) (hL : L.length = n) (hmd : md.length ≤ n) (ht : a3u md tg = true) (hg : a8z n tg = true) (hb : xs.length ≤ big) (h : a5y n m tg t ek ev xs [] [] L Q1)
    (k : ∀ acc ks vs us L' S' H', H acc = none → Q1 ks vs L' → S' acc = none → H' acc = some (.dT ((a0y ks).zip us)) → ks.length = vs.length → RVs K S' vs us → b0j c md L' σ acc → Iv K c md L' σ S' H' → Same S S' → Q (.ref acc) H') :
    ∀ acc, H acc = none → ∃ W : Nat → Nat → Hp → Prop, (∃ m, W 0 m (upd H acc (.dT []))) ∧ ∀ i j H, W i j H →
      (J.stop i H ∧ Q (.ref acc) H) ∨ (J.go i H ∧ ∀ x H', J.yld i H x H' → gT K tg x (σ ++ Γj m none) H' fun σ2 H2 => Wk (σ ++ Γj m none) σ2 ∧ lb K md t σ2 H2 fun b H3 =>
        if b = true then lv K md ek σ2 H3 fun y H4 => lv K md ev σ2 H4 fun v H5 => ∃ kvs k b, H5 acc = some (.dT kvs) ∧ y = .ref b ∧ H5 b = some (.tup (k.map kV)) ∧ kvs.length < sizeLine ∧ ∃ m', m' < j ∧ W (i + 1) m' (upd H5 acc (.dT (a5e kvs k v))) else ∃ m', m' < j ∧ W (i + 1) m' H3) := by
  intro acc hacc
  have h0 := I.h0 hacc
  have hp : ∀ p ∈ c.pr, p.1 ≠ acc := (I.fresh hacc).2.1
  have hz := I.fzp
  have hl : σ.length = n := by rw [← I.len]; exact hL
  have hbl := a1i
  let W : Nat → Nat → Hp → Prop := fun i j H1 => ∃ L S1 ks vs us, j = (xs.drop i).length ∧ Iv K { c with pr := (acc, .dT ((a0y ks).zip us)) :: c.pr } md L σ S1 H1 ∧ ks.length = vs.length ∧ RVs K S1 vs us ∧ Same S S1 ∧ L.length = n ∧ ks.length ≤ i ∧ a5y n m tg t ek ev (xs.drop i) ks vs L Q1
  have I1 : Iv K { c with pr := (acc, .dT []) :: c.pr } md L σ S (upd H acc (.dT [])) := (I.lay hacc _).prot a0f (I.sn hacc) fun j w hm hj => (I.fresh hacc).2.2 j w (fun z => by rw [hm] at z; cases z) hj
  refine ⟨W, ⟨_, L, S, [], [], [], rfl, I1, rfl, rfl, Same.refl S, hL, Γi _, by rw [List.drop_zero]; exact h⟩, ?_⟩
  rintro i j H1 ⟨L, S1, ks, vs, us, rfl, I, hkl, r, s, hL, hps, hc⟩
  have I0 := I.unprot hz
  obtain ⟨j1, j2⟩ := hJ i L σ S1 H1 I0 s
  obtain ⟨g1, g2, g3⟩ := I.prs (acc, .dT ((a0y ks).zip us)) Γn
  cases hd : xs.drop i with
  | nil =>
    left
    rw [hd] at hc
    refine ⟨j1 (List.getElem?_eq_none_iff.mpr (List.drop_eq_nil_iff.mp hd)), k acc ks vs us L S1 H1 hacc hc g2 g1 hkl r ⟨h0, hp, fun q w hm hq hs => ?_⟩ I0 s⟩
    by_cases mo : a0m md q = .own
    · exact g3 q w mo hq hs
    · have mo : a0m md q = .frz := by cases z : a0m md q with | imm => exact absurd z hm | own => exact absurd z mo | frz => rfl
      obtain ⟨b, f1⟩ := I0.fzm q w mo hq
      obtain ⟨_, f2, _⟩ := I0.fzs _ f1
      rw [hs] at f2; cases f2
      obtain ⟨ys, f3⟩ := hz _ f1
      exact hp _ f3 rfl
  | cons p rest =>
    right
    rw [hd] at hc
    have hi : xs[i]? = some p := by
      have := congrArg (·[0]?) hd
      simpa using this
    have hd' : xs.drop (i + 1) = rest := by
      have := congrArg List.tail hd
      simpa [List.tail_drop] using this
    have hix : i < xs.length := (List.getElem?_eq_some_iff.mp hi).1
    obtain ⟨go, yl⟩ := j2 p hi
    refine ⟨go, fun x H2 y => ?_⟩
    obtain ⟨S2, s2, tr, rx⟩ := yl x H2 y
    have I2 := (tr _ _ _ _ I).more m
    obtain ⟨σ2, L2, gq, q2, I2, len2, far⟩ := a8o ht I2 rx hc
    have l2 : n ≤ σ2.length := by rw [len2, List.length_append, hl]; lia
    have far' : ∀ q, q < n → σ2[q]? = σ[q]? := fun q hq => by rw [far n hg q hq, List.getElem?_append_left (by rw [hl]; exact hq)]
    refine gq _ ⟨⟨len2, fun q v hv => ?_⟩, ?_⟩
    · have hq : q < n := by
        by_cases h : q < σ.length
        · rw [← hl]; exact h
        · rw [List.getElem?_append_right (by lia), List.getElem?_replicate] at hv
          split at hv <;> cases hv
      rw [far n hg q hq]; exact hv
    · refine ⟨_, L2, S2, _, I2, q2, fun b L3 hb3 S3 H3 I3 s3 => ?_⟩
      cases b with
      | false =>
        rw [if_neg Γk] at hb3 ⊢
        exact ⟨rest.length, by simp, L3.take n, S3, ks, vs, us, by rw [hd'], I3.take hmd hl l2 far', hkl, r.mono (s2.trans s3), s.trans (s2.trans s3), by rw [List.length_take, I3.len]; lia, by lia, by rw [hd']; exact hb3⟩
      | true =>
        rw [if_pos rfl] at hb3 ⊢
        refine ⟨_, L3, S3, _, I3, hb3, fun kx L4 hk u S4 H4 r4 I4 s4 => ?_⟩
        obtain ⟨ps, e1, hk1⟩ := wpx hk
        obtain ⟨kk, e2, hk2⟩ := wpx hk1
        cases a1u e1
        obtain ⟨b, rfl, hb4⟩ := a8j r4 e2
        refine ⟨_, L4, S4, _, I4, hk2, fun v L5 hv u S5 H5 r5 I5 s5 => ?_⟩
        obtain ⟨k1, _⟩ := I5.prs (acc, .dT ((a0y ks).zip us)) Γn
        have lr := r.length
        have r' := r.mono (s2.trans (s3.trans (s4.trans s5)))
        obtain ⟨pe, pr⟩ := a6g (ks := ks) (k := kk) r' r5
        obtain ⟨pl1, pl2⟩ := a4k ks vs kk v hkl
        refine ⟨_, kk.map Sum.inl, b, k1, rfl, I5.sub _ _ (s5 _ _ hb4), by rw [List.length_zip]; have : (a0y ks).length = ks.length := by simp [a0y]
                                                                           lia, rest.length, by simp, L5.take n, S5, (a2o ks vs kk v).1, (a2o ks vs kk v).2, (a2o ks us kk u).2, by rw [hd'], ?_, pl1, pr, s.trans (s2.trans (s3.trans (s4.trans s5))), by rw [List.length_take, I5.len]; lia, by lia, by rw [hd']; exact hv⟩
        rw [b2q ks us kk u (by lia), pe]
        exact (I5.take hmd hl l2 far').regrow h0 hp hz
end
section
variable {X:Cx} {C:CC} {n:Nat} {sp:Γd→Nat→Sp} {pos:Pos} {scope:Scope} {own:List Str} {kx vx tgx iter:Expr} {ifs:List Expr} {it:AW} {tg:Tg} {t:BW} {ek ev:EW} {nn m:Nat} {md':Md}
theorem c3k (G:Good X C n sp) (h:CompOk X C n sp scope own kx tgx iter ifs nn m md' it tg t ek) (hv:∀ X',Good X' (C.sub scope own md') n sp→FE X' (C.sub scope own md') vx ev):FE X C (.DictComp kx vx [⟨tgx,iter,ifs,0⟩] scope pos) (b9w nn m it tg t ek ev):=by
 have h0:=b2 h.st; have h1:=b2 h0.1; have h2:=b2 h1.1; have h3:=b2 h2.1; have h4:=b2 h3.1; have h5:=b2 h4.1; have h6:=b2 h5.1
 obtain ⟨s1,s2⟩:=G.sub h6.1 md'
 have hu:X.A.units + 1 < cLine:=by have:=G.room.units; lia
 have blk:∀ fp D s H,PG (cxC X scope own fp D s H) tgx (gT X.K tg)∧PTs (cxC X scope own fp D s H) ifs (lb X.K md' t)∧PE (cxC X scope own fp D s H) kx (lv X.K md' ek)∧PE (cxC X scope own fp D s H) vx (lv X.K md' ev):=fun fp D s H=>⟨h.tg _ (s2 fp D s H),h.ts _ (s2 fp D s H),h.el _ (s2 fp D s H),hv _ (s2 fp D s H)⟩
 refine PE.imp (c2q (X:=X) hu G.calm s1 h.it blk (b1n (nb h0.2))) fun σ H Q ⟨c,L,S,Q0,I,hh,k⟩=>?_
 refine ⟨c,L,S,_,I,hh,fun xs L1 hx J c' S1 H1 I1 un e0 hJ s1=>?_⟩
 obtain ⟨hl,hb,hc⟩:=hx
 rw [de h5.2]
 refine c0p I1 hJ hl (de h4.2) h2.2 h1.2 hb hc fun acc ks vs us L' S' H' hn q g1 g2 g3 g4 fr I' s'=>?_
 obtain ⟨u,hu,I2,r⟩:=c7k (un _ _ _ _ I') g1 g2 g3 g4 ⟨by rw [← e0]; exact fr.1,((un _ _ _ _ I1).fresh hn).2.1,fun j w hm=>fr.2.2 j w (a6w h3.2 j hm)⟩
 exact k _ L' q _ _ H' r I2 ((s1.trans s').trans (a0h g1))
end
noncomputable def d2g (a b:FV):Option FV:=match b with
 | .dct ks _=>(a8y a).bind fun ps=>(a0o ps).bind fun k=>some (.bl (decide (k∈ks)))
 | .dci ks _=>(a5f a).bind fun k=>some (.bl (decide (k∈ks)))
 | b=>inB a b
noncomputable def c4v (a b:FV):Option FV:=match b with
 | .dct ks _=>(a8y a).bind fun ps=>(a0o ps).bind fun k=>some (.bl (!decide (k∈ks)))
 | .dci ks _=>(a5f a).bind fun k=>some (.bl (!decide (k∈ks)))
 | b=>niB a b
noncomputable def b6a (v w:FV):Option FV:=match v with
 | .dct ks vs=>(a8y w).bind fun ps=>(a0o ps).bind fun k=>a2z ks vs k
 | _=>none
section
variable {X:Cx}
theorem RH.dct {K:Γd} {S H:Hp} {ks:List (List Int)} {vs:List FV} {y:V} (hs:Same S H) (rq:RH K S H (.dct ks vs) y):∃ a us,y=.ref a∧ks.length=vs.length∧H a=some (.dT ((a0y ks).zip us))∧RVs K S vs us:=by
 rcases rq with ⟨a,us,e,hl,h1,h2⟩ | ⟨a,e,_,ps,us,e9,h1,h2⟩
 ·exact ⟨a,us,e,hl,hs _ _ h1,h2⟩
 ·obtain ⟨hl,rfl⟩:=itd e9
  exact ⟨a,us,e,hl,h1,h2⟩
theorem a6k {S H:Hp} {ks:List (List Int)} {vs:List FV} {ps:List FV} {k:List Int} {x y:V} (hs:Same S H) (rp:RH X.K S H (.tup ps) x) (rq:RH X.K S H (.dct ks vs) y) (e:a0o ps=some k):∃ a us,y=.ref a∧ks.length=us.length∧RVs X.K S vs us∧L2.DGet H a x (a2z ks us k):=by
 obtain ⟨a,us,rfl,hl,h1,h2⟩:=rq.dct hs
 obtain ⟨b,rfl,hb⟩:=a8j (rp.val rfl) e
 refine ⟨a,us,rfl,by rw [hl,h2.length],h2,?_⟩
 rw [← a7g]
 exact .t h1 (hs _ _ hb)
theorem a6i:∀ (ks:List Int) (us:List V) (k:Int),b2e ((a3x ks).zip us) (Sum.inl k)=a2z ks us k
 | [],us,k=>by cases us <;> rfl
 | k' :: ks,[],k=>rfl
 | k' :: ks,u :: us,k=>by
  show b2e ((Sum.inl k',u) :: (a3x ks).zip us) (Sum.inl k)=if k'=k then some u else a2z ks us k
  by_cases e:k'=k
  ·subst e; rw [a4g rfl,if_pos rfl]
  ·rw [a4h fun z=>e (Sum.inl.inj z),if_neg e]; exact a6i ks us k
theorem RH.dci {K:Γd} {S H:Hp} {ks:List Int} {vs:List FV} {y:V} (hs:Same S H) (rq:RH K S H (.dci ks vs) y):∃ a us,y=.ref a∧ks.length=vs.length∧H a=some (.dK ((a3x ks).zip us))∧RVs K S vs us:=by
 rcases rq with ⟨a,us,e,hl,h1,h2⟩ | ⟨a,e,_,ps,us,e9,h1,h2⟩
 ·exact ⟨a,us,e,hl,hs _ _ h1,h2⟩
 ·obtain ⟨hl,rfl⟩:=itd e9
  exact ⟨a,us,e,hl,h1,h2⟩
theorem b1t {S H:Hp} {ks:List Int} {vs:List FV} {k:Int} {y:V} (hs:Same S H) (rq:RH X.K S H (.dci ks vs) y):∃ a us,y=.ref a∧ks.length=us.length∧RVs X.K S vs us∧L2.DGet H a (.int k) (a2z ks us k):=by
 obtain ⟨a,us,rfl,hl,h1,h2⟩:=rq.dci hs
 refine ⟨a,us,rfl,by rw [hl,h2.length],h2,?_⟩
 rw [← a6i]
 exact .k (k:=Sum.inl k) h1
theorem d6c (hu:X.A.units + 64 < cLine):OpR X (compareOp .In) (Rq X.K d2g):=by
 intro pins s σ H x y v u Q I rx ry ⟨S,p,q,z,hs,rp,rq,e,k⟩
 cases q with
 | dct ks vs =>
  obtain ⟨ps,e1,e2⟩:=bnd e
  obtain ⟨kk,e3,e4⟩:=bnd e2
  cases a1u e1
  cases e4
  obtain ⟨a,us,rfl,hl,h2,g⟩:=a6k hs rp rq e3
  cases (show u=Value.ref a from ry)
  refine d_in (by lia) I g rx fun s' I'=>⟨.bl _,H,I',rfl,?_⟩
  have:(a2z ks us kk).isSome=decide (kk∈ks):=by rw [Bool.eq_iff_iff,a2f kk hl]; simp
  rw [this]
  exact k.bl
 | dci ks vs =>
  obtain ⟨kk,e1,e4⟩:=bnd e
  cases a1k e1
  cases e4
  cases rp.int
  obtain ⟨a,us,rfl,hl,h2,g⟩:=b1t (k:=kk) hs rq
  cases (show u=Value.ref a from ry)
  refine d_in (by lia) I g rx fun s' I'=>⟨.bl _,H,I',rfl,?_⟩
  have:(a2z ks us kk).isSome=decide (kk∈ks):=by rw [Bool.eq_iff_iff,a2f kk hl]; simp
  rw [this]
  exact k.bl
 | _=>exact q_in hu pins s σ H x y v u Q I rx ry ⟨S,p,_,z,hs,rp,rq,e,k⟩
theorem d0b (hu:X.A.units + 64 < cLine):OpR X (compareOp .NotIn) (Rq X.K c4v):=by
 intro pins s σ H x y v u Q I rx ry ⟨S,p,q,z,hs,rp,rq,e,k⟩
 cases q with
 | dct ks vs =>
  obtain ⟨ps,e1,e2⟩:=bnd e
  obtain ⟨kk,e3,e4⟩:=bnd e2
  cases a1u e1
  cases e4
  obtain ⟨a,us,rfl,hl,h2,g⟩:=a6k hs rp rq e3
  cases (show u=Value.ref a from ry)
  refine c0h (by lia) I g rx fun s' I'=>⟨.bl _,H,I',rfl,?_⟩
  have:(a2z ks us kk).isSome=decide (kk∈ks):=by rw [Bool.eq_iff_iff,a2f kk hl]; simp
  rw [this]
  exact k.bl
 | dci ks vs =>
  obtain ⟨kk,e1,e4⟩:=bnd e
  cases a1k e1
  cases e4
  cases rp.int
  obtain ⟨a,us,rfl,hl,h2,g⟩:=b1t (k:=kk) hs rq
  cases (show u=Value.ref a from ry)
  refine c0h (by lia) I g rx fun s' I'=>⟨.bl _,H,I',rfl,?_⟩
  have:(a2z ks us kk).isSome=decide (kk∈ks):=by rw [Bool.eq_iff_iff,a2f kk hl]; simp
  rw [this]
  exact k.bl
 | _=>exact q_ni hu pins s σ H x y v u Q I rx ry ⟨S,p,_,z,hs,rp,rq,e,k⟩
end
theorem c9m:a7q d2g:=by
 intro v w z e
 cases w with
 | dct ks vs =>
  obtain ⟨ps,_,e⟩:=bnd e
  obtain ⟨k,_,e⟩:=bnd e
  cases e; exact ⟨_,rfl⟩
 | dci ks vs =>
  obtain ⟨k,_,e⟩:=bnd e
  cases e; exact ⟨_,rfl⟩
 | _ =>
  obtain ⟨b,_,rfl⟩:=mpd (show (inF v _).map FV.bl=some z from e)
  exact ⟨_,rfl⟩
theorem c9l:a7q c4v:=by
 intro v w z e
 cases w with
 | dct ks vs =>
  obtain ⟨ps,_,e⟩:=bnd e
  obtain ⟨k,_,e⟩:=bnd e
  cases e; exact ⟨_,rfl⟩
 | dci ks vs =>
  obtain ⟨k,_,e⟩:=bnd e
  cases e; exact ⟨_,rfl⟩
 | _ =>
  obtain ⟨b,_,rfl⟩:=mpd (show (inF v _).map (fun r=>FV.bl (!r))=some z from e)
  exact ⟨_,rfl⟩
section
variable {X:Cx} {C:CC} {n:Nat} {sp:Γd→Nat→Sp} {a b:Expr} {ea eb:EW} {pos p:Pos}
theorem fe_ni2 (G:Good X C n sp) (ha:FE X C a ea) (hb:FR X C b eb) (hm:behindInMarks .NotIn b=false):FE X C (.Compare a [.NotIn] [b] pos) (eOp c4v ea eb):=b4q (d0b G.room.units) ha hb hm
theorem fb_in2 (G:Good X C n sp) (ha:FE X C a ea) (hb:FR X C b eb) (hm:behindInMarks .In b=false):FB X C (.Compare a [.In] [b] pos) (a2c (eOp d2g ea eb)):=a8p c9m (d6c G.room.units) ha hb hm
theorem fb_ni2 (G:Good X C n sp) (ha:FE X C a ea) (hb:FR X C b eb) (hm:behindInMarks .NotIn b=false):FB X C (.Compare a [.NotIn] [b] pos) (a2c (eOp c4v ea eb)):=a8p c9l (d0b G.room.units) ha hb hm
variable {es:List Expr} {k:Nat} {p2:Pos}
theorem d8p (G:Good X C n sp) (ha:FE X C a ea) (hb:FE X C (.Tuple es k p2) eb):FE X C (.Subscript a (.Tuple es k p2) pos) (eOp b6a ea eb) :=
 PE.imp (b2t (X:=X.nox) (by have:=G.room.units; show X.A.units + 1 < cLine; lia) ha hb fun _ _=>rfl) fun σ H Q ⟨c,L,S,Q0,I,h,k⟩ =>
 ⟨c,L,S,_,I,h,fun v L1 hv x S1 H1 r1 I1 s1=>⟨c,L1,S1,_,I1,hv,fun w L2 hw y S2 H2 r2 I2 s2=>by
  obtain ⟨z,e,q⟩:=wpx hw
  cases v with
  | dct ks vs =>
   obtain ⟨ps,e1,e2⟩:=bnd e
   obtain ⟨kk,e3,e4⟩:=bnd e2
   cases a1u e1
   obtain ⟨a,us,rfl,hl,h2,g⟩:=a6k (X:=X) I2.sub (.inl r2) (.inl (r1.mono s2)) e3
   obtain ⟨u,e5,r5⟩:=a6j h2 e4
   rw [e5] at g
   exact ⟨a,u,rfl,g,k z L2 q u S2 H2 r5 I2 (s1.trans s2)⟩
  | _=>cases e⟩⟩
end
section
variable (Q:FV→Prop)
@[scoped simp ↓] theorem k_in2d (ps:List FV) (ks:List (List Int)) (vs:List FV):wp (d2g (.tup ps) (.dct ks vs)) Q↔wp (a0o ps) fun k=>Q (.bl (decide (k∈ks))):=by
 show wp ((a0o ps).bind _) Q↔_; rw [a1f]; rfl
@[scoped simp ↓] theorem k_ni2d (ps:List FV) (ks:List (List Int)) (vs:List FV):wp (c4v (.tup ps) (.dct ks vs)) Q↔wp (a0o ps) fun k=>Q (.bl (!decide (k∈ks))):=by
 show wp ((a0o ps).bind _) Q↔_; rw [a1f]; rfl
@[scoped simp ↓] theorem k_ni2l (a:FV) (xs:List FV):wp (c4v a (.lst xs)) Q↔wp (inF a (.lst xs)) fun r=>Q (.bl (!r)):=a2g _ _ _
@[scoped simp ↓] theorem k_dget (ps:List FV) (ks:List (List Int)) (vs:List FV):wp (b6a (.dct ks vs) (.tup ps)) Q↔wp (a0o ps) fun k=>wp (a2z ks vs k) Q:=by
 show wp ((a0o ps).bind _) Q↔_; rw [a1f]
@[scoped simp ↓] theorem ints_n (Q:List Int→Prop):wp (a0o []) Q=Q []:=propext Iff.rfl
@[scoped simp ↓] theorem ints_c (i:Int) (r:List FV) (Q:List Int→Prop):wp (a0o (.int i :: r)) Q↔wp (a0o r) fun ns=>Q (i :: ns):=by
 show wp ((a0o r).map (i :: ·)) Q↔_; rw [a2g]
end
@[scoped simp ↓] theorem d2u (n m:Nat) (it:AW) (tg:Tg) (t:BW) (ek ev:EW) (L:a0d) (Q:FV→a0d→Prop):b9w n m it tg t ek ev L Q=(it L fun xs L1=>L1.length=n∧xs.length≤big∧a5y n m tg t ek ev xs [] [] L1 fun ks vs L2=>Q (.dct ks vs) L2):=propext Iff.rfl
theorem b1v {α:Type} {tg:Tg} {n m:Nat} {ek ev:EW} {f:α→FV} {g:α→List Int} {h:α→FV} {Q:List (List Int)→List FV→a0d→Prop} {L:a0d}:∀ (xs:List α) (ks:List (List Int)) (vs:List FV),
  (∀ x∈xs,g x ∉ ks)→(xs.map g).Nodup →
  (∀ x∈xs,∀ K:List Int→FV→a0d→Prop,K (g x) (h x) L→gW tg (f x) (L++Γj m none) fun L1=>ek L1 fun kx L3=>wp (a8y kx) fun ps=>wp (a0o ps) fun k=>ev L3 fun v L4=>K k v (L4.take n))→Q (ks++xs.map g) (vs++xs.map h) L→a5y n m tg a2b ek ev (xs.map f) ks vs L Q
 | [],ks,vs,_,_,_,E=>by
  show Q ks vs L
  simpa using E
 | x :: xs,ks,vs,hn,hd,B,E=>by
  refine B x Γn (fun k v L'=>a5y n m tg a2b ek ev (xs.map f) (a2o ks vs k v).1 (a2o ks vs k v).2 L' Q) ?_
  have hk:=hn x Γn
  simp only [List.map_cons,List.nodup_cons] at hd
  have e:a2o ks vs (g x) (h x)=(ks++[g x],vs++[h x]):=by simp [a2o,hk]
  rw [e]
  refine b1v xs _ _ (fun y hy hm=>?_) hd.2 (fun y hy=>B y (Γh _ hy)) (by simpa using E)
  rcases List.mem_append.mp hm with hm | hm
  ·exact hn y (Γh _ hy) hm
  ·simp at hm
   exact hd.1 (by rw [← hm]; exact List.mem_map_of_mem hy)
end Kq
end
section
namespace PySem
theorem F.nolen_lri:typeLookup (.type "list_reverseiterator") "__len__" = pure none:=by rw [typeLookup_type,builtinLookup_eq_fast]; kernel_rfl
theorem F.slot_lri_hint:Slot "list_reverseiterator" "__length_hint__" "list_reverseiterator.__length_hint__" :=
 .of (owner:="list_reverseiterator") (n:="__length_hint__") (by rw [typeLookup_type,builtinLookup_eq_fast]; kernel_rfl) (by nofun) (by nofun) (by nofun)
  (by first | exact .inl (by decide +kernel) | exact .inr (by decide +kernel)) (by rw [isSubtype_type]; kernel_rfl)
section
variable {prog:Program} {w:World} {A:Around} {E:Value→Shared→Prop} {s:Shared}
theorem b3i {it l:Addr} {items:Array Value} {Q:List Value→Shared→Prop} (hh:A.handled=none) (hne:l≠it) (hit:s.heap.IsRevIter it l ((items.size:Int) - 1)) (hl:s.heap.IsList l items) (hz:items.size≤sizeLine)
  (hQ:∀ s' acc,Moved [it] (fun a b=>b=a) s s'→ItemsOf (fun i v=>items[items.size - 1 - i]?=some v) acc items.size→Q acc.toList s'):wpAny (model prog w) A (collect (.ref it)) Q E s:=by
 have W:=(Walks.listRev (prog:=prog) (w:=w) (A:=A.in1) (show A.in1.handled=none from hh) it l hne items).toS
 have l1:it < s.heap.objs.size:=by obtain ⟨o,e,_⟩:=hit; exact Γl e
 have l2:l < s.heap.objs.size:=by obtain ⟨o,e,_⟩:=hl; exact Γl e
 have hSf:s.heap.objs.size ∉ [it,l]:=fun hm=>by
  simp only [List.mem_cons,List.not_mem_nil,or_false] at hm
  rcases hm with hm | hm
  ·exact Nat.lt_irrefl _ (hm ▸ l1)
  ·exact Nat.lt_irrefl _ (hm ▸ l2)
 have hSI:s.heap.objs.size≠it:=fun e=>Nat.lt_irrefl _ (e ▸ l1)
 unfold collect
 refine Γa (wpAny_runValue (codeAny_builtin F.entry_proto_collect ?_)); rw [Around.under_plainId F.plain_proto_collect _]
 show wpAny _ A.in1 (newList [] >>= fun acc=>again (.builtin "list.__iadd__" ⟨[acc,.ref it],[]⟩)) _ _ s
 refine Γa (wpAny_newObj_type (Γb ⟨plainId_quiet F.plain_list_iadd _,codeAny_builtin F.entry_list_iadd ?_⟩)); rw [Around.under_plainId F.plain_list_iadd _]
 generalize hs1:({ s with heap:=s.heap.push { cls:=.type "list",data:=.seq ([]:List Value).toArray } }:Shared)=s1
 have k1:∀ b o,s.heap.get? b=some o→s1.heap.get? b=some o:=fun b o e=>by rw [← hs1]; exact Γc _ e
 have it1:=hit.at fun o e=>k1 it o e
 have li1:=hl.at fun o e=>k1 l o e
 have S1:s1.heap.get? s.heap.objs.size=some { cls:=.type "list",data:=.seq ([]:List Value).toArray }:=by rw [← hs1]; exact Γm _ rfl
 have st1:0≤items.size∧s1.heap.IsRevIter it l ((items.size:Int) - 1 - ((0:Nat):Int))∧s1.heap.IsList l items:=⟨Nat.zero_le _,by simpa using it1,li1⟩
 have ty1:s1.TypeIs (.ref it) "list_reverseiterator":=it1.typeIs
 have h1:Builtin.List.listSameRef (.ref s.heap.objs.size) (.ref it)=false:=by simp [Builtin.List.listSameRef,hSI]
 show wpAny _ A.in1 (Builtin.List.listExtendWith (.ref s.heap.objs.size) (.ref it) (.ref s.heap.objs.size)) _ _ s1
 unfold Builtin.List.listExtendWith
 refine Γa (wpAny_typeOf ty1 ?_)
 rw [if_neg (by rw [h1]; decide)]
 refine Γa (W.self 0 s1 _ _ st1 (Γa (Γg ?_)))
 unfold Builtin.List.listLengthHint
 refine Γa (wpAny_specialOf ty1 F.nolen_lri ?_)
 show wpAny _ A.in1 (specialOf (Value.ref it) (Γe "__length_hint__") >>= _) _ _ _
 refine Γa (wpAny_specialOf ty1 F.slot_lri_hint.lookup ?_)
 (generalize hid:("list_reverseiterator.__length_hint__":String)=id0; (fail_if_success (clear hid id0)); wp_delta; rw [show splitId id0=some ("list_reverseiterator","__length_hint__") from by subst hid; nofun]; subst hid)
 refine Γa (wpAny_isInstance (b:=true) ty1 (by rw [isSubtype_type]; kernel_rfl) ?_)
 refine Γb ?_
 rw [if_neg (by decide)]
 refine Γb ⟨plainId_quiet F.plain_extend_loop _,codeAny_extend_loopS W hz _ hSf _ items.size 0 _ _ _ rfl (Nat.zero_le _) st1 S1 (ItemsOf.nil _) fun s' acc' c' hm hS' hacc=>?_⟩
 show wpAny _ A (load s.heap.objs.size >>= _) _ _ s'
 refine Γa (wpAny_load hS' (Γb (hQ s' acc' ?_ hacc)))
 subst hs1
 exact Moved.drop_new (o:={ cls:=.type "list",data:=.seq ([]:List Value).toArray }) (tk:=s.toks) hm (Γi _)
end
end PySem
namespace Kq
open PySem PySem.Spec PyProof.Rows L2
section
variable {P:Program} {w:World} {A:Around} {E:Value→Shared→Prop} {s:Shared}
end
noncomputable def maxIF (v:FV):Option FV:=(a2a v).bind fun xs=>(a0o xs).bind fun ns=>match ns with
 | n :: r=>some (.int (c7m n r))
 | []=>none
section
variable {X:Cx}
end
section
variable {X:Cx} {C:CC} {n:Nat} {sp:Γd→Nat→Sp} {a:Expr} {ea:EW} {pos p:Pos}
end
end Kq
end
section
namespace PySem
section
variable {prog:Program} {w:World} {A:Around} {E:Value→Shared→Prop} {s:Shared}
theorem a7x {it l:Addr} {items:Array Value} {Q₁:Value→Shared→Prop} (hh:A.handled=none) (hne:l≠it) (hit:s.heap.IsRevIter it l ((items.size:Int) - 1)) (hl:s.heap.IsList l items) (hz:items.size≤sizeLine)
  (h:∀ s' acc,Moved [it] (fun a b=>b=a) s s'→ItemsOf (fun i v=>items[items.size - 1 - i]?=some v) acc items.size→Q₁ (.ref s'.heap.objs.size) { s' with heap:=s'.heap.push { cls:=.type "tuple",data:=.seq acc } }) :
  codeAny (model prog w) A (.call (.builtin "tuple.__new__") ⟨[.type "tuple",.ref it],[]⟩) (wants Q₁ E) s:=by
 refine codeAny_of_tree ?_
 show wpAny _ A.in1 (do checkBuiltinCall "tuple.__new__" ⟨[.type "tuple",.ref it],[]⟩; again (.builtin "tuple.__new__" ⟨[.type "tuple",.ref it],[]⟩)) _ _ s
 refine Γa (wpAny_of_eq (F.newCall_tuple_1 _) (Γb ⟨plainId_quiet F.plain_tuple_new _,codeAny_builtin F.entry_tuple_new ?_⟩)); rw [Around.under_plainId F.plain_tuple_new _]
 have hsub:=sub_tuple_self; have hinit:=init_tuple_lookup; have hmh:=madeHere_tuple
 have hTI:s.TypeIs (.ref it) "list_reverseiterator":=hit.typeIs
 wp_walk using wpAny_typeOf hTI,b3i (A:=A.in1) (show A.in1.handled=none from hh) hne hit hl hz
 intro s' acc hm hacc
 show wpAny _ _ (Builtin.Tuple.tupleExact acc.toList.toArray >>= fun v=>ret v) _ _ _
 unfold Builtin.Tuple.tupleExact
 refine Γa (wpAny_newObj_type (Γb ?_) (by show acc.toList.toArray.size≤sizeLine; simp only [Array.toArray_toList]; rw [hacc.1]; exact hz))
 have e:acc.toList.toArray=acc:=by simp
 rw [e]; exact h s' acc hm hacc
theorem a7y {it l:Addr} {items:Array Value} {Q:Value→Shared→Prop} (hh:A.handled=none) (hne:l≠it) (hit:s.heap.IsRevIter it l ((items.size:Int) - 1)) (hl:s.heap.IsList l items) (hz:items.size≤sizeLine)
  (hQ:∀ s' acc,Moved [it] (fun a b=>b=a) s s'→ItemsOf (fun i v=>items[items.size - 1 - i]?=some v) acc items.size→Q (.ref s'.heap.objs.size) { s' with heap:=s'.heap.push { cls:=.type "tuple",data:=.seq acc } }) :
  wpAny (model prog w) A (call (.type "tuple") [.ref it]) Q E s:=by
 refine callType_codes (Q₁:=fun obj s₁=>s₁.TypeIs obj "tuple"∧Q obj s₁) F.called_tuple (F.typeCall_tuple_1 _) F.entry_object_init (a7x (A:=A.in1) hh hne hit hl hz fun s' acc hm hacc=>⟨⟨_,Γm _ rfl,rfl⟩,hQ s' acc hm hacc⟩) fun obj s₁ h₁=>?_
 exact ⟨h₁.1,F.args_object_init_2 obj _,object_init_meets F.called_tuple.init.lookup F.called_tuple.made (by decide) prog w A.in1 _ s₁ ⟨h₁.1,rfl,h₁.2⟩⟩
end
end PySem
namespace Kq
open PySem PySem.Spec PyProof.Rows L2
section
variable {X:Cx} {a:Expr} {ta:TA} {p p2 pos pos2:Pos}
theorem c6x (hc:X.calm=true) (hg:Gl X "reversed") (hm:X.mg "reversed" = none) (hg2:Gl X "tuple") (hm2:X.mg "tuple" = none) (ha:PA X [a] ta) (hs:starEach [a] X.env=[(false,eval a X.env)]) :
  PE X (.Call (.Name "tuple" p) [.Call (.Name "reversed" p2) [a] [] pos2] [] pos) (fun σ H Q=>ta σ H fun vs H1=>∃ l xs,vs=[.ref l]∧SqL X.K H1 l xs∧∀ q,H1 q=none→Q (.ref q) (upd H1 q (.tup xs.reverse))):=by
 intro pins s σ H Q I h
 refine wpAny_Call_Name_kw (a4r I hg2 hm2 (show bootBuiltins (Γe "tuple")=some (.type "tuple") by nofun) ?_ (by nofun) (by nofun))
 refine PyProof.Rows.callWith_type1 (T:="tuple") ?_ rfl rfl
 show wpAny _ _ (spliced ((false,eval (.Call (.Name "reversed" p2) [a] [] pos2) X.env) :: backTo pos [])) _ _ s
 refine Calls.spliced_cons (Call_ (a4r I hg hm (show bootBuiltins (Γe "reversed")=some (.type "reversed") by nofun) (PyProof.Rows.callWith_type1 (T:="reversed") (thn (ha pos2 pins s σ H _ I h) fun us s1 ⟨vs,H1,I1,r1,q1⟩=>?_) hs rfl)))
 obtain ⟨l,xs,e,hq,q⟩:=q1
 subst e
 obtain ⟨u,rfl,ru⟩:=a3t r1
 cases (show u=Value.ref l from ru)
 obtain ⟨its,rv,pl,hz⟩:=I1.list hq
 have hlen:=rv.length
 have ll:l < s1.heap.objs.size:=by obtain ⟨o,e,_⟩:=pl.isList; exact Γl e
 refine call_reversed_list pl.isList (Calls.spliced_nil ?_)
 have I2:Inv X pins σ H1 { s1 with heap:=s1.heap.push (revObj l ((its.toArray.size:Int) - 1)) }:=I1.kept (t':=s1.toks) fun b o e=>Γc _ e
 refine a7y (items:=its.toArray) (l:=l) (I1.ok.hd hc) (Γo ll) ⟨_,Γm _ rfl,rfl,rfl⟩ (pl.isList.push _) (by simpa [← hlen] using hz) fun s' acc hm hacc=>?_
 have I3:Inv X pins σ H1 s':=by
  have:=I1.kept (h':=s'.heap) (t':=s'.toks) fun b o e=>hm.heap b o (by simp; exact Γo (Γl e)) (Γc _ e)
  have e:s' = { s1 with heap:=s'.heap,toks:=s'.toks }:=by
   obtain ⟨h1,h2,h3,h4,h5⟩:=hm
   obtain ⟨a,b,c,d,e⟩:=s'
   simp only at h2 h3 h4
   subst h2 h3 h4; rfl
  rw [e]; exact this
 refine ⟨.ref s'.heap.objs.size,_,I3.laid (t':=s'.toks) (o:=.tup xs.reverse) (fun b ob q=>Γc _ q) (Γi _) ?_,rfl,q _ (I3.hok.fresh (Γi _))⟩
 have e:acc.toList=its.reverse:=by
  have h1:acc.toList.length=its.length:=by simpa using hacc.1
  apply List.ext_getElem
  ·rw [List.length_reverse]; exact h1
  ·intro i h2 h3
   have h4:=hacc.2 i (acc.toList[i]) (by simp at h2; simp [h2])
   have h5:its[its.length - 1 - i]?=some acc.toList[i]:=by simpa using h4
   rw [List.getElem_reverse]
   exact ((List.getElem?_eq_some_iff.mp h5).2).symm
 refine ⟨by rw [List.length_reverse]; exact hz,its.reverse,rv.reverse,?_⟩
 rw [← e]
 exact IsTup.new _ _
end
noncomputable def c6f (v:FV):Option FV:=(a2a v).map fun xs=>.tup xs.reverse
@[scoped simp ↓] theorem f_revT (v:FV) (Q:FV→Prop):wp (c6f v) Q↔wp (a2a v) fun xs=>Q (.tup xs.reverse):=a2g _ _ _
theorem d8h {X:Cx} {C:CC} {n:Nat} {sp:Γd→Nat→Sp} {a:Expr} {ea:EW} {pos p p2 pos2:Pos} (G:Good X C n sp) (hg:(C.gl (Γe "reversed") && C.gl (Γe "tuple"))=true) (hs:a0g a=false) (ha:FR X C a ea):FE X C (.Call (.Name (Γe "tuple") p) [.Call (.Name (Γe "reversed") p2) [a] [] pos2] [] pos) (eUn c6f ea) :=
 PE.imp (c6x (X:=X.nox) G.calm (G.gl (b2 hg).1) (G.blt "reversed" (by decide)) (G.gl (b2 hg).2) (G.blt "tuple" (by decide)) (a0j ha a1s (a0c hs)) (a0c hs)) fun σ H Q ⟨c,L,S,Q0,I,h,k⟩ =>
 ⟨c,L,S,_,I,h,fun v L1 hv x S1 H1 r1 I1 s1=>by
  obtain ⟨z,e,q⟩:=wpx hv
  obtain ⟨ps,e1,rfl⟩:=mpd e
  obtain ⟨a,ys,rfl,hq,ry⟩:=r1.list I1.sub e1
  exact ⟨a,ys,rfl,hq,fun p hp=>(b1d I1 fun x S' H' r I' s'=>k _ L1 q x S' H' r I' (s1.trans s')).tup _ _ p rfl ry.rev hp⟩⟩
end Kq
end
section
namespace Kq
open PySem PySem.Spec PyProof.Rows L2
section
variable {P:Program} {w:World} {A:Around} {E:Value→Shared→Prop} {s:Shared}
end
noncomputable def c1q (v:FV):Option FV:=(a3v v).bind fun xs=>(c9c xs).map .int
section
variable {X:Cx}
theorem b6d (hc:X.calm=true):a1n X (.builtin "sum") (fun xs H Q=>∃ (a:Addr) (ns:List Int),xs=[.ref a]∧SqT X.K H a (ns.map V.int)∧ns.length≤big∧(∀ n∈ns,-(2 ^ 40)≤n∧n≤2 ^ 40)∧Q (.int ns.sum) H):=by
 intro pins s σ H xs us Q I r h
 obtain ⟨a,ns,rfl,hq,hz,hb,q⟩:=h
 obtain ⟨u,rfl,rx⟩:=a3t r
 cases rx
 obtain ⟨its,r',pl,hz'⟩:=I.tuple hq
 have hlen:ns.length=its.length:=by have:=r'.length; simpa using this
 have pt:s.heap.IsTuple a its.toArray:=pl
 have alt:a < s.heap.objs.size:=by obtain ⟨_,e,_⟩:=pt; exact Γl e
 have hh:X.A.in1.handled=none:=I.ok.hd hc
 refine call_sum_walk (wpAny_pyIter_tuple pt ?_)
 refine ⟨s.heap.objs.size,_,_,_,_,_,fun i=>ns.getD i 0,rfl,Walks.tuple hh s.heap.objs.size a (Γo alt) its.toArray,⟨⟨_,Γm _ rfl,rfl,rfl⟩,pt.at fun o e=>Γc _ e⟩,?_,?_,?_,?_⟩
 ·intro b hb'
  simp at hb'
  rcases hb' with rfl | rfl
  ·show _ < (s.heap.push _).objs.size; rw [Heap.size_push]; exact Nat.lt_succ_self _
  ·show _ < (s.heap.push _).objs.size; rw [Heap.size_push]; exact Nat.lt_succ_of_lt alt
 ·intro i v hv
  have hv:its.toArray[i]?=some v:=hv
  have hi:i < ns.length:=by rw [hlen]; simpa using (Array.getElem?_eq_some_iff.mp hv).1
  obtain ⟨t,e⟩:=Vals.mapInt r' i hi
  refine ⟨t,?_⟩
  have e':its.toArray[i]?=some (.int (ns.getD i 0) t):=by simpa using e
  rw [hv] at e'
  exact Option.some.inj e'
 ·intro j hj
  have hj':j < ns.length:=by rw [hlen]; simpa using hj
  have hm:ns.getD j 0∈ns:=by simp [List.getD,hj']
  refine ⟨?_,?_⟩
  ·have:=hb _ hm
   show -(2 ^ 63)≤ns.getD j 0∧ns.getD j 0 < 2 ^ 63
   lia
  ·rw [a2i ns (j + 1) hj']
   have b2:=b7d 1099511627776 (by decide) (ns.take (j + 1)) fun n hn=>by have:=hb n (List.mem_of_mem_take hn); lia
   have l2:(ns.take (j + 1)).length≤100000:=by rw [List.length_take]; unfold big at hz; lia
   unfold InLong; lia
 ·intro h' tk t' hk
  have e:preSum (fun i=>ns.getD i 0) its.toArray.size=ns.sum:=by
   rw [List.size_toArray,← hlen,a2i ns _ (Γi _),List.take_length]
  rw [e]
  refine ⟨.int ns.sum,H,?_,⟨t',rfl⟩,q⟩
  exact I.kept (t':=tk) fun b o e=>hk b o (by simp; exact Γo (Γl e)) (Γc _ e)
theorem d3e (hc:X.calm=true):a1n X (.builtin "sum") (Rc X.K c1q):=by
 rintro pins s σ H xs us Q I r ⟨S,v,x,z,rfl,hs,rv,e,k⟩
 cases v with
 | tup ps =>
  obtain ⟨n,e3,rfl⟩:=mpd e
  obtain ⟨ns,e4,e5⟩:=bnd e3
  obtain ⟨hb,rfl⟩:=itd e5
  obtain ⟨a,ys,rfl,hq,ry⟩:=rv.tup hs
  cases a1y ry e4
  refine b6d hc pins s σ H _ us Q I r ⟨a,ns,rfl,SqT.of hq,hb.1,fun n hn=>?_,k.int⟩
  have:=List.all_eq_true.mp hb.2 n hn
  simpa [a9c] using this
 | lst ps=>exact c8r hc pins s σ H _ us Q I r ⟨S,.lst ps,x,z,rfl,hs,rv,e,k⟩
 | scr ps=>exact c8r hc pins s σ H _ us Q I r ⟨S,.scr ps,x,z,rfl,hs,rv,e,k⟩
 | _=>cases e
end
section
variable {X:Cx} {C:CC} {n:Nat} {sp:Γd→Nat→Sp} {a:Expr} {ea:EW} {pos p:Pos}
theorem d8i (G:Good X C n sp) (hg:C.gl (Γe "sum")=true) (hs:a0g a=false) (ha:FR X C a ea):FE X C (.Call (.Name (Γe "sum") p) [a] [] pos) (eUn c1q ea):=b3c (d3e G.calm) G (by decide) (by nofun) (by nofun) (by nofun) hg hs ha
end
@[scoped simp ↓] theorem f_sum2 (v:FV) (Q:FV→Prop):wp (c1q v) Q↔wp (a3v v) fun xs=>wp (c9c xs) fun n=>Q (.int n):=by
 show wp ((a3v v).bind _) Q↔_
 simp only [a1f,a2g]
noncomputable def b5u {α:Type} (xs:List α) (k:Nat) (y:α):List α:=xs.take k++y :: xs.drop k
noncomputable def d3w (v:FV) (ys:List FV):Option FV:=match ys with
 | [i,y]=>(a8f v).bind fun xs=>(a5f i).bind fun k=>if 0≤k∧k < 4611686018427387904∧xs.length < big then some (.lst (b5u xs k.toNat y)) else none
 | _=>none
noncomputable def b4u (f:FV→List FV→Option FV) (i:Nat) (as:AW):EW:=fun L Q=>wp (lk L i) fun v=>wp (a8f v) fun _=>as L fun ys L1=>wp (lk L1 i) fun x=>wp (f x ys) fun z=>Q .non (L1.set i (some z))
section
variable {X:Cx}
noncomputable def c6j:V→List V→Hp→VK→Prop:=fun x vs H Q=>∃ (l:Addr) (xs:List V) (k:Int) (y:V),x=.ref l∧vs=[.int k,y]∧H l=some (.lst xs)∧(0≤k∧k < 4611686018427387904)∧xs.length < sizeLine∧Q .non (upd H l (.lst (b5u xs k.toNat y)))
theorem Vals.take:∀ {xs:List V} {us:List Value} (k:Nat),Vals xs us→Vals (xs.take k) (us.take k)
 | _,_,0,_=>.nil
 | _,_,k + 1,.nil=>.nil
 | _,_,k + 1,.cons r t=>.cons r (Vals.take k t)
theorem Vals.drop:∀ {xs:List V} {us:List Value} (k:Nat),Vals xs us→Vals (xs.drop k) (us.drop k)
 | _,_,0,h=>h
 | _,_,k + 1,.nil=>.nil
 | _,_,k + 1,.cons r t=>Vals.drop k t
theorem b8j:MtM X "list.insert" c6j:=by
 intro pins s σ H x vs v us Q I rx rv h
 obtain ⟨l,xs,k,y,rfl,rfl,hH,hk,hz,q⟩:=h
 cases rx
 obtain ⟨u1,u2,rfl,ru1,ru2⟩:=rv.two
 obtain ⟨t,rfl⟩:=ru1
 obtain ⟨z,its,n,r,hl,e⟩:=I.lstM hH
 have hf:Builtin.List.listFitsIndex k=true:=by
  unfold Builtin.List.listFitsIndex
  rw [Bool.and_eq_true]
  exact ⟨decide_eq_true (by lia),decide_eq_true (by lia)⟩
 refine call_meets F.slot_list_insert ⟨_,e,rfl⟩ F.entry_list_insert (F.args_list_insert_3 _ _ _) (AutoSeq1.list_insert_list_int_val_1 l its.toArray n k t u2 (by simp [hf]) (by rw [List.size_toArray]; lia)) ⟨e,?_⟩
 have e1:its.take (min k.toNat its.length)=its.take k.toNat:=by rw [List.take_eq_take_iff]; lia
 have e2:its.drop (min k.toNat its.length)=its.drop k.toNat:=by
  by_cases c:k.toNat≤its.length
  ·rw [Nat.min_eq_left c]
  ·rw [Nat.min_eq_right (by lia),List.drop_of_length_le (Γi _),List.drop_of_length_le (by lia)]
 refine ⟨.non,_,I.lset (its':=b5u its k.toNat u2) hH e ?_ ((Vals.take k.toNat r).append (.cons ru2 (Vals.drop k.toNat r))) ?_,rfl,q⟩
 ·show (its.toArray.extract 0 (if k < 0 then (k + (its.toArray.size:Int)).toNat else min k.toNat its.toArray.size)).push u2++its.toArray.extract (if k < 0 then (k + (its.toArray.size:Int)).toNat else min k.toNat its.toArray.size)=(b5u its k.toNat u2).toArray
  rw [if_neg (by lia),PySem.W.kl_ins_eq,List.size_toArray,e1,e2]; rfl
 ·simp only [List.length_append,List.length_cons,List.length_take,List.length_drop]; lia
end
section
variable {K:Γd} {S:Hp}
theorem RVs.ins {ps:List FV} {vs:List V} {p:FV} {v:V} (k:Nat) (h:RVs K S ps vs) (hp:RV K S p v):RVs K S (b5u ps k p) (b5u vs k v) :=
 (h.take k).append (show RVs K S (p :: ps.drop k) (v :: vs.drop k) from ⟨v,_,rfl,hp,h.drop k⟩)
end
section
variable {X:Cx} {C:CC} {n:Nat} {sp:Γd→Nat→Sp} {a b:Expr} {as:AW} {nx:Str} {p:Pos} {i:Nat}
theorem fe_ins (G:Good X C n sp) {apos cpos:Pos} (h:C.nm i nx=true) (m:a0m C.md i=.own) (hl:e0g apos cpos=true) (hs:a2j [a,b]=true) (ha:FA X C [a,b] as):FE X C (.Call (.Attribute (.Name nx p) (Γe "insert") apos) [a,b] [] cpos) (b4u d3w i as):=by
 have hs1:a0g a=false:=by simp [a2j] at hs; exact hs.1
 have hs2:a0g b=false:=by simp [a2j] at hs; exact hs.2
 refine PE.imp (c7a PySem.F.plainAttrs_list PySem.F.slot_list_insert PySem.F.type_list_insert b8j (a1r G h) ha rfl (by rw [a0c hs1,a0c hs2]; rfl) hl (a0c hs1) (by rw [a0c hs2]; rfl)) fun σ H Q ⟨c,L,S,Q0,I,h,k⟩=>?_
 obtain ⟨v,e,h⟩:=wpx h
 obtain ⟨v9,e9,h⟩:=wpx h
 cases a3e e9
 have e':=(a2p _ _ _).mp e
 have mi:a0m C.md i≠.imm:=fun z=>by rw [m] at z; cases z
 obtain ⟨l,e1,⟨_,ps,xs,e8,h1,_⟩,_⟩:=I.own i _ mi e'
 refine ⟨_,e1,.inl ⟨rfl,xs,SqL.of h1⟩,c,L,S,_,I,h,fun w L1 hw y S1 H1 r1 I1 s1=>?_⟩
 obtain ⟨v1,e2,hw⟩:=wpx hw
 obtain ⟨z,e3,q⟩:=wpx hw
 have e2':=(a2p _ _ _).mp e2
 rcases w with _ | ⟨w1,_ | ⟨w2,_ | ⟨w3,w⟩⟩⟩
 ·cases e3
 ·cases e3
 ·obtain ⟨qs,e4,e5⟩:=bnd e3
  obtain ⟨j,e6,e7⟩:=bnd e5
  cases a3e e4
  cases a1k e6
  obtain ⟨hb,rfl⟩:=itd e7
  obtain ⟨u1,u2,rfl,g1,g2⟩:=r1.two_of
  cases (show u1=V.int j from g1)
  obtain ⟨l',f1,⟨f2,rs,zs,f3,f4,f5⟩,_⟩:=I1.own i _ mi e2'
  rw [e1] at f1; cases f1
  cases f3
  have:=a1i
  exact ⟨l,zs,j,u2,rfl,rfl,f4,⟨hb.1,hb.2.1⟩,by rw [← f5.length]; lia,k _ _ q .non S1 _ rfl (I1.write m e2' e1 (f5.ins j.toNat g2)) s1⟩
 ·cases e3
end
@[scoped simp ↓] theorem d2t (f:FV→List FV→Option FV) (i:Nat) (as:AW) (L:a0d) (Q:FV→a0d→Prop):b4u f i as L Q=(wp (lk L i) fun v=>wp (a8f v) fun _=>as L fun ys L1=>wp (lk L1 i) fun x=>wp (f x ys) fun z=>Q .non (L1.set i (some z))):=propext Iff.rfl
@[scoped simp ↓] theorem k_ins (xs:List FV) (k:Int) (y:FV) (Q:FV→Prop):wp (d3w (.lst xs) [.int k,y]) Q↔(0≤k∧k < 4611686018427387904∧xs.length < big)∧Q (.lst (b5u xs k.toNat y)):=by
 show wp (if _ then some _ else none) Q↔_
 exact a3h _ _ _
end Kq
end
section
namespace PySem
open Sem (wp)
theorem a7t:typeLookup (.type "list") (Γe "keys")=pure none:=by rw [typeLookup_type,builtinLookup_eq_fast]; kernel_rfl
theorem a4u {prog:Program} {w:World} {A:Around} {E:Value→Shared→Prop} {s:Shared} {a:Addr} {o:Obj} {xs:Array Value} {k:Nat} {name:Str} {Q:Option Value→Shared→Prop}
  (hx:s.heap.get? a=some o) (hc:o.cls=.type "list") (hdat:o.data=.seq xs k) (hd:o.dict=none) (hmiss:typeLookup (.type "list") name=pure none) (hname:(["__module__","__name__","__qualname__","__doc__","__annotations__"]:List Str).contains name=false) (hA:A.handled=none)
  (h:∀ h' tk e,Heap.NewExcOf s.heap h' e "AttributeError"→Q none { s with heap:=h',toks:=tk }) (hsz:name.length + 100≤sizeLine:=by size_fits) :
  wpAny (model prog w) A (getAttr? (.ref a) name) Q E s:=by
 obtain ⟨c,dct,dat,sl⟩:=o
 simp only at hc hdat hd
 subst hc hdat hd
 obtain ⟨hp,g,d,tk,os⟩:=s
 have hT:∀ tk',(⟨hp,g,d,tk',os⟩:Shared).TypeIs (.ref a) "list":=fun _=>⟨_,hx,rfl⟩
 have f1:=sub_AttributeError
 have f3:=F.slot_list_getattribute.lookup
 have f4:=F.slot_list_getattribute.bind (.ref a)
 have f5:=am_list_getattr_none
 unfold getAttr? getAttrBy? getAttrBy
 repeat (any_goals (first | assumption | exact hT _ | ((with_reducible show wpAny _ _ (call (Value.builtin "list.__getattribute__") _ _) _ _ _); refine call_meets F.slot_list_getattribute (hT _) am_entry_list_getattribute (F.args_list_getattribute_2 _ _) (meets_getattribute_miss_list a xs k sl name _ hmiss hname hsz) ⟨hx,hA,fun h' tk' e hx'=>?_⟩) | wp_step))
 obtain ⟨t',u',he⟩:=hx'.there
 show wpAny _ _ (getattributeRaised _ _ _ _ _ _ _) _ _ _
 unfold getattributeRaised
 repeat (any_goals (first | assumption | wp_step))
 exact h _ _ _ hx'.of
end PySem
namespace Kq
open PySem PySem.Spec PyProof.Rows L2
theorem F.entry_dict_update_loop:entryFor table "dict.update.loop" = some Builtin.«dict.update.loop»:=entryFor_of_tree (by kernel_rfl)
theorem F.plain_dict_update_loop:plainId "dict.update.loop" = true:=by nofun
abbrev a8s (H:Hp):List V→List (List Key×V)→Prop:=Paired fun y p=>∃ b kb:Addr,y=.ref b∧H b=some (.tup [.ref kb,p.2])∧H kb=some (.tup (p.1.map kV))
noncomputable def b0l (P:Program) (w:World) (h:Heap) (D:Addr) (xs:List (List Key×Addr×Value)):Prop :=
 ∃ o es ep,h.get? D=some o∧o.ExactDict∧o.data=.dict es ep∧es.toList=xs.map (entryOfKey (tupleKind (a0t P w)))∧(xs.map (·.1)).Nodup
section
variable {P:Program} {w:World} {A:Around} {R:Result→Shared→Prop} {H:Hp} {h0:Heap} {it l D:Addr} {items:Array Value}
theorem b8w (ok:HOk P w H h0) {h:Heap} (kp:L2.Kept h0 h h0.objs.size) {a:Addr} {ks:List Key} (e:H a=some (.tup (ks.map kV))):(tupleKind (a0t P w)).is h ks a:=by
 obtain ⟨o,its,n,h1,h2⟩:=a7c ok e
 exact ⟨o,its,n,kp a o (Γl h1) h1,h2⟩
theorem c2b (ok:HOk P w H h0) {h:Heap} (kp:L2.Kept h0 h h0.objs.size) {kvs:List (List Key×V)} {xs:List (List Key×Addr×Value)} (r:KT H kvs xs) (d:b0l P w h D xs):h.DictOfH (tupleKind (a0t P w)) D xs:=by
 obtain ⟨o,es,ep,h1,h2,h3,h4,h5⟩:=d
 refine ⟨o,es,ep,h1,h2,h3,h4,fun x hx=>?_,h5⟩
 have all:∀ {l:List (List Key×V)} {m:List (List Key×Addr×Value)},KT H l m→∀ x∈m,(tupleKind (a0t P w)).is h x.1 x.2.1:=by
  intro l m q
  induction q with
  | nil=>intro x hx; exact nomatch hx
  | @cons p q ps qs hq t ih =>
   intro x hx
   rcases List.mem_cons.mp hx with e | hx
   ·subst e
    exact b8w ok kp (by rw [← hq.1]; exact hq.2.1)
   ·exact ih x hx
 exact all r x hx
theorem c8l (ok:HOk P w H h0) (hu:A.in1.units < cLine) (hh:A.in1.handled=none) (hl:h0.IsList l items) (hit:h0.objs.size≤it) (hD:h0.objs.size≤D) (hne:D≠it) :
  ∀ (rest:List (List Key×V)) (ys:List V) (us:List Value) (i:Nat) (s:Shared) (kvs:List (List Key×V)) (xs:List (List Key×Addr×Value)),items.toList.drop i=us→i≤items.size→Vals ys us→a8s H ys rest→s.heap.IsListIter it l i→L2.Kept h0 s.heap h0.objs.size→KT H kvs xs→b0l P w s.heap D xs→kvs.length + rest.length≤sizeLine →
  (∀ h' tk xs',KT H (rest.foldl (fun k p=>a5e k p.1 p.2) kvs) xs'→b0l P w h' D xs'→L2.Kept h0 h' h0.objs.size→R (.ok (.ret .none)) { s with heap:=h',toks:=tk }) →
  codeAny (model P w) A (.builtin "dict.update.loop" ⟨[.ref D,.ref it,.int (i:Int) 0,.none],[]⟩) R s:=by
 have ll:l < h0.objs.size:=by obtain ⟨_,e,_⟩:=hl; exact Γl e
 have W:=Walks.list (prog:=P) (w:=w) (A:=A.in1) hh it l (Γo (Nat.lt_of_lt_of_le ll hit)) items
 have lst:∀ {h:Heap},L2.Kept h0 h h0.objs.size→h.IsList l items:=fun {h} kp=>hl.at fun o e=>kp l o ll e
 intro rest
 induction rest with
 | nil =>
  intro ys us i s kvs xs hd hi hv hp hst kp hk hr hz hR
  cases hp
  cases hv
  have en:i=items.size:=by
   have:=congrArg List.length hd
   simp at this
   lia
  refine codeAny_builtin F.entry_dict_update_loop ?_; rw [PySem.Around.under_plainId F.plain_dict_update_loop _]
  show wpAny _ A.in1 (pyNext (.ref it) >>= _) _ _ s
  refine Γa (W.done s _ _ (by rw [← en]; exact ⟨hst,lst kp⟩) fun g tk kk=>?_)
  show wpAny _ A.in1 (Builtin.Dict.addKeywords D [] >>= _) _ _ _
  refine Γa (Γb (Γb ?_))
  have low:∀ {b:Addr},b < h0.objs.size→b ∉ [it]:=fun {b} hb=>by simp; exact Γo (Nat.lt_of_lt_of_le hb hit)
  obtain ⟨o,es,ep,h1,h2⟩:=hr
  exact hR g tk xs hk ⟨o,es,ep,kk D o (by simp; exact hne) h1,h2⟩ fun b o hb e=>kk b o (low hb) (kp b o hb e)
 | cons p rest ih =>
  intro ys us i s kvs xs hd hi hv hp hst kp hk hr hz hR
  cases hp with
  | @cons y _ ys' _ hpq hp' =>
  obtain ⟨b,kb,rfl,hb,hkb⟩:=hpq
  cases hv with
  | @cons _ u _ us' ru hv' =>
  cases (show u=Value.ref b from ru)
  have hi':items[i]?=some (.ref b):=by
   have:=congrArg (fun l:List Value=>l[0]?) hd
   simpa using this
  have lt:i < items.size:=(Array.getElem?_eq_some_iff.mp hi').1
  have hd':items.toList.drop (i + 1)=us':=by
   have:=congrArg List.tail hd
   simpa using this
  obtain ⟨_,its,rt,o,e1,e2,n,e3⟩:=(show ObjOk P w H h0 b (.tup [.ref kb,p.2]) from ok b _ hb)
  cases rt with
  | @cons _ u1 _ t1 r1 rt =>
  cases (show u1=Value.ref kb from r1)
  cases rt with
  | @cons _ u2 _ t2 r2 rt =>
  cases rt
  have low:∀ {b:Addr},b < h0.objs.size→b ∉ [it]:=fun {b} hb=>by simp; exact Γo (Nat.lt_of_lt_of_le hb hit)
  refine codeAny_builtin F.entry_dict_update_loop ?_; rw [PySem.Around.under_plainId F.plain_dict_update_loop _]
  show wpAny _ A.in1 (pyNext (.ref it) >>= _) _ _ s
  refine Γa (W.item i s _ _ lt ⟨hst,lst kp⟩ fun v g tk vP st1 kk=>?_)
  have vP:items[i]?=some v:=vP
  rw [hi'] at vP
  cases vP
  have kp1:L2.Kept h0 g h0.objs.size:=fun b o hb e=>kk b o (low hb) (kp b o hb e)
  have hr1:b0l P w g D xs:=by
   obtain ⟨o,es,ep,h1,h2⟩:=hr
   exact ⟨o,es,ep,kk D o (by simp; exact hne) h1,h2⟩
  have eb:g.get? b=some o:=kp1 b o (Γl e1) e1
  show wpAny _ A.in1 (holding [Value.ref b] _ >>= _) _ _ _
  refine Γa (Γg (Γa (wpAny_tryCatch ?_)))
  unfold Builtin.Dict.pairItems
  refine Γa (wpAny_typeOf (show Shared.TypeIs _ (.ref b) "tuple" from ⟨o,eb,e2⟩) ?_)
  rw [if_pos (by decide)]
  refine Γa (wpAny_seqItems eb e3 (Γb ?_))
  show wpAny _ A.in1 (holding [Value.ref kb,u2] (dictSet D (.ref kb) u2)) _ _ _
  have hz1:xs.length≤sizeLine:=by
   have:=Paired.length hk
   simp only [List.length_cons] at hz
   lia
  refine Γg (wpAny_dictSet_heap (knd:=tupleKind (a0t P w)) (hsz:=hz1) hu (b8w ok kp1 hkb) (c2b ok kp1 hk hr1) fun h' dd' hs=>?_)
  obtain ⟨q,es,ep,hq,h2',h3',h4',h5',h6'⟩:=dd'
  have kp2:L2.Kept h0 h' h0.objs.size:=fun b o hb e=>(hs.2 b (fun z=>absurd hb (by rw [z]; exact Nat.not_lt.mpr hD))).trans (kp1 b o hb e)
  have hit':h'.IsListIter it l (i + 1):=by
   obtain ⟨o,x1,x2⟩:=st1.1
   exact ⟨o,(hs.2 it (Ne.symm hne)).trans x1,x2⟩
  have en:(i:Int) + 1=((i + 1:Nat):Int):=by lia
  show wpAny _ A.in1 (again (.builtin "dict.update.loop" ⟨[.ref D,.ref it,rawInt ((i:Int) + 1),.none],[]⟩)) _ _ _
  rw [en]
  refine Γb ⟨plainId_quiet F.plain_dict_update_loop _,ih ys' us' (i + 1) _ (a5e kvs p.1 p.2) _ hd' lt hv' hp' hit' kp2 (hk.put p.1 hkb r2) ⟨q,es,ep,hq,h2',h3',h4',h6'⟩ ?_ fun h'' tk' xs' x1 x2 x3=>hR h'' tk' xs' x1 x2 x3⟩
  have:=a2k kvs p.1 p.2
  simp only [List.length_cons] at hz
  lia
end
section
variable {X:Cx} {pins:List (Addr×Obj)} {σ:L2.St} {H:Hp} {s:Shared} {A:Around} {E:Value→Shared→Prop}
theorem a7p {l:Addr} {ys:List V} {ps:List (List Key×V)} {Q:Value→Shared→Prop} (hu:A.in1.in1.units < cLine) (hh:A.in1.in1.handled=none) (I:Inv X pins σ H s) (hl:SqL X.K H l ys) (hp:a8s H ys ps)
  (h:∀ p s',H p=none→Inv X pins σ (upd H p (.dT (ps.foldl (fun k q=>a5e k q.1 q.2) []))) s'→Q (.ref p) s'):wpAny (model X.prog X.w) A (call (.type "dict") [.ref l]) Q E s:=by
 obtain ⟨its,rv,pl,hz⟩:=I.list hl
 have hll:=pl.isList
 have lp:ys.length=ps.length:=Paired.length hp
 have ll:l < s.heap.objs.size:=by obtain ⟨_,e,_⟩:=hll; exact Γl e
 refine callType_codes (Q₁:=fun obj s₁=>obj=.ref s.heap.objs.size∧s₁ = { s with heap:=s.heap.push { cls:=.type "dict",data:=.dict #[] } }) PySem.F.kt_called_dict (PySem.F.kt_typeCall_dict_1 _) PySem.F.entry_dict_init (kt_code_dict_new _ ⟨rfl,rfl⟩) ?_
 rintro obj s₁ ⟨rfl,rfl⟩
 have nD:(s.heap.push { cls:=.type "dict",data:=.dict #[] }).get? s.heap.objs.size=some { cls:=.type "dict",data:=.dict #[] }:=Γm _ rfl
 have hT:Shared.TypeIs { s with heap:=s.heap.push { cls:=.type "dict",data:=.dict #[] } } (.ref s.heap.objs.size) "dict":=⟨_,nD,rfl⟩
 refine ⟨hT,PySem.F.args_dict_init_2 _ _,?_⟩
 unfold Builtin.«dict.__init__»
 refine Γa ?_
 unfold Builtin.Dict.selfAndRest
 refine Γa (wpAny_notOrdered_dict hT ?_)
 show wpAny _ _ (pure (s.heap.objs.size,[Value.ref l])) _ _ _
 refine Γb ?_
 show wpAny _ _ (Builtin.Dict.updateFrom "dict.__init__" s.heap.objs.size (.ref l) [] .none) _ _ _
 unfold Builtin.Dict.updateFrom
 have hl1:(s.heap.push { cls:=.type "dict",data:=.dict #[] }).IsList l its.toArray:=hll.push _
 refine Γa (wpAny_typeOf hl1.typeIs ?_)
 rw [if_pos (by decide)]
 obtain ⟨o,n,f1,f2,f3,f4⟩:=pl
 refine Γa (a4u (Γc _ f1) f2 f4 f3 a7t (by nofun) hh (fun h' tk e hx=>?_) (by nofun))
 rw [if_pos (show (none:Option Value).isNone=true from rfl)]
 refine Γa (wpAny_rule (Γa (wpAny_pyIter_list (hl1.at fun o e=>hx.keeps _ _ e) (Γb ⟨plainId_quiet F.plain_dict_update_loop _,?_⟩))))
 have kp:∀ b o,s.heap.get? b=some o→(h'.push { cls:=.type "list_iterator",data:=.fields #[.ref l,.int 0 0] }).get? b=some o:=fun b o e=>Γc _ (hx.keeps _ _ (Γc _ e))
 have d1:=hx.keeps _ _ nD
 have lD:s.heap.objs.size < h'.objs.size:=Γl d1
 refine c8l (P:=X.prog) (w:=X.w) (A:=A.in1) (h0:=s.heap) (H:=H) I.hok hu hh hll (Nat.le_of_lt lD) (Γi _) (Γo lD) ps ys its 0 _ [] [] (by simp) (Nat.zero_le _) rv hp ⟨_,Γm _ rfl,rfl,rfl⟩ (fun b o _ e=>kp b o e) .nil
  ⟨_,#[],0,Γc _ d1,⟨rfl,rfl,rfl⟩,rfl,rfl,List.nodup_nil⟩ (by simp; lia) fun h'' tk' xs' x1 x2 x3=>⟨rfl,h _ _ (I.hok.fresh (Γi _)) ?_⟩
 obtain ⟨q,es,ep,hq,h2',h3',h4',h6'⟩:=x2
 refine I.laid (a:=s.heap.objs.size) (t':=tk') (fun b u e=>x3 b u (Γl e) e) (Γi _) ⟨?_,beq_eq_false_iff_ne.mpr (Ne.symm (Γo I.big)),xs',x1.keeps fun c ys ec=>?_,q,es,ep,hq,h2',h3',h4',h6'⟩
 ·have:∀ (ps kvs:List (List Key×V)),(ps.foldl (fun k q=>a5e k q.1 q.2) kvs).length≤kvs.length + ps.length:=by
   intro ps
   induction ps with
   | nil=>intro kvs; exact Γi _
   | cons p r ih =>
    intro kvs
    have a:=ih (a5e kvs p.1 p.2)
    have b:=a2k kvs p.1 p.2
    simp only [List.foldl_cons,List.length_cons]
    lia
  have:=this ps []
  simp only [List.length_nil] at this
  lia
 ·have:c≠s.heap.objs.size:=fun z=>by rw [z,I.hok.fresh (Γi _)] at ec; cases ec
  rw [a0e this]; exact ec
end
end Kq
end
section
namespace Kq
open PySem PySem.Spec PyProof.Rows L2
noncomputable def b8d:FV→Option (List Int×FV)
 | .tup [.tup ks,v]=>(a0o ks).map fun k=>(k,v)
 | _=>none
noncomputable def a8e:List FV→Option (List (List Int×FV))
 | []=>some []
 | x :: r=>(b8d x).bind fun p=>(a8e r).map fun q=>p :: q
noncomputable def a1l {α:Type}:List (List Int×α)→List (List Int)→List α→List (List Int)×List α
 | [],ks,vs=>(ks,vs)
 | p :: r,ks,vs=>a1l r (a2o ks vs p.1 p.2).1 (a2o ks vs p.1 p.2).2
noncomputable def c0a (v:FV):Option FV:=(a2a v).bind fun xs=>(a8e xs).bind fun ps=>some (.dct (a1l ps [] []).1 (a1l ps [] []).2)
section
variable {K:Γd} {S:Hp}
theorem b8c {x:FV} {p:List Int×FV} (e:b8d x=some p):∃ ks,x=.tup [.tup ks,p.2]∧a0o ks=some p.1:=by
 unfold b8d at e
 split at e
 ·obtain ⟨k,e1,rfl⟩:=mpd e
  exact ⟨_,rfl,e1⟩
 ·cases e
theorem a6s:∀ {xs:List FV} {ys:List V} {ps:List (List Int×FV)},RVs K S xs ys→a8e xs=some ps→∃ qs:List (List Int×V),a8s S ys (qs.map fun q=>(q.1.map Sum.inl,q.2))∧qs.map (·.1)=ps.map (·.1)∧RVs K S (ps.map (·.2)) (qs.map (·.2))
 | [],ys,ps,r,e=>by
  cases (show ys=[] from r)
  cases e
  exact ⟨[],.nil,rfl,rfl⟩
 | x :: xs,ys,ps,⟨v,r,e0,h1,h2⟩,e=>by
  subst e0
  obtain ⟨p,e1,e2⟩:=bnd e
  obtain ⟨q,e3,rfl⟩:=mpd e2
  obtain ⟨ks,rfl,e4⟩:=b8c e1
  obtain ⟨qs,g1,g2,g3⟩:=a6s h2 e3
  obtain ⟨b,zs,rfl,hb,hz⟩:=h1
  obtain ⟨u1,u2,rfl,r1,r2⟩:=hz.two_of
  obtain ⟨kb,rfl,hk⟩:=a8j r1 e4
  exact ⟨(p.1,u2) :: qs,.cons ⟨b,kb,rfl,hb,hk⟩ g1,by simp [g2],⟨u2,_,rfl,r2,g3⟩⟩
theorem a5m {α:Type}:∀ (ps:List (List Int×α)) (ks:List (List Int)) (vs:List α),ks.length=vs.length→(a1l ps ks vs).1.length=(a1l ps ks vs).2.length
 | [],ks,vs,h=>h
 | p :: r,ks,vs,h=>a5m r _ _ (a4k ks vs p.1 p.2 h).1
theorem a5j:∀ (qs:List (List Int×V)) (ks:List (List Int)) (us:List V),ks.length=us.length→(qs.map fun q=>((q.1.map Sum.inl:List Key),q.2)).foldl (fun k q=>a5e k q.1 q.2) ((a0y ks).zip us)=(a0y (a1l qs ks us).1).zip (a1l qs ks us).2
 | [],ks,us,h=>rfl
 | q :: r,ks,us,h=>by
  rw [List.map_cons,List.foldl_cons,b2q ks us q.1 q.2 h]
  exact a5j r _ _ (a4k ks us q.1 q.2 h).1
theorem a5k:∀ {ps:List (List Int×FV)} {qs:List (List Int×V)} {ks:List (List Int)} {vs:List FV} {us:List V},qs.map (·.1)=ps.map (·.1)→RVs K S (ps.map (·.2)) (qs.map (·.2))→RVs K S vs us→(a1l ps ks vs).1=(a1l qs ks us).1∧RVs K S (a1l ps ks vs).2 (a1l qs ks us).2
 | [],[],ks,vs,us,_,_,r=>⟨rfl,r⟩
 | [],q :: qs,ks,vs,us,e,_,_=>by cases e
 | p :: ps,[],ks,vs,us,e,_,_=>by cases e
 | p :: ps,q :: qs,ks,vs,us,e,⟨v,r',e0,h1,h2⟩,r=>by
  simp only [List.map_cons,List.cons.injEq] at e e0
  obtain ⟨e1,e2⟩:=e
  obtain ⟨e3,e4⟩:=e0
  subst e3
  rw [← e4] at h2
  obtain ⟨g1,g2⟩:=a6g (ks:=ks) (k:=p.1) r h1
  have:=a5k (ks:=(a2o ks vs p.1 p.2).1) e2 h2 g2
  show (a1l ps (a2o ks vs p.1 p.2).1 (a2o ks vs p.1 p.2).2).1=(a1l qs (a2o ks us q.1 q.2).1 (a2o ks us q.1 q.2).2).1∧RVs K S (a1l ps (a2o ks vs p.1 p.2).1 (a2o ks vs p.1 p.2).2).2 (a1l qs (a2o ks us q.1 q.2).1 (a2o ks us q.1 q.2).2).2
  rw [e1,← g1]
  exact this
end
section
variable {X:Cx}
noncomputable def d5w (X:Cx):List V→Hp→VK→Prop:=fun xs H Q=>∃ (a:Addr) (ys:List V) (ps:List (List Key×V)),xs=[.ref a]∧SqL X.K H a ys∧a8s H ys ps∧∀ p,H p=none→Q (.ref p) (upd H p (.dT (ps.foldl (fun k q=>a5e k q.1 q.2) [])))
theorem c5j (hc:X.calm=true) (hu:X.A.units + 64 < cLine):a1n X (.type "dict") (d5w X):=by
 rintro pins s σ H xs us Q I r ⟨a,ys,ps,rfl,hl,hp,k⟩
 obtain ⟨u,rfl,ru⟩:=a3t r
 cases (show u=Value.ref a from ru)
 have h1:X.A.in1.handled=none:=I.ok.hd hc
 refine a7p ?_ ?_ I hl hp fun p s' hp' I'=>⟨.ref p,_,I',rfl,k p hp'⟩
 ·show X.A.units + 1 + 1 < cLine
  lia
 ·exact h1
end
section
variable {X:Cx} {C:CC} {n:Nat} {sp:Γd→Nat→Sp} {a b:Expr} {ea eb:EW} {pos p:Pos}
theorem d8o (G:Good X C n sp) (hg:C.gl (Γe "dict")=true) (hs:a0g a=false) (ha:FR X C a ea):FE X C (.Call (.Name (Γe "dict") p) [a] [] pos) (eUn c0a ea) :=
 PE.imp (a4m (c5j G.calm G.room.units) (G.gl hg) (G.blt "dict" (by decide)) (by nofun) (a0j ha a1s (a0c hs)) (by nofun) (by nofun) (a0c hs) rfl) fun σ H Q ⟨c,L,S,Q0,I,h,k⟩ =>
 ⟨c,L,S,_,I,h,fun v L1 hv x S1 H1 r1 I1 s1=>by
  obtain ⟨z,e,q⟩:=wpx hv
  obtain ⟨xs,e1,e2⟩:=bnd e
  obtain ⟨ps,e3,e4⟩:=bnd e2
  cases e4
  obtain ⟨a,ys,rfl,hq,ry⟩:=r1.list I1.sub e1
  obtain ⟨qs,g1,g2,g3⟩:=a6s ry e3
  have hp:a8s H1 ys (qs.map fun q=>(q.1.map Sum.inl,q.2)):=Paired.mapP g1 fun _ _ ⟨b,kb,f1,f2,f3⟩=>⟨b,kb,f1,I1.sub _ _ f2,I1.sub _ _ f3⟩
  refine ⟨a,ys,_,rfl,hq,hp,fun p hp0=>?_⟩
  have ev:=a5j qs [] [] rfl
  obtain ⟨h1,h2⟩:=a5k (ks:=[]) (vs:=[]) (us:=[]) g2 g3 (show RVs X.K S1 [] [] from rfl)
  rw [show (a0y []).zip ([]:List V)=[] from rfl] at ev
  rw [ev]
  refine k _ L1 q _ _ _ ?_ (I1.new hp0 _) (s1.trans (a0h (I1.sn hp0)))
  exact ⟨p,_,rfl,a5m ps [] [] rfl,by rw [h1]; exact a0f,h2.mono (a0h (I1.sn hp0))⟩⟩
theorem d4h {nx:Str} {p2:Pos} (G:Good X C n sp) (ha:FE X C a ea) (hb:FE X C (.Name nx p2) eb):FE X C (.Subscript a (.Name nx p2) pos) (eOp b6a ea eb) :=
 PE.imp (b2t (X:=X.nox) (by have:=G.room.units; show X.A.units + 1 < cLine; lia) ha hb fun _ _=>rfl) fun σ H Q ⟨c,L,S,Q0,I,h,k⟩ =>
 ⟨c,L,S,_,I,h,fun v L1 hv x S1 H1 r1 I1 s1=>⟨c,L1,S1,_,I1,hv,fun w L2 hw y S2 H2 r2 I2 s2=>by
  obtain ⟨z,e,q⟩:=wpx hw
  cases v with
  | dct ks vs =>
   obtain ⟨ps,e1,e2⟩:=bnd e
   obtain ⟨kk,e3,e4⟩:=bnd e2
   cases a1u e1
   obtain ⟨a,us,rfl,hl,h2,g⟩:=a6k (X:=X) I2.sub (.inl r2) (.inl (r1.mono s2)) e3
   obtain ⟨u,e5,r5⟩:=a6j h2 e4
   rw [e5] at g
   exact ⟨a,u,rfl,g,k z L2 q u S2 H2 r5 I2 (s1.trans s2)⟩
  | _=>cases e⟩⟩
end
@[scoped simp ↓] theorem f_dict (v:FV) (Q:FV→Prop):wp (c0a v) Q↔wp (a2a v) fun xs=>wp (a8e xs) fun ps=>Q (.dct (a1l ps [] []).1 (a1l ps [] []).2):=by
 show wp ((a2a v).bind _) Q↔_
 simp only [a1f]; rfl
noncomputable def c8a (i:Nat) (eb:EW):AW:=fun L Q=>wp (lk L i) fun _=>eb L fun y L1=>wp (lk L1 i) fun x=>wp (a3v x) fun xs=>wp (a3v y) fun ys=>Q (a3w xs ys) L1
section
variable {X:Cx} {C:CC} {n:Nat} {sp:Γd→Nat→Sp} {b:Expr} {eb:EW} {pos p p2 tp:Pos} {i kk:Nat} {nx:Str} {elts:List Expr}
theorem d7w (G:Good X C n sp) (hg:C.gl (Γe "zip")=true) (h:C.nm i nx=true) (m:a0m C.md i=.own) (hs2:a0g b=false) (hb:FE X C b eb):FI X C (C.md.set i .frz) (.Tuple elts kk tp) (.Call (.Name (Γe "zip") p) [.Name nx p2,b] [] pos) (c8a i eb) :=
 PI.imp (d0r (G.gl hg) (G.blt "zip" (by decide)) (a0j (a1r G h) (a0j hb a1s (a0c hs2)) (a0c rfl)) (by rw [a0c rfl,a0c hs2]; rfl) (a0c hs2)) fun σ H R ⟨c,L,S,Q0,I,h,k⟩=>by
 obtain ⟨v,e,h⟩:=wpx h
 have e:=(a2p _ _ _).mp e
 obtain ⟨l,e1,_,_⟩:=I.own i v (fun z=>by rw [m] at z; cases z) e
 refine ⟨_,e1,c,L,S,_,I,h,fun w L2 hw y S2 H2 r2 I2 s2=>?_⟩
 obtain ⟨v2,e2,hw⟩:=wpx hw
 obtain ⟨ps,e0,hw⟩:=wpx hw
 obtain ⟨qs,e',q⟩:=wpx hw
 have e2:=(a2p _ _ _).mp e2
 obtain ⟨l2,f1,⟨o1,rs,vs,e9,o2,o3⟩,o4⟩:=I2.own i v2 (fun z=>by rw [m] at z; cases z) e2
 rw [e1] at f1; cases f1
 obtain ⟨e3,e4⟩:=c7e e9 e0
 subst e3 e4
 obtain ⟨l',rfl,st'⟩:=r2.stays e'
 obtain ⟨ws,h2,_⟩:=st' S2 H2 (Same.refl _) I2.sub
 obtain ⟨I',un⟩:=I2.frz m e2 e1 o2
 exact ⟨true,_,l,l',rfl,⟨vs,SqL.of o2⟩,⟨ws,h2⟩,k _ L2 q _ _ S2 H2 I' un rfl (b9f (t:=true) (fun L σ S' H I s=>⟨vs,SqL.of (I.prs (l,.lst vs) Γn).1,o3.mono s⟩) fun L σ S H I s=>st' S H s I.sub) s2⟩
end
@[scoped simp ↓] theorem d3x (i:Nat) (eb:EW) (L:a0d) (Q:List FV→a0d→Prop):c8a i eb L Q=(wp (lk L i) fun _=>eb L fun y L1=>wp (lk L1 i) fun x=>wp (a3v x) fun xs=>wp (a3v y) fun ys=>Q (a3w xs ys) L1):=propext Iff.rfl
end Kq
end
section
namespace L2
open PySem PySem.Spec PyProof.Rows
noncomputable def a1m (h:Heap) (z TI TO:Addr) (f m:Value):Prop:=h.get? z=some { cls:=.type "zip",data:=.fields #[f,m,.bool false,.ref TI,.ref TO] }
theorem a5h {M:Model} {A:Around} {E:Value→Shared→Prop} {s:Shared} {a:Addr} {Q:Option Obj→Shared→Prop} (h:Q (s.heap.get? a) s):wpAny M A (loadIfAlive a) Q E s:=fun _ _ _=>h
section
variable {P:Program} {w:World} {A:Around} {E:Value→Shared→Prop} {s:Shared} {z TI TO:Addr} {f m:Value}
theorem b3l (zz:a1m s.heap z TI TO f m) (hf:f=.none ∨ ∃ n,f=.int n 0) (hm:∃ c,m=.bool c):wpAny (model P w) A (Builtin.SmallTypes.ownedTupleIsFree (.ref z)) (fun r s'=>(r=true∧s'=s) ∨ (r=false∧∃ g m',(∃ c,m'=.bool c)∧s' = { s with heap:=g }∧a1m g z TI TO f m'∧Heap.SameBut z s.heap g)) (fun _ _=>False) s:=by
 unfold Builtin.SmallTypes.ownedTupleIsFree
 refine Γa (wpAny_field zz rfl (x:=f) rfl ?_)
 rcases hf with rfl | ⟨n,rfl⟩
 ·exact Γb (.inl ⟨rfl,rfl⟩)
 ·refine Γa (a5h ?_)
  cases e:s.heap.get? n.toNat with
  | none=>exact Γb (.inl ⟨rfl,rfl⟩)
  | some o =>
   rw [if_neg (by exact Γk)]
   refine Γa (wpAny_field zz rfl (x:=m) rfl ?_)
   obtain ⟨c,rfl⟩:=hm
   cases c with
   | true =>
    rw [if_neg (by decide)]
    exact Γb (.inr ⟨rfl,s.heap,_,⟨_,rfl⟩,rfl,zz,rfl,fun b hb=>rfl⟩)
   | false =>
    rw [if_pos (by decide)]
    refine Γa (wpAny_setField_rec zz (by simp) fun g1 z1 b1=>Γb (.inr ⟨rfl,g1,.bool true,⟨_,rfl⟩,rfl,z1,b1⟩))
end
section
variable {P:Program} {w:World} {A:Around} {E:Value→Shared→Prop} {s:Shared} {p q:Bool} {z TI TO i1 i2 l1 l2:Addr} {k1 k2:Nat} {xs ys:Array Value} {x y a b f m:Value}
theorem b6p {Q:Value→Shared→Prop} (D:ZipApart z TI TO i1 i2 l1 l2) (zz:a1m s.heap z TI TO f m) (hf:f=.none ∨ ∃ n,f=.int n 0) (hm:∃ c,m=.bool c) (zi:IsPair s.heap TI (.ref i1) (.ref i2)) (zo:IsPair s.heap TO a b)
  (t1:IterB p s.heap i1 l1 k1) (t2:IterB q s.heap i2 l2 k2) (m1:SeqB p s.heap l1 xs) (m2:SeqB q s.heap l2 ys) (ex:xs[k1]?=some x) (ey:ys[k2]?=some y)
  (K:∀ h' f' m',(f'=.none ∨ ∃ n,f'=.int n 0)→(∃ c,m'=.bool c)→a1m h' z TI TO f' m'→(∃ c d,IsPair h' TO c d)→IterB p h' i1 l1 (k1 + 1)→IterB q h' i2 l2 (k2 + 1)→IsPair h' s.heap.objs.size x y →
   (∀ c o,c≠z→c≠TO→c≠i1→c≠i2→s.heap.get? c=some o→h'.get? c=some o)→Q (.ref s.heap.objs.size) { s with heap:=h' }) :
  wpAny (model P w) A (Builtin.«zip.__next__» ⟨[.ref z],[]⟩) (fun fin s'=>∃ v,fin=.done (.ret v)∧Q v s') E s:=by
 show wpAny _ _ (field (.ref z) 2 >>= _) _ _ _; refine Γa (wpAny_field zz rfl (x:=.bool false) rfl ?_)
 show wpAny _ _ (field (.ref z) 3 >>= _) _ _ _; refine Γa (wpAny_field zz rfl (x:=.ref TI) rfl (Γa (wpAny_seqItems zi rfl ?_)))
 show wpAny _ _ (Builtin.SmallTypes.ownedTupleIsFree (.ref z) >>= _) _ _ _
 refine Γa (wpAny_mono (b3l zz hf hm) ?_ fun _ _ h=>h.elim)
 rintro r s' (⟨hr,hs'⟩ | ⟨hr,g,m',hm',hs',zz',b0⟩)
 ·rw [hs',hr]; simp only [if_true]
  refine Γa (wpAny_rule (Γa (wpAny_field zz rfl (x:=.ref TO) rfl (Γa (wpAny_setField_rec zz (by simp) fun g1 z1 b1=>?_)))))
  replace z1:a1m g1 z TI TO .ellipsis m:=z1
  refine Γa ?_; simp only [List.zipIdx_cons,List.zipIdx_nil,List.forIn_cons,List.forIn_nil]
  refine Γa (Γa (wpAny_onRaise ?_)); show wpAny _ _ (Builtin.SmallTypes.nextOf (.ref i1) >>= _) _ _ _
  refine Γa (a7s (t1.move b1.extBut D.i1z) (m1.move b1.extBut D.l1z) ex fun g2 t12 b2=>Γb ?_)
  have o2:IsPair g2 TO a b:=b2.extBut _ _ D.TOi1 (b1.extBut _ _ D.TOz zo)
  refine Γa (wpAny_seqItems o2 rfl (Γa (wpAny_updateSeq_pair o2 fun g3 o3 b3=>?_)))
  replace o3:IsPair g3 TO x b:=o3
  refine Γa (wpAny_letGo (Γb (Γa (Γa (wpAny_onRaise ?_))))); show wpAny _ _ (Builtin.SmallTypes.nextOf (.ref i2) >>= _) _ _ _
  refine Γa (a7s (((t2.move b1.extBut D.i2z).move b2.extBut D.i12.symm).move b3.extBut D.TOi2.symm) (((m2.move b1.extBut D.l2z).move b2.extBut D.l2i1).move b3.extBut D.l2TO) ey fun g4 t24 b4=>Γb ?_)
  have o4:IsPair g4 TO x b:=b4.extBut _ _ D.TOi2 o3
  refine Γa (wpAny_seqItems o4 rfl (Γa (wpAny_updateSeq_pair o4 fun g5 o5 b5=>?_)))
  replace o5:IsPair g5 TO x y:=o5
  refine Γa (wpAny_letGo (Γb (Γb (Γa (wpAny_seqItems o5 rfl (Γa (wpAny_newTuple ?_)))))))
  have sz:g5.objs.size=s.heap.objs.size:=by rw [b5.1,b4.1,b3.1,b2.1,b1.1]
  have z5:a1m g5 z TI TO .ellipsis m:=b5.extBut _ _ D.TOz.symm (b4.extBut _ _ D.i2z.symm (b3.extBut _ _ D.TOz.symm (b2.extBut _ _ D.i1z.symm z1)))
  have kk:∀ c o,c≠z→c≠TO→c≠i1→c≠i2→s.heap.get? c=some o→g5.get? c=some o:=fun c o c1 c2 c3 c4 e=>b5.extBut _ _ c2 (b4.extBut _ _ c4 (b3.extBut _ _ c2 (b2.extBut _ _ c3 (b1.extBut _ _ c1 e))))
  have t15:IterB p g5 i1 l1 (k1 + 1):=((t12.move b3.extBut D.TOi1.symm).move b4.extBut D.i12).move b5.extBut D.TOi1.symm
  have t25:IterB q g5 i2 l2 (k2 + 1):=t24.move b5.extBut D.TOi2.symm
  have zlt:z < g5.objs.size:=Γl z5
  show wpAny _ _ (Builtin.SmallTypes.ownedTupleHandOut (.ref z) (.ref g5.objs.size) >>= _) _ _ _; refine Γa ?_; unfold Builtin.SmallTypes.ownedTupleHandOut
  have z6:a1m (g5.push { cls:=.type "tuple",data:=.seq #[x,y] }) z TI TO .ellipsis m:=Γc _ z5
  refine Γa (wpAny_setField_rec z6 (by simp) fun g7 z7 b7=>?_); replace z7:a1m g7 z TI TO (rawInt g5.objs.size) m:=z7
  refine wpAny_setField_rec z7 (by simp) fun g8 z8 b8=>?_; replace z8:a1m g8 z TI TO (rawInt g5.objs.size) (.bool false):=z8
  have up:∀ c o,c≠z→g5.get? c=some o→g8.get? c=some o:=fun c o c1 e=>b8.extBut _ _ c1 (b7.extBut _ _ c1 (Γc _ e))
  have tt:IsPair g8 g5.objs.size x y:=b8.extBut _ _ (Nat.ne_of_gt zlt) (b7.extBut _ _ (Nat.ne_of_gt zlt) (Γm _ rfl))
  rw [sz] at z8 tt
  refine Γb ⟨_,rfl,?_⟩; show Q (.ref g5.objs.size) _; rw [sz]
  exact K g8 _ _ (.inr ⟨_,rfl⟩) ⟨_,rfl⟩ z8 ⟨_,_,up _ _ D.TOz o5⟩ (t15.to fun o e=>up _ o D.i1z e) (t25.to fun o e=>up _ o D.i2z e) tt fun c o c1 c2 c3 c4 e=>up c o c1 (kk c o c1 c2 c3 c4 e)
 ·rw [hs',hr]; simp only [Γp,if_false]
  refine Γa ?_
  rw [← Array.forIn_toList]
  simp only [List.forIn_cons,List.forIn_nil]
  refine Γa (Γa (Γg ?_)); show wpAny _ _ (Builtin.SmallTypes.nextOf (.ref i1) >>= _) _ _ _
  refine Γa (a7s (t1.move b0.extBut D.i1z) (m1.move b0.extBut D.l1z) ex fun g2 t12 b2=>Γb (Γb ?_))
  refine Γa (Γa (Γg ?_)); show wpAny _ _ (Builtin.SmallTypes.nextOf (.ref i2) >>= _) _ _ _
  refine Γa (a7s ((t2.move b0.extBut D.i2z).move b2.extBut D.i12.symm) ((m2.move b0.extBut D.l2z).move b2.extBut D.l2i1) ey fun g4 t24 b4=>Γb (Γb (Γb ?_)))
  show wpAny _ _ (newTuple [x,y] >>= _) _ _ _
  refine Γa (wpAny_newTuple (Γb ⟨_,rfl,?_⟩))
  have sz:g4.objs.size=s.heap.objs.size:=by rw [b4.1,b2.1,b0.1]
  show Q (.ref g4.objs.size) _
  have tt:IsPair (g4.push { cls:=.type "tuple",data:=.seq #[x,y] }) g4.objs.size x y:=Γm _ rfl
  rw [sz] at tt
  rw [sz]
  have z4:a1m g4 z TI TO f m':=b4.extBut _ _ D.i2z.symm (b2.extBut _ _ D.i1z.symm zz')
  refine K _ f m' hf hm' (Γc _ z4) ⟨a,b,Γc _ (b4.extBut _ _ D.TOi2 (b2.extBut _ _ D.TOi1 (b0.extBut _ _ D.TOz zo)))⟩ ((t12.move b4.extBut D.i12).to fun o e=>Γc _ e) (t24.to fun o e=>Γc _ e) tt fun c o c1 c2 c3 c4 e=>Γc _ (b4.extBut _ _ c4 (b2.extBut _ _ c3 (b0.extBut _ _ c1 e)))
theorem c1f {Q:Fin→Shared→Prop} (hh:A.handled=none) (D:ZipApart z TI TO i1 i2 l1 l2) (zz:a1m s.heap z TI TO f m) (hf:f=.none ∨ ∃ n,f=.int n 0) (hm:∃ c,m=.bool c) (zi:IsPair s.heap TI (.ref i1) (.ref i2)) (zo:IsPair s.heap TO a b)
  (t1:IterB p s.heap i1 l1 k1) (t2:IterB q s.heap i2 l2 k2) (m1:SeqB p s.heap l1 xs) (m2:SeqB q s.heap l2 ys) (en:xs[k1]?=none ∨ ys[k2]?=none)
  (K:∀ h' e,(∀ c o,c≠z→c≠TO→c≠i1→c≠i2→s.heap.get? c=some o→h'.get? c=some o)→(∃ o,h'.get? e=some o∧o.cls=.type "StopIteration")→E (.ref e) { s with heap:=h' }) :
  wpAny (model P w) A (Builtin.«zip.__next__» ⟨[.ref z],[]⟩) Q E s:=by
 show wpAny _ _ (field (.ref z) 2 >>= _) _ _ _; refine Γa (wpAny_field zz rfl (x:=.bool false) rfl ?_)
 show wpAny _ _ (field (.ref z) 3 >>= _) _ _ _; refine Γa (wpAny_field zz rfl (x:=.ref TI) rfl (Γa (wpAny_seqItems zi rfl ?_)))
 show wpAny _ _ (Builtin.SmallTypes.ownedTupleIsFree (.ref z) >>= _) _ _ _
 refine Γa (wpAny_mono (b3l zz hf hm) ?_ fun _ _ h=>h.elim)
 rintro r s' (⟨hr,hs'⟩ | ⟨hr,g,m',hm',hs',zz',b0⟩)
 ·rw [hs',hr]; simp only [if_true]
  refine Γa (wpAny_rule (Γa (wpAny_field zz rfl (x:=.ref TO) rfl (Γa (wpAny_setField_rec zz (by simp) fun g1 z1 b1=>?_)))))
  replace z1:a1m g1 z TI TO .ellipsis m:=z1
  refine Γa ?_; simp only [List.zipIdx_cons,List.zipIdx_nil,List.forIn_cons,List.forIn_nil]
  refine Γa (Γa (wpAny_onRaise ?_)); show wpAny _ _ (Builtin.SmallTypes.nextOf (.ref i1) >>= _) _ _ _
  have fin:∀ {g:Heap} {e:Addr} {o:Obj},a1m g z TI TO .ellipsis m→g.get? e=some o→o.cls=.type "StopIteration"→e≠z:=fun h1 h2 h3 x=>by subst x; rw [h1] at h2; cases h2; simp at h3
  cases hx:xs[k1]? with
  | none =>
   refine Γa (b2j hh (t1.move b1.extBut D.i1z) (m1.move b1.extBut D.l1z) hx fun g2 e b2 he=>?_)
   obtain ⟨oe,e1,e2⟩:=he
   have z2:a1m g2 z TI TO .ellipsis m:=b2 _ _ D.i1z.symm z1
   exact wpAny_setField_rec z2 (by simp) fun g3 _ b3=>K g3 e (fun c o c1 _ c3 _ x=>b3.extBut _ _ c1 (b2 _ _ c3 (b1.extBut _ _ c1 x))) ⟨oe,b3.extBut _ _ (fin z2 e1 e2) e1,e2⟩
  | some x =>
   have hy:ys[k2]?=none:=by rcases en with h | h; rw [hx] at h; cases h; exact h
   refine Γa (a7s (t1.move b1.extBut D.i1z) (m1.move b1.extBut D.l1z) hx fun g2 t12 b2=>Γb ?_)
   have o2:IsPair g2 TO a b:=b2.extBut _ _ D.TOi1 (b1.extBut _ _ D.TOz zo)
   refine Γa (wpAny_seqItems o2 rfl (Γa (wpAny_updateSeq_pair o2 fun g3 o3 b3=>Γa (wpAny_letGo (Γb (Γa (Γa (wpAny_onRaise ?_))))))))
   show wpAny _ _ (Builtin.SmallTypes.nextOf (.ref i2) >>= _) _ _ _
   refine Γa (b2j hh (((t2.move b1.extBut D.i2z).move b2.extBut D.i12.symm).move b3.extBut D.TOi2.symm) (((m2.move b1.extBut D.l2z).move b2.extBut D.l2i1).move b3.extBut D.l2TO) hy fun g4 e b4 he=>?_)
   obtain ⟨oe,e1,e2⟩:=he
   have z4:a1m g4 z TI TO .ellipsis m:=b4 _ _ D.i2z.symm (b3.extBut _ _ D.TOz.symm (b2.extBut _ _ D.i1z.symm z1))
   exact wpAny_setField_rec z4 (by simp) fun g5 _ b5=>K g5 e (fun c o c1 c2 c3 c4 x=>b5.extBut _ _ c1 (b4 _ _ c4 (b3.extBut _ _ c2 (b2.extBut _ _ c3 (b1.extBut _ _ c1 x))))) ⟨oe,b5.extBut _ _ (fin z4 e1 e2) e1,e2⟩
 ·rw [hs',hr]; simp only [Γp,if_false]
  refine Γa ?_
  rw [← Array.forIn_toList]
  simp only [List.forIn_cons,List.forIn_nil]
  refine Γa (Γa (Γg ?_)); show wpAny _ _ (Builtin.SmallTypes.nextOf (.ref i1) >>= _) _ _ _
  cases hx:xs[k1]? with
  | none =>
   refine Γa (b2j hh (t1.move b0.extBut D.i1z) (m1.move b0.extBut D.l1z) hx fun g2 e b2 he=>?_)
   exact K g2 e (fun c o c1 _ c3 _ x=>b2 _ _ c3 (b0.extBut _ _ c1 x)) he
  | some x =>
   have hy:ys[k2]?=none:=by rcases en with h | h; rw [hx] at h; cases h; exact h
   refine Γa (a7s (t1.move b0.extBut D.i1z) (m1.move b0.extBut D.l1z) hx fun g2 t12 b2=>Γb (Γb ?_))
   refine Γa (Γa (Γg ?_)); show wpAny _ _ (Builtin.SmallTypes.nextOf (.ref i2) >>= _) _ _ _
   refine Γa (b2j hh ((t2.move b0.extBut D.i2z).move b2.extBut D.i12.symm) ((m2.move b0.extBut D.l2z).move b2.extBut D.l2i1) hy fun g4 e b4 he=>?_)
   exact K g4 e (fun c o c1 _ c3 c4 x=>b4 _ _ c4 (b2.extBut _ _ c3 (b0.extBut _ _ c1 x))) he
theorem b6o {Q:Option Value→Shared→Prop} (D:ZipApart z TI TO i1 i2 l1 l2) (zz:a1m s.heap z TI TO f m) (hf:f=.none ∨ ∃ n,f=.int n 0) (hm:∃ c,m=.bool c) (zi:IsPair s.heap TI (.ref i1) (.ref i2)) (zo:IsPair s.heap TO a b)
  (t1:IterB p s.heap i1 l1 k1) (t2:IterB q s.heap i2 l2 k2) (m1:SeqB p s.heap l1 xs) (m2:SeqB q s.heap l2 ys) (ex:xs[k1]?=some x) (ey:ys[k2]?=some y)
  (K:∀ h' f' m',(f'=.none ∨ ∃ n,f'=.int n 0)→(∃ c,m'=.bool c)→a1m h' z TI TO f' m'→(∃ c d,IsPair h' TO c d)→IterB p h' i1 l1 (k1 + 1)→IterB q h' i2 l2 (k2 + 1)→IsPair h' s.heap.objs.size x y →
   (∀ c o,c≠z→c≠TO→c≠i1→c≠i2→s.heap.get? c=some o→h'.get? c=some o)→Q (some (.ref s.heap.objs.size)) { s with heap:=h' }):wpAny (model P w) A (pyNext (.ref z)) Q E s:=by
 have ty:s.TypeIs (.ref z) "zip":=⟨_,zz,rfl⟩
 unfold pyNext
 exact Γa (wpAny_attempt (wpAny_callSpecial?_slot (name:=Γe "__next__") ty F.slot_zip_next (wpAny_call_entry F.slot_zip_next ty F.entry_zip_next (b6p D zz hf hm zi zo t1 t2 m1 m2 ex ey fun h' f' m' x1 x2 a1 a2 a3 a4 a5 a6=>Γb (K h' f' m' x1 x2 a1 a2 a3 a4 a5 a6)) (F.args_zip_next_1 _))))
theorem b6n {Q:Option Value→Shared→Prop} (hh:A.handled=none) (D:ZipApart z TI TO i1 i2 l1 l2) (zz:a1m s.heap z TI TO f m) (hf:f=.none ∨ ∃ n,f=.int n 0) (hm:∃ c,m=.bool c) (zi:IsPair s.heap TI (.ref i1) (.ref i2)) (zo:IsPair s.heap TO a b)
  (t1:IterB p s.heap i1 l1 k1) (t2:IterB q s.heap i2 l2 k2) (m1:SeqB p s.heap l1 xs) (m2:SeqB q s.heap l2 ys) (en:xs[k1]?=none ∨ ys[k2]?=none)
  (K:∀ h',(∀ c o,c≠z→c≠TO→c≠i1→c≠i2→s.heap.get? c=some o→h'.get? c=some o)→Q none { s with heap:=h' }):wpAny (model P w) A (pyNext (.ref z)) Q E s:=by
 have ty:s.TypeIs (.ref z) "zip":=⟨_,zz,rfl⟩
 unfold pyNext
 refine Γa (wpAny_attempt (wpAny_callSpecial?_slot (name:=Γe "__next__") ty F.slot_zip_next (wpAny_call_entry F.slot_zip_next ty F.entry_zip_next (c1f hh D zz hf hm zi zo t1 t2 m1 m2 en fun h' e hk he=>?_) (F.args_zip_next_1 _))))
 obtain ⟨o,e1,e2⟩:=he
 exact Γa (wpAny_isInstance (T:="StopIteration") (b:=true) ⟨o,e1,e2⟩ isSubtype_stop (Γb (K _ hk)))
end
theorem b2p {prog:Program} {w:World} {A:Around} {E:Value→Shared→Prop} {s:Shared} {z TI TO:Addr} {f m:Value} {Q:Value→Shared→Prop} (zz:a1m s.heap z TI TO f m) (h:Q (.ref z) s):wpAny (model prog w) A (pyIter (.ref z)) Q E s:=by
 have hT:s.TypeIs (.ref z) "zip":=⟨_,zz,rfl⟩
 refine wpAny_pyIter_slot hT F.slot_zip_iter (wpAny_call_entry F.slot_zip_iter hT F.entry_zip_iter ?_ (F.args_zip_iter_1 _))
 show wpAny _ _ (ret (.ref z)) _ _ s
 exact Γb ⟨_,rfl,"zip",_,hT,F.slot_zip_next.lookup,h⟩
theorem c5p {P:Program} {w:World} {K:Γd} {p q:Bool} {nx:Str} {pos:Pos} {a b z TI TO i1 i2:Addr} (D:ZipApart z TI TO i1 i2 a b) :
  Turn P w K (.Name nx pos) (Iz2 K p q a b) [z,TO,i1,i2,TI] z (fun i h=>(∃ f m,(f=.none ∨ ∃ n,f=.int n 0)∧(∃ c,m=.bool c)∧a1m h z TI TO f m)∧IsPair h TI (.ref i1) (.ref i2)∧(∃ c d,IsPair h TO c d)∧IterB p h i1 a i∧IterB q h i2 b i) where
 mem:=by simp
 obj:=fun i h st c hc=>by
  obtain ⟨⟨f,m,hf0,hm0,zz⟩,zi,⟨x,y,zo⟩,t1,t2⟩:=st
  simp only [List.mem_cons,List.not_mem_nil,or_false] at hc
  rcases hc with rfl | rfl | rfl | rfl | rfl
  ·exact ⟨_,zz,fun v z=>by cases z⟩
  ·exact ⟨_,zo,fun v z=>by cases z⟩
  ·exact t1.obj
  ·exact t2.obj
  ·exact ⟨_,zi,fun v z=>by cases z⟩
 keep:=fun i h h' st kk=>by
  obtain ⟨⟨f,m,hf0,hm0,zz⟩,zi,⟨x,y,zo⟩,t1,t2⟩:=st
  exact ⟨⟨f,m,hf0,hm0,kk z (by simp) _ zz⟩,kk TI (by simp) _ zi,⟨x,y,kk TO (by simp) _ zo⟩,t1.to fun o e=>kk i1 (by simp) o e,t2.to fun o e=>kk i2 (by simp) o e⟩
 item:=by
  intro X hP hw hK hc i pins s σ H E I hf st hg
  subst hP hw hK
  obtain ⟨xs,ys,x,y,q1,q2,hx,hy⟩:=hg
  obtain ⟨⟨f,m,hf0,hm0,zz⟩,zi,⟨u0,v0,zo⟩,t1,t2⟩:=st
  obtain ⟨its,rv,m1,_⟩:=I.seqB q1
  obtain ⟨jts,rw',m2,_⟩:=I.seqB q2
  obtain ⟨u,hu,ru⟩:=rv.get hx
  obtain ⟨u',hu',ru'⟩:=rw'.get hy
  refine b6o D zz hf0 hm0 zi zo t1 t2 m1 m2 (x:=u) (y:=u') (by simpa using hu) (by simpa using hu') fun h'' f' m' hf' hm' z'' a2 a3 a4 T'' hk=>?_
  refine ⟨_,rfl,Γb ?_⟩
  have szn:z≠s.heap.objs.size:=Γo (Γl zz)
  have I1:Inv X pins σ (upd H s.heap.objs.size (.tup [x,y])) { s with heap:=h'' }:=I.turnedNew (t':=s.toks) (ch:=[z,TO,i1,i2]) (Γi _)
   (fun c ob hc e=>by simp only [List.mem_cons,List.not_mem_nil,or_false,not_or] at hc; exact hk c ob hc.1 hc.2.1 hc.2.2.1 hc.2.2.2 e)
   (fun c hc=>hf c (by simp only [List.mem_cons,List.not_mem_nil,or_false] at hc ⊢; rcases hc with z | z | z | z <;> simp [z])) ⟨by show 2≤sizeLine; decide,[u,u'],.cons ru (.cons ru' .nil),⟨_,T'',rfl,_,rfl⟩⟩
  refine ⟨.ref s.heap.objs.size,_,I1,rfl,⟨_,I.fresh,rfl,fun xs' ys' x' y' r1 r2 hx' hy'=>?_⟩,⟨⟨f',m',hf',hm',z''⟩,hk _ _ D.TIz D.TITO D.TIi1 D.TIi2 zi,a2,a3,a4⟩,fun c hc=>?_⟩
  ·have e1:=I.seqB_inj r1 q1
   have e2:=I.seqB_inj r2 q2
   subst e1 e2
   rw [hx] at hx'; rw [hy] at hy'; cases hx'; cases hy'; rfl
  ·have:c≠s.heap.objs.size:=by
    have hlt:c < s.heap.objs.size:=by
     simp only [List.mem_cons,List.not_mem_nil,or_false] at hc
     rcases hc with rfl | rfl | rfl | rfl | rfl
     ·exact Γl zz
     ·exact Γl zo
     ·exact t1.lt
     ·exact t2.lt
     ·exact Γl zi
    exact Γo hlt
   rw [a0e this]; exact (hf c hc).1
 done:=by
  intro X hP hw hK hc i pins s σ H E I hf st hg
  subst hP hw hK
  obtain ⟨xs,ys,q1,q2,hx⟩:=hg
  obtain ⟨⟨f,m,hf0,hm0,zz⟩,zi,⟨u0,v0,zo⟩,t1,t2⟩:=st
  obtain ⟨its,rv,m1,l1⟩:=I.seqB q1
  obtain ⟨jts,rw',m2,l2⟩:=I.seqB q2
  refine b6n (I.ok.hd hc) D zz hf0 hm0 zi zo t1 t2 m1 m2 (hx.elim (fun z=>.inl (by simp; lia)) fun z=>.inr (by simp; lia)) fun h' hk=>⟨rfl,?_⟩
  exact I.turnedL (t':=s.toks) (ch:=[z,TO,i1,i2]) (fun c ob hc e=>by simp only [List.mem_cons,List.not_mem_nil,or_false,not_or] at hc; exact hk c ob hc.1 hc.2.1 hc.2.2.1 hc.2.2.2 e)
   (fun c hc=>hf c (by simp only [List.mem_cons,List.not_mem_nil,or_false] at hc ⊢; rcases hc with z | z | z | z <;> simp [z]))
 self:=fun _ _ _ _ _ st h=>by
  obtain ⟨⟨f,m,hf0,hm0,zz⟩,_⟩:=st
  exact b2p zz h
section
variable {X:Cx}
theorem d6g {nx:Str} {tp:Pos} {e1 e2:Expr} {ta:TA} {p pos:Pos} (hg:Gl X "zip") (hm:X.mg "zip" = none) (ha:PA X [e1,e2] ta)
  (hs:starEach [e1,e2] X.env=[(false,eval e1 X.env),(false,eval e2 X.env)]) (hs2:starEach [e2] X.env=[(false,eval e2 X.env)]):PI X (.Name nx tp) (.Call (.Name "zip" p) [e1,e2] [] pos) (iZ2 X.K ta):=by
 intro pins s σ H R I h
 refine wpAny_Call_Name_kw (a4r I hg hm PyProof.Rows.boot_zip ?_ (by decide) (by decide))
 refine PyProof.Rows.callWith_type1 (thn (ha pos pins s σ H _ I h) fun us s1 ⟨vs,H1,I1,r1,q1⟩=>?_) (by rw [hs,hs2]) (by rw [hs2]; rfl)
 obtain ⟨p,q,a,b,e,⟨xs,hq1⟩,⟨ys,hq2⟩,kk⟩:=q1
 subst e
 obtain ⟨u1,u2,rfl,ra,rb⟩:=b6v r1
 cases ra; cases rb
 obtain ⟨its,rv,m1,_⟩:=I1.seqB hq1
 obtain ⟨jts,rw',m2,_⟩:=I1.seqB hq2
 refine b1w m1 m2 fun h' zz zi zo t1 t2 hk=>wpAny_pyIter_zip (f0:=.none) zz ?_
 have I2:Inv X pins σ H1 { s1 with heap:=h' }:=I1.kept (t':=s1.toks) fun c o e=>hk c o e
 refine ⟨_,_,_,Iz2 X.K p q a b,H1,rfl,I2,c5p (zipApart_new m1.lt m2.lt),⟨⟨.none,.bool false,.inl rfl,⟨_,rfl⟩,zz⟩,zi,⟨_,_,zo⟩,t1,t2⟩,fun c hc=>?_,kk⟩
 have hge:s1.heap.objs.size≤c:=by
  simp only [List.mem_cons,List.not_mem_nil,or_false] at hc
  rcases hc with rfl | rfl | rfl | rfl | rfl <;> first | exact Γi _ | exact Nat.le_add_right _ _
 exact I1.fpOk hge (I1.hok.fresh hge)
end
end L2
end
section
namespace Kq
open PySem PySem.Spec PyProof.Rows L2
section
variable {X:Cx} {C:CC} {n:Nat} {sp:Γd→Nat→Sp} {a b:Expr} {ea eb:EW} {pos p tp:Pos} {nt:Str}
theorem d7x (G:Good X C n sp) (hg:C.gl (Γe "zip")=true) (hs:a0g a=false) (hs2:a0g b=false) (ha:FE X C a ea) (hb:FE X C b eb):FI X C C.md (.Name nt tp) (.Call (.Name (Γe "zip") p) [a,b] [] pos) (d2h ea eb) :=
 PI.imp (d6g (G.gl hg) (G.blt "zip" (by decide)) (a0j ha (a0j hb a1s (a0c hs2)) (a0c hs)) (by rw [a0c hs,a0c hs2]; rfl) (a0c hs2)) fun σ H R ⟨c,L,S,Q0,I,h,k⟩ =>
 ⟨c,L,S,_,I,h,fun v L1 hv x S1 H1 r1 I1 s1=>⟨c,L1,S1,_,I1,hv,fun w L2 hw y S2 H2 r2 I2 s2=>by
  obtain ⟨ps,e,hw⟩:=wpx hw
  obtain ⟨qs,e',q⟩:=wpx hw
  obtain ⟨l,rfl,st⟩:=(r1.mono s2).stays e
  obtain ⟨l',rfl,st'⟩:=r2.stays e'
  obtain ⟨vs,h1,_⟩:=st S2 H2 (Same.refl _) I2.sub
  obtain ⟨ws,h2,_⟩:=st' S2 H2 (Same.refl _) I2.sub
  exact ⟨_,_,l,l',rfl,⟨vs,h1⟩,⟨ws,h2⟩,k _ L2 q _ c S2 H2 I2 (fun _ _ _ _ I=>I) rfl (b9f (fun L σ S H I s=>st S H s I.sub) fun L σ S H I s=>st' S H s I.sub) (s1.trans s2)⟩⟩⟩
end
noncomputable def d1m (o:HO):Prop:=∀ xs,o≠.tup xs
mutual
noncomputable def noL:FV→Bool
 | .lst _=>false
 | .scr _=>false
 | .tup xs=>c9e xs
 | .dct _ _=>false
 | .dci _ _=>false
 | .dcz _ _ _=>false
 | _=>true
noncomputable def c9e:List FV→Bool
 | []=>true
 | x :: r=>noL x && c9e r
end
noncomputable def eCallL (call:CW) (f:Nat) (a:AW):EW:=fun L Q=>a L fun xs L1=>call f xs fun z=>noL z.1=true∧Q z.1 L1
noncomputable def eCallM (call:CW) (f:Nat) (a:AW):EW:=fun L Q=>a L fun xs L1=>call f xs fun z=>wp (a8f z.1) fun ps=>c9e ps=true∧Q z.1 L1
section
variable {K:Γd} {S H S' H':Hp} {os os':List Addr}
noncomputable def c7q (S:Hp) (os:List Addr):Hp:=fun a=>if a∈os then none else S a
mutual
theorem RV.less {K:Γd} {S:Hp} {os:List Addr} (h:∀ a∈os,∃ o,S a=some o∧d1m o):∀ {p:FV} {v:V},noL p=true→RV K S p v→RV K (c7q S os) p v
 | .non,v,_,e=>e
 | .bl b,v,_,e=>e
 | .int i,v,_,e=>e
 | .str _,v,_,e=>e
 | .shn _,v,_,e=>e
 | .tup ps,v,n,⟨a,xs,e,h1,h2⟩=>⟨a,xs,e,by
   unfold c7q
   rw [if_neg fun m=>by obtain ⟨zs,z,n⟩:=h a m; rw [z] at h1; cases h1; exact n _ rfl]; exact h1,RVs.less h (by simpa [noL] using n) h2⟩
 | .dct ks vs,v,n,_=>by simp [noL] at n
 | .dci ks vs,v,n,_=>by simp [noL] at n
 | .dcz _ ks vs,v,n,_=>by simp [noL] at n
 | .lst ps,v,n,_=>by simp [noL] at n
 | .scr ps,v,n,_=>by simp [noL] at n
theorem RVs.less {K:Γd} {S:Hp} {os:List Addr} (h:∀ a∈os,∃ o,S a=some o∧d1m o):∀ {ps:List FV} {vs:List V},c9e ps=true→RVs K S ps vs→RVs K (c7q S os) ps vs
 | [],vs,_,e=>e
 | p :: ps,vs,n,⟨v,r,e,h1,h2⟩=>by
  have n:noL p=true∧c9e ps=true:=by simpa [c9e] using n
  exact ⟨v,r,e,RV.less h n.1 h1,RVs.less h n.2 h2⟩
end
variable {c:Cn} {md:Md} {L:a0d} {σ:L2.St}
end
section
variable {X:Cx} {C:CC} {n:Nat} {sp:Γd→Nat→Sp} {a:Expr} {ea:EW} {pos p:Pos} {call:CW} {f i:Nat} {nx:Str} {xs:List Expr} {as:AW}
end
noncomputable def revF (v:FV):Option FV:=(a8f v).map fun xs=>.lst xs.reverse
noncomputable def eMeth0 (f:FV→Option FV) (i:Nat):EW:=fun L Q=>wp (lk L i) fun x=>wp (f x) fun z=>Q .non (L.set i (some z))
section
variable {X:Cx} {C:CC} {n:Nat} {sp:Γd→Nat→Sp} {pos p:Pos} {call:CW} {f i:Nat} {nx:Str}
end
end Kq
end
section
namespace Kq
open PySem PySem.Spec PyProof.Rows L2 PySem.W
noncomputable def Lv {α:Type} (n:Nat) (P:α→Prop):KasT α→Prop
 | .ret a=>P a
 | .ask i j k=>i < n∧j < n∧∀ b,Lv n P (k b)
theorem Lv.bind {α β:Type} {n:Nat} {P:α→Prop} {P':β→Prop} {f:α→KasT β} (h:∀ a,P a→Lv n P' (f a)):∀ {t:KasT α},Lv n P t→Lv n P' (t.bind f)
 | .ret a,x=>h a x
 | .ask i j k,x=>⟨x.1,x.2.1,fun b=>Lv.bind h (x.2.2 b)⟩
section
variable {n:Nat}
end
noncomputable def IntTup (h:Heap) (v:Value):Prop:=∃ (a:Addr) (o:Obj) (us:List Value) (n:Nat) (k:Int) (ks:List Int),v=.ref a∧h.get? a=some o∧o.cls=.type "tuple"∧o.data=.seq us.toArray n∧Vals ((k :: ks).map V.int) us
theorem IntTup.keep {h h':Heap} {v:Value} (x:IntTup h v) (k:∀ b o,h.get? b=some o→h'.get? b=some o):IntTup h' v:=by
 obtain ⟨a,o,us,n,i,ks,e,h1,h2⟩:=x
 exact ⟨a,o,us,n,i,ks,e,k _ _ h1,h2⟩
section
variable {prog:Program} {w:World} {A:Around} {E:Value→Shared→Prop} {s:Shared} {vs:List Value}
theorem a9w {h:Heap}:∀ {vs:List Value},(∀ v∈vs,IntTup h v)→∃ fs:List Value,KatTups h vs fs∧fs.length=vs.length∧∀ f∈fs,∃ k t,f=.int k t
 | [],_=>⟨[],trivial,rfl,by simp⟩
 | v :: vs,hv=>by
  obtain ⟨a,o,us,n,k,ks,rfl,h1,h2,h3,h4⟩:=hv v (by simp)
  obtain ⟨fs,g1,g2,g3⟩:=a9w fun x hx=>hv x (Γh _ hx)
  cases h4 with
  | @cons _ u _ us' r1 h4 =>
  obtain ⟨t1,rfl⟩:=r1
  exact ⟨.int k t1 :: fs,KatTups.cons h1 h2 h3 (by simp) g1,by simp [g2],fun f hf=>by
   rcases List.mem_cons.mp hf with rfl | hf
   ·exact ⟨_,_,rfl⟩
   ·exact g3 f hf⟩
end
end Kq
end
section
namespace Kq
open PySem PySem.Spec PyProof.Rows L2
noncomputable def a2q:List FV→Bool
 | []=>true
 | .tup ps :: r=>(match a0o ps with | some (_ :: _)=>true | _=>false) && a2q r
 | _=>false
noncomputable def d9r (a:EW):EW:=fun L Q=>a L fun v L1=>wp (a2a v) fun xs=>a2q xs=true∧2≤xs.length∧xs.length < 64∧∀ ys:List FV,ys.Perm xs→Q (.lst ys) L1
theorem Vals.perm {us us':List Value} (p:us'.Perm us):∀ {ys:List V},Vals ys us→∃ zs,zs.Perm ys∧Vals zs us':=by
 induction p with
 | nil=>intro ys h; exact ⟨ys,.refl _,h⟩
 | cons x p ih =>
  intro ys h
  cases h with
  | @cons y _ ys' _ r h =>
  obtain ⟨zs,e,g⟩:=ih h
  exact ⟨y :: zs,e.cons y,.cons r g⟩
 | swap x y l =>
  intro ys h
  cases h with
  | @cons a _ ys' _ r h =>
  cases h with
  | @cons b _ ys'' _ r' h =>
  exact ⟨b :: a :: ys'',.swap a b ys'',.cons r' (.cons r h)⟩
 | trans p q ih1 ih2 =>
  intro ys h
  obtain ⟨zs,e,g⟩:=ih2 h
  obtain ⟨ws,e',g'⟩:=ih1 g
  exact ⟨ws,e'.trans e,g'⟩
section
variable {K:Γd} {S:Hp}
theorem RVs.perm {vs vs':List V} (p:vs'.Perm vs):∀ {ps:List FV},RVs K S ps vs→∃ qs,qs.Perm ps∧RVs K S qs vs':=by
 induction p with
 | nil=>intro ps h; exact ⟨ps,.refl _,h⟩
 | cons x p ih =>
  intro ps h
  cases ps with
  | nil=>cases h
  | cons q ps =>
   obtain ⟨v,r,e,h1,h2⟩:=h
   cases e
   obtain ⟨zs,e,g⟩:=ih h2
   exact ⟨q :: zs,e.cons q,_,_,rfl,h1,g⟩
 | swap x y l =>
  intro ps h
  cases ps with
  | nil=>cases h
  | cons a ps =>
   obtain ⟨v,r,e,h1,h2⟩:=h
   cases e
   cases ps with
   | nil=>cases h2
   | cons b ps =>
    obtain ⟨v2,r2,e2,h3,h4⟩:=h2
    cases e2
    exact ⟨b :: a :: ps,.swap a b ps,_,_,rfl,h3,_,_,rfl,h1,h4⟩
 | trans p q ih1 ih2 =>
  intro ps h
  obtain ⟨zs,e,g⟩:=ih2 h
  obtain ⟨ws,e',g'⟩:=ih1 g
  exact ⟨ws,e'.trans e,g'⟩
end
section
variable {X:Cx}
end
section
variable {X:Cx} {C:CC} {n:Nat} {sp:Γd→Nat→Sp} {a:Expr} {ea:EW} {pos p:Pos}
end
theorem c2d (ks:List Int) (us:List V) (k:Int) (u:V) (hl:ks.length=us.length):a5e ((a3x ks).zip us) (Sum.inl k) u=(a3x (a2o ks us k u).1).zip (a2o ks us k u).2:=by
 have hany:(((a3x ks).zip us).any fun kv=>decide (kv.1=Sum.inl k))=true↔k∈ks:=by
  rw [a6b,a6i,a2f k hl]
 unfold a5e a2o
 by_cases e:k∈ks
 ·rw [if_pos (hany.mpr e),if_pos e]
  clear e hany
  induction ks generalizing us with
  | nil=>cases us <;> rfl
  | cons k' ks ih=>cases us with
   | nil=>rfl
   | cons u' us =>
    have:=ih us (by simpa using hl)
    show (if (Sum.inl k':Int ⊕ Str)=Sum.inl k then (Sum.inl k',u) else (Sum.inl k',u')) :: ((a3x ks).zip us).map _=(Sum.inl k',if k'=k then u else u') :: (a3x ks).zip _
    rw [this]
    congr 1
    by_cases e:k'=k
    ·subst e; simp
    ·rw [if_neg fun z=>e (Sum.inl.inj z),if_neg e]
 ·rw [if_neg fun z=>e (hany.mp z),if_neg e]
  show _=(a3x (ks++[k])).zip (us++[u])
  have:a3x (ks++[k])=a3x ks++[Sum.inl k]:=by simp [a3x]
  rw [this,List.zip_append (by simpa [a3x] using hl)]; rfl
theorem b9o {κ α β:Type} [DecidableEq κ] {ks:List κ} {vs:List α} {us:List β} {k:κ} (h1:ks.length=vs.length) (h2:ks.length=us.length) (h:a2z ks vs k=none):a2z ks us k=none:=by
 have a:=a2f (α:=α) k h1
 have b:=a2f (α:=β) k h2
 cases e:a2z ks us k with
 | none=>rfl
 | some u =>
  rw [e] at b
  have:=a.mpr (b.mp rfl)
  rw [h] at this; cases this
noncomputable def d9y (v w:FV):Option (Option FV):=match v with
 | .dct ks vs=>(a8y w).bind fun ps=>(a0o ps).bind fun k=>some (a2z ks vs k)
 | .dci ks vs=>(a5f w).bind fun k=>some (a2z ks vs k)
 | .dcz _ ks vs=>(a8y w).bind fun ps=>(a0o ps).bind fun k=>some (a2z ks vs k)
 | _=>none
noncomputable def dgF (v w:FV):Option FV:=(d9y v w).bind id
noncomputable def dget1F (v w:FV):Option FV:=(d9y v w).map fun o=>o.getD .non
noncomputable def isDF:FV→Option Unit
 | .dct _ _=>some ()
 | .dci _ _=>some ()
 | _=>none
noncomputable def c3p (v j x:FV):Option FV:=match v with
 | .dct ks vs=>(a8y j).bind fun ps=>(a0o ps).bind fun k=>if ks.length < big then some (.dct (a2o ks vs k x).1 (a2o ks vs k x).2) else none
 | .dci ks vs=>(a5f j).bind fun k=>if ks.length < big then some (.dci (a2o ks vs k x).1 (a2o ks vs k x).2) else none
 | _=>none
noncomputable def RO (K:Γd) (S:Hp):Option FV→Option V→Prop
 | none,o=>o=none
 | some p,o=>∃ u,o=some u∧RV K S p u
section
variable {X:Cx} {K:Γd} {S H:Hp}
theorem b7i {κ:Type} [DecidableEq κ] {ks:List κ} {vs:List FV} {us:List V} {k:κ} (h1:ks.length=vs.length) (r:RVs K S vs us):RO K S (a2z ks vs k) (a2z ks us k):=by
 cases e:a2z ks vs k with
 | none=>exact b9o h1 (by rw [h1,r.length]) e
 | some p=>exact a6j r e
theorem RH.dcz {o:Obj} {ks:List (List Int)} {vs:List FV} {x:V} (hs:Same S H) (r:RH K S H (.dcz o ks vs) x):∃ a us,x=.ref a∧ks.length=vs.length∧H a=some (.frz o (.dT ((a0y ks).zip us)))∧RVs K S vs us:=by
 rcases r with ⟨a,xs,e,h0,h1,h2⟩ | ⟨a,e,_,qs,xs,e2,h1,h2⟩
 ·exact ⟨a,xs,e,h0,hs _ _ h1,h2⟩
 ·obtain ⟨hl,rfl⟩:=itd e2
  exact ⟨a,xs,e,hl,h1,h2⟩
theorem c8n {v w:FV} {x y:V} {o:Option FV} (hs:Same S H) (rv:RH K S H v x) (rw':RH K S H w y) (e:d9y v w=some o):∃ a o',x=.ref a∧L2.DGet H a y o'∧RO K S o o':=by
 cases v with
 | dct ks vs =>
  obtain ⟨ps,e1,e2⟩:=bnd e
  obtain ⟨k,e3,e4⟩:=bnd e2
  cases a1u e1
  cases e4
  obtain ⟨a,us,rfl,hl,h1,h2⟩:=rv.dct hs
  obtain ⟨b,rfl,hb⟩:=a8j (rw'.val rfl) e3
  refine ⟨a,a2z ks us k,rfl,?_,b7i hl h2⟩
  rw [← a7g]
  exact .t h1 (hs _ _ hb)
 | dci ks vs =>
  obtain ⟨k,e3,e4⟩:=bnd e
  cases a1k e3
  cases e4
  cases rw'.int
  obtain ⟨a,us,rfl,hl,h1,h2⟩:=rv.dci hs
  refine ⟨a,a2z ks us k,rfl,?_,b7i hl h2⟩
  rw [← a6i]
  exact .k (k:=Sum.inl k) h1
 | dcz o ks vs =>
  obtain ⟨ps,e1,e2⟩:=bnd e
  obtain ⟨k,e3,e4⟩:=bnd e2
  cases a1u e1
  cases e4
  obtain ⟨a,us,rfl,hl,h1,h2⟩:=rv.dcz hs
  obtain ⟨b,rfl,hb⟩:=a8j (rw'.val rfl) e3
  refine ⟨a,a2z ks us k,rfl,?_,b7i hl h2⟩
  rw [← a7g]
  exact .inr ⟨_,_,b,.inr ⟨o,h1⟩,rfl,hs _ _ hb,rfl⟩
 | _=>cases e
end
noncomputable def c1y (k:Nat) (i e:EW):SW:=fun L Q=>wp (lk L k) fun _=>e L fun x L1=>i L1 fun j L2=>wp (lk L2 k) fun y=>wp (c3p y j x) fun z=>Q .next (L2.set k (some z))
section
variable {K:Γd} {c:Cn} {md:Md} {L:a0d} {σ:L2.St} {S H:Hp}
theorem Iv.writeV (I:Iv K c md L σ S H) {i:Nat} {v w:FV} {a:Addr} {ps:List FV} {xs:List V} (m:a0m md i=.own) (e:L[i]?=some (some v)) (e1:σ[i]?=some (some (.ref a))) (hw:d3q w=some ps) (r:RVs K S ps xs) :
  Iv K c md (L.set i (some w)) σ S (upd H a (d3r w xs)):=by
 obtain ⟨a',e1',⟨h1,_⟩,_⟩:=I.own i v (fun z=>by rw [m] at z; cases z) e
 rw [e1] at e1'; cases e1'
 exact I.back m e e1 (Same.refl S) (fun b o z=>by rw [a0e fun y=>by subst y; rw [h1] at z; cases z]; exact I.sub b o z) (fun b o z=>.inl z) (fun b o z n=>by rw [a0e n]; exact z) ⟨h1,ps,xs,hw,a0f,r⟩
theorem c3o {i:Nat} {v j x z:FV} {a:Addr} {y u:V} (I:Iv K c md L σ S H) (m:a0m md i=.own) (e:L[i]?=some (some v)) (e1:σ[i]?=some (some (.ref a))) (rj:RV K S j y) (rx:RV K S x u) (h:c3p v j x=some z):∃ H',L2.DPut H a y u H'∧Iv K c md (L.set i (some z)) σ S H':=by
 obtain ⟨a',f1,⟨o1,ps,us,e9,o2,o3⟩,_⟩:=I.own i v (fun z=>by rw [m] at z; cases z) e
 rw [e1] at f1; cases f1
 have hbl:=a1i
 cases v with
 | dct ks vs =>
  obtain ⟨qs,g1,h⟩:=bnd h
  obtain ⟨k,g2,h⟩:=bnd h
  obtain ⟨hb,rfl⟩:=itd h
  obtain ⟨hl,rfl⟩:=itd e9
  cases a1u g1
  obtain ⟨b,rfl,hkb⟩:=a8j rj g2
  have hu:ks.length=us.length:=by rw [hl,o3.length]
  obtain ⟨p1,p2⟩:=a6g (ks:=ks) (k:=k) o3 rx
  refine ⟨_,.t o2 (I.sub _ _ hkb) (by simp [a0y]; lia),?_⟩
  rw [b2q ks us k u hu,← p1]
  exact I.writeV (w:=.dct _ _) m e e1 (if_pos (a4k ks _ k x hl).1) p2
 | dci ks vs =>
  obtain ⟨k,g2,h⟩:=bnd h
  obtain ⟨hb,rfl⟩:=itd h
  obtain ⟨hl,rfl⟩:=itd e9
  cases a1k g2
  cases (show y=V.int k from rj)
  have hu:ks.length=us.length:=by rw [hl,o3.length]
  obtain ⟨p1,p2⟩:=a6g (ks:=ks) (k:=k) o3 rx
  refine ⟨_,.k (k:=Sum.inl k) o2 (by simp [a3x]; lia),?_⟩
  rw [c2d ks us k u hu,← p1]
  exact I.writeV (w:=.dci _ _) m e e1 (if_pos (a4k ks _ k x hl).1) p2
 | _=>cases h
end
section
variable {X:Cx} {C:CC} {n:Nat} {sp:Γd→Nat→Sp} {fr:Bool} {a b:Expr} {ea eb:EW} {pos p px:Pos} {i:Nat} {nx:Str}
theorem d4c:FF X C (.Dict [] [] pos) (eC (.dct [] [])):=PE.imp c2p fun σ H Q ⟨c,L,S,Q0,I,h,k⟩=>fun p hp=>k _ L h p S _ ⟨I.sn hp,[],[],rfl,a0f,rfl⟩ (I.fresh hp) (I.lay hp _) (Same.refl S)
theorem d8f (G:Good X C n sp) (hg:C.gl (Γe "dict")=true) (hs:a0g a=false) (ha:FR X C a ea):FF X C (.Call (.Name (Γe "dict") p) [a] [] pos) (eUn c0a ea) :=
 PE.imp (a4m (c5j G.calm G.room.units) (G.gl hg) (G.blt "dict" (by decide)) (by nofun) (a0j ha a1s (a0c hs)) (by nofun) (by nofun) (a0c hs) rfl) fun σ H Q ⟨c,L,S,Q0,I,h,k⟩ =>
 ⟨c,L,S,_,I,h,fun v L1 hv x S1 H1 r1 I1 s1=>by
  obtain ⟨z,e,q⟩:=wpx hv
  obtain ⟨xs,e1,e2⟩:=bnd e
  obtain ⟨ps,e3,e4⟩:=bnd e2
  cases e4
  obtain ⟨a,ys,rfl,hq,ry⟩:=r1.list I1.sub e1
  obtain ⟨qs,g1,g2,g3⟩:=a6s ry e3
  have hp:a8s H1 ys (qs.map fun q=>(q.1.map Sum.inl,q.2)):=Paired.mapP g1 fun _ _ ⟨b,kb,f1,f2,f3⟩=>⟨b,kb,f1,I1.sub _ _ f2,I1.sub _ _ f3⟩
  refine ⟨a,ys,_,rfl,hq,hp,fun p hp0=>?_⟩
  have ev:=a5j qs [] [] rfl
  obtain ⟨h1,h2⟩:=a5k (ks:=[]) (vs:=[]) (us:=[]) g2 g3 (show RVs X.K S1 [] [] from rfl)
  rw [show (a0y []).zip ([]:List V)=[] from rfl] at ev
  rw [ev]
  exact k _ L1 q p S1 _ ⟨I1.sn hp0,_,_,if_pos (a5m ps [] [] rfl),by rw [h1]; exact a0f,h2⟩ (I1.fresh hp0) (I1.lay hp0 _) s1⟩
theorem fe_dgN (G:Good X C n sp) (hs:a4c b=false) (h:C.nm i nx=true) (hb:FR X C b eb):FE X C (.Subscript (.Name nx p) b pos) (b0n dgF i eb):=PE.imp (b2t (X:=X.nox) (by have:=G.room.units; show X.A.units + 1 < cLine; lia) (a1r G h) hb (a9n hs)) fun σ H Q ⟨c,L,S,Q0,I,h,k⟩=>by
 obtain ⟨v0,e,h⟩:=wpx h
 obtain ⟨x,e1,_⟩:=I.rd e
 refine ⟨x,e1,c,L,S,_,I,h,fun w L2 hw y S2 H2 r2 I2 s2=>?_⟩
 obtain ⟨v,e2,q⟩:=wpx hw
 obtain ⟨x',e3,r1⟩:=I2.rd e2
 rw [e1] at e3; cases e3
 obtain ⟨z,e4,q⟩:=wpx q
 obtain ⟨o,e5,e6⟩:=bnd e4
 obtain ⟨a,o',rfl,g,ro⟩:=c8n I2.sub r1 r2 e5
 cases (show o=some z from e6)
 obtain ⟨u,rfl,r5⟩:=ro
 exact ⟨a,u,rfl,g,k z L2 q u S2 H2 r5 I2 s2⟩
theorem d7q (G:Good X C n sp) (hn:C.nm i nx=true) (m:a0m C.md i=.own) (hc:(!a8l a && !a4c b)=true) (ha:FE X C a ea) (hb:FE X C b eb):FS X C fr (.Assign [.Subscript (.Name nx px) b p] a pos) (c1y i eb ea):=by
 have hc:=b2 hc
 refine PS.imp (c6q (X:=X.nox) (by have:=G.room.units; show X.A.units + 1 < cLine; lia) (a1r (pos:=px) G hn) hb ha (a4i (nb hc.1))) fun D σ H ⟨c,L,S,Q0,I,h,k⟩=>?_
 have mi:a0m C.md i≠.imm:=fun z=>by rw [m] at z; cases z
 obtain ⟨v0,e,h⟩:=wpx h
 obtain ⟨l,e1,_⟩:=I.own i v0 mi ((a2p _ _ _).mp e)
 refine ⟨c,L,S,_,I,h,fun v L1 q x S1 H1 r1 I1 s1=>⟨_,e1,c,L1,S1,_,I1,q,fun w L2 q y S2 H2 r2 I2 s2=>?_⟩⟩
 obtain ⟨v1,e2,q2⟩:=wpx q
 obtain ⟨z,e3,q3⟩:=wpx q2
 have e2:=(a2p _ _ _).mp e2
 obtain ⟨H3,g,I3⟩:=c3o I2 m e2 e1 r2 (r1.mono s2) e3
 exact ⟨l,H3,rfl,g,k .next _ q3 σ S2 _ I3 (s1.trans s2)⟩
end
section
variable (Q:FV→Prop) (i:Nat) (L:a0d)
@[scoped simp ↓] theorem d3p (k:Nat) (i e:EW) (Q:FFl→a0d→Prop):c1y k i e L Q=(wp (lk L k) fun _=>e L fun x L1=>i L1 fun j L2=>wp (lk L2 k) fun y=>wp (c3p y j x) fun z=>Q .next (L2.set k (some z))):=propext Iff.rfl
@[scoped simp ↓] theorem k_dgt (ks:List (List Int)) (vs ps:List FV):wp (dgF (.dct ks vs) (.tup ps)) Q↔wp (a0o ps) fun k=>wp (a2z ks vs k) Q:=by
 show wp (((a0o ps).bind fun k=>some (a2z ks vs k)).bind id) Q↔_; rw [a1f,a1f]; rfl
@[scoped simp ↓] theorem k_dgz (o:Obj) (ks:List (List Int)) (vs ps:List FV):wp (dgF (.dcz o ks vs) (.tup ps)) Q↔wp (a0o ps) fun k=>wp (a2z ks vs k) Q:=by
 show wp (((a0o ps).bind _).bind _) Q↔_
 rw [a1f,a1f]; rfl
@[scoped simp ↓] theorem d6z (ks:List (List Int)) (vs ps:List FV) (x:FV):wp (c3p (.dct ks vs) (.tup ps) x) Q↔wp (a0o ps) fun k=>ks.length < big∧Q (.dct (a2o ks vs k x).1 (a2o ks vs k x).2):=by
 show wp ((a0o ps).bind _) Q↔_; rw [a1f]; simp only [a3h]
end
section
variable {P:Program} {w:World} {A:Around} {E:Value→Shared→Prop} {s:Shared}
end
section
variable {X:Cx}
end
noncomputable def eSortI (a:EW):EW:=fun L Q=>a L fun v L1=>wp (a2a v) fun xs=>wp (a0o xs) fun ns=>ns.length < 64∧∀ ms:List Int,ms.Perm ns→ms.Pairwise (·≤·)→Q (.lst (ms.map .int)) L1
section
variable {X:Cx} {C:CC} {n:Nat} {sp:Γd→Nat→Sp} {a:Expr} {ea:EW} {pos p:Pos}
end
section
variable {X:Cx}
end
section
variable {X:Cx} {C:CC} {n:Nat} {sp:Γd→Nat→Sp} {a:Expr} {ea:EW} {pos p:Pos}
end
end Kq
end
section
namespace L2
open PySem PySem.Spec PyProof.Rows
noncomputable def ZSt (p q:Bool) (z TI TO i1 i2 a b:Addr) (i:Nat) (h:Heap):Prop:=(∃ f m,(f=.none ∨ ∃ n,f=.int n 0)∧(∃ c,m=.bool c)∧a1m h z TI TO f m)∧IsPair h TI (.ref i1) (.ref i2)∧(∃ c d,IsPair h TO c d)∧IterB p h i1 a i∧IterB q h i2 b i
theorem ZSt.keep {p q:Bool} {z TI TO i1 i2 a b:Addr} {i:Nat} {h h':Heap} (st:ZSt p q z TI TO i1 i2 a b i h) (kk:∀ c∈[z,TO,i1,i2,TI],∀ o,h.get? c=some o→h'.get? c=some o):ZSt p q z TI TO i1 i2 a b i h':=by
 obtain ⟨⟨f,m,hf0,hm0,zz⟩,zi,⟨x,y,zo⟩,t1,t2⟩:=st
 exact ⟨⟨f,m,hf0,hm0,kk z (by simp) _ zz⟩,kk TI (by simp) _ zi,⟨x,y,kk TO (by simp) _ zo⟩,t1.to fun o e=>kk i1 (by simp) o e,t2.to fun o e=>kk i2 (by simp) o e⟩
section
variable {X:Cx} {pins:List (Addr×Obj)} {σ:St} {A:Around} {R:Result→Shared→Prop}
end
end L2
end
section
namespace L2
open PySem PySem.Spec PyProof.Rows
section
variable {X:Cx} {pins:List (Addr×Obj)} {σ:St}
variable {e1 e2:Expr} {ta:TA} {pp p2 pos pos2:Pos}
end
end L2
end
section
namespace Kq
open PySem PySem.Spec PyProof.Rows L2
section
variable {X:Cx} {C:CC} {n:Nat} {sp:Γd→Nat→Sp} {a b:Expr} {ea eb:EW} {p p2 pos pos2:Pos}
end
noncomputable def inW (tg:Tg) (t:BW) (e:EW):List FV→List FV→a0d→(List FV→a0d→Prop)→Prop
 | [],acc,L,Q=>Q acc L
 | y :: r,acc,L,Q=>gW tg y L fun L1=>t L1 fun b L2=>if b=true then e L2 fun v L3=>inW tg t e r (acc++[v]) L3 Q else inW tg t e r acc L2 Q
noncomputable def a5z (n m:Nat) (tg:Tg) (t:BW) (it2:AW) (tg2:Tg) (t2:BW) (e:EW):List FV→List FV→a0d→(List FV→a0d→Prop)→Prop
 | [],acc,L,Q=>Q acc L
 | x :: xs,acc,L,Q=>gW tg x (L++Γj m none) fun L1=>t L1 fun b L2=>if b=true then it2 L2 fun ys L3=>acc.length + ys.length≤big∧inW tg2 t2 e ys acc L3 fun acc' L4=>a5z n m tg t it2 tg2 t2 e xs acc' (L4.take n) Q else a5z n m tg t it2 tg2 t2 e xs acc (L2.take n) Q
noncomputable def b1s (n m:Nat) (it:AW) (tg:Tg) (t:BW) (it2:AW) (tg2:Tg) (t2:BW) (e:EW):EW:=fun L Q=>it L fun xs L1=>L1.length=n∧a5z n m tg t it2 tg2 t2 e xs [] L1 fun ys L2=>Q (.lst ys) L2
noncomputable def liv (K:Γd) (md:Md) (it:AW):TI:=fun σ H R=>∃ c L S Q0,Iv K c md L σ S H∧it L Q0∧∀ xs L',Q0 xs L'→∀ J S' H',Iv K c md L' σ S' H'→(∀ c md,ItR K c md J xs S')→Same S S'→R J H'
noncomputable def FIv (X:Cx) (C:CC) (tg iter:Expr) (it:AW):Prop:=PI X.nox tg iter (liv X.K C.md it)
section
variable {X:Cx} {C:CC} {n:Nat} {sp:Γd→Nat→Sp} {a b tg:Expr} {ea eb:EW} {pos p:Pos}
theorem d7v (ha:FE X C a ea):FIv X C tg a (a8n ea):=PI.imp (c4s ha) fun σ H R ⟨c,L,S,Q0,I,h,k⟩ =>
 ⟨c,L,S,_,I,h,fun v L1 hv x S1 H1 r1 I1 s1=>by
  obtain ⟨ps,e,q⟩:=wpx hv
  obtain ⟨l,rfl,st⟩:=r1.stays e
  obtain ⟨vs,h1,h2⟩:=st S1 H1 (Same.refl _) I1.sub
  exact ⟨isL v,l,vs,rfl,h1,k ps L1 q _ S1 H1 I1 (fun _ _=>c5e fun L σ S H I s=>st S H s I.sub) s1⟩⟩
end
section
variable {K:Γd} {c:Cn} {md:Md} {L:a0d} {σ:L2.St} {S H:Hp}
theorem d2d {n:Nat} {it2:AW} {tg:Tg} {t:BW} {e:EW} {acc:Addr} {us:List V} {ps:List FV} {Q1:List FV→a0d→Prop} {R:L2.St→Hp→Prop} (I:Iv K { c with pr:=(acc,.lst us) :: c.pr } md L σ S H)
  (h0:c.H0 acc=none) (hp:∀ p∈c.pr,p.1≠acc) (hz:∀ p∈c.fz,∃ o,(p.2,o)∈c.pr) (r:RVs K S ps us) (ht:a3u md tg=true) (hg:a8z n tg=true)
  (hh:it2 L fun ys L1=>ps.length + ys.length≤big∧inW tg t e ys ps L1 Q1)
  (k:∀ ps' us' L' σ' S' H',Q1 ps' L'→Iv K { c with pr:=(acc,.lst us') :: c.pr } md L' σ' S' H'→RVs K S' ps' us'→Same S S'→σ'.length=σ.length→(∀ q,q < n→σ'[q]?=σ[q]?)→R σ' H') :
  tIn (liv K md it2) (gT K tg) (lb K md t) (lv K md e) acc σ H R:=by
 have hbl:=a1i
 refine ⟨_,L,S,_,I,hh,fun ys L1 hx J S1 H1 I1 hJ s1=>?_⟩
 obtain ⟨hb,hc⟩:=hx
 let W:Nat→Nat→L2.St→Hp→Prop:=fun i j σ' H'=>∃ L' S' ps' us',j=(ys.drop i).length∧Iv K { c with pr:=(acc,.lst us') :: c.pr } md L' σ' S' H'∧RVs K S' ps' us'∧Same S1 S'∧σ'.length=σ.length∧(∀ q,q < n→σ'[q]?=σ[q]?)∧ps'.length≤ps.length + i∧inW tg t e (ys.drop i) ps' L' Q1
 refine ⟨W,⟨_,L1,S1,ps,us,rfl,I1,r.mono s1,Same.refl _,rfl,fun _ _=>rfl,Γi _,by rw [List.drop_zero]; exact hc⟩,?_⟩
 rintro i j σ' H' ⟨L',S',ps',us',rfl,I',r',s',hl,far0,hps,hc⟩
 obtain ⟨j1,j2⟩:=hJ _ _ i L' σ' S' H' I' s'
 cases hd:ys.drop i with
 | nil =>
  left
  rw [hd] at hc
  exact ⟨j1 (List.getElem?_eq_none_iff.mpr (List.drop_eq_nil_iff.mp hd)),k ps' us' L' σ' S' H' hc I' r' (s1.trans s') hl far0⟩
 | cons p rest =>
  right
  rw [hd] at hc
  have hi:ys[i]?=some p:=by
   have:=congrArg (·[0]?) hd
   simpa using this
  have hd':ys.drop (i + 1)=rest:=by
   have:=congrArg List.tail hd
   simpa [List.tail_drop] using this
  have hix:i < ys.length:=(List.getElem?_eq_some_iff.mp hi).1
  obtain ⟨go,yl⟩:=j2 p hi
  refine ⟨go,fun x H2 y=>?_⟩
  obtain ⟨S2,s2,tr,rx⟩:=yl x H2 y
  have I2:=tr _ _ _ _ I'
  obtain ⟨σ2,L2,gq,q2,I2,len2,far⟩:=a8o ht I2 rx hc
  refine gq _ ?_
  refine ⟨_,L2,S2,_,I2,q2,fun b L3 hb3 S3 H3 I3 s3=>?_⟩
  cases b with
  | false =>
   rw [if_neg Γk] at hb3 ⊢
   exact ⟨rest.length,by simp,L3,S3,ps',us',by rw [hd'],I3,r'.mono (s2.trans s3),s'.trans (s2.trans s3),len2.trans hl,fun q hq=>(far n hg q hq).trans (far0 q hq),by lia,by rw [hd']; exact hb3⟩
  | true =>
   rw [if_pos rfl] at hb3 ⊢
   refine ⟨_,L3,S3,_,I3,hb3,fun v L4 hv u S4 H4 r4 I4 s4=>?_⟩
   obtain ⟨k1,_⟩:=I4.prs (acc,.lst us') Γn
   have lr:=r'.length
   exact ⟨us',k1,by lia,rest.length,by simp,L4,S4,ps'++[v],us'++[u],by rw [hd'],I4.regrow h0 hp hz,(r'.mono (s2.trans (s3.trans s4))).append (RVs.one r4),s'.trans (s2.trans (s3.trans s4)),len2.trans hl,fun q hq=>(far n hg q hq).trans (far0 q hq),by simp; lia,by rw [hd']; exact hv⟩
theorem c0q {J:It} {xs:List FV} {n m:Nat} {tg:Tg} {t:BW} {it2:AW} {tg2:Tg} {t2:BW} {e:EW} {Q:VK} {Q1:List FV→a0d→Prop} (I:Iv K c md L σ S H) (hJ:ItR K c md J xs S) (hL:L.length=n) (hmd:md.length≤n) (ht:a3u md tg=true) (hg:a8z n tg=true) (ht2:a3u md tg2=true) (hg2:a8z n tg2=true) (h:a5z n m tg t it2 tg2 t2 e xs [] L Q1)
  (k:∀ acc ps L' S' H',H acc=none→Q1 ps L'→a4f K S' H' acc (.lst ps)→b0j c md L' σ acc→Iv K c md L' σ S' H'→Same S S'→Q (.ref acc) H') :
  ∀ acc,H acc=none→∃ W:Nat→Nat→Hp→Prop,(∃ m,W 0 m (upd H acc (.lst [])))∧∀ i j H,W i j H →
   (J.stop i H∧Q (.ref acc) H) ∨ (J.go i H∧∀ x H',J.yld i H x H'→gT K tg x (σ++Γj m none) H' fun σ2 H2=>Wk (σ++Γj m none) σ2∧lb K md t σ2 H2 fun b H3 =>
    if b=true then tIn (liv K md it2) (gT K tg2) (lb K md t2) (lv K md e) acc σ2 H3 fun σ3 H4=>Wk (σ++Γj m none) σ3∧∃ m',m' < j∧W (i + 1) m' H4 else ∃ m',m' < j∧W (i + 1) m' H3):=by
 intro acc hacc
 have h0:=I.h0 hacc
 have hp:∀ p∈c.pr,p.1≠acc:=(I.fresh hacc).2.1
 have hz:=I.fzp
 have hl:σ.length=n:=by rw [← I.len]; exact hL
 let W:Nat→Nat→Hp→Prop:=fun i j H1=>∃ L S1 ps us,j=(xs.drop i).length∧Iv K { c with pr:=(acc,.lst us) :: c.pr } md L σ S1 H1∧RVs K S1 ps us∧Same S S1∧L.length=n∧a5z n m tg t it2 tg2 t2 e (xs.drop i) ps L Q1
 have I1:Iv K { c with pr:=(acc,.lst []) :: c.pr } md L σ S (upd H acc (.lst [])):=(I.lay hacc _).prot a0f (I.sn hacc) fun j w hm hj=>(I.fresh hacc).2.2 j w (fun z=>by rw [hm] at z; cases z) hj
 refine ⟨W,⟨_,L,S,[],[],rfl,I1,rfl,Same.refl S,hL,by rw [List.drop_zero]; exact h⟩,?_⟩
 rintro i j H1 ⟨L,S1,ps,us,rfl,I,r,s,hL,hc⟩
 have I0:=I.unprot hz
 obtain ⟨j1,j2⟩:=hJ i L σ S1 H1 I0 s
 obtain ⟨g1,g2,g3⟩:=I.prs (acc,.lst us) Γn
 cases hd:xs.drop i with
 | nil =>
  left
  rw [hd] at hc
  refine ⟨j1 (List.getElem?_eq_none_iff.mpr (List.drop_eq_nil_iff.mp hd)),k acc ps L S1 H1 hacc hc ⟨g2,ps,us,rfl,g1,r⟩ ⟨h0,hp,fun q w hm hq hs=>?_⟩ I0 s⟩
  by_cases mo:a0m md q=.own
  ·exact g3 q w mo hq hs
  ·have mo:a0m md q=.frz:=by cases z:a0m md q with | imm=>exact absurd z hm | own=>exact absurd z mo | frz=>rfl
   obtain ⟨b,f1⟩:=I0.fzm q w mo hq
   obtain ⟨_,f2,_⟩:=I0.fzs _ f1
   rw [hs] at f2; cases f2
   obtain ⟨ys,f3⟩:=hz _ f1
   exact hp _ f3 rfl
 | cons p rest =>
  right
  rw [hd] at hc
  have hi:xs[i]?=some p:=by
   have:=congrArg (·[0]?) hd
   simpa using this
  have hd':xs.drop (i + 1)=rest:=by
   have:=congrArg List.tail hd
   simpa [List.tail_drop] using this
  have hix:i < xs.length:=(List.getElem?_eq_some_iff.mp hi).1
  obtain ⟨go,yl⟩:=j2 p hi
  refine ⟨go,fun x H2 y=>?_⟩
  obtain ⟨S2,s2,tr,rx⟩:=yl x H2 y
  have I2:=(tr _ _ _ _ I).more m
  obtain ⟨σ2,L2,gq,q2,I2,len2,far⟩:=a8o ht I2 rx hc
  have l2:n≤σ2.length:=by rw [len2,List.length_append,hl]; lia
  have far':∀ q,q < n→σ2[q]?=σ[q]?:=fun q hq=>by rw [far n hg q hq,List.getElem?_append_left (by rw [hl]; exact hq)]
  have wk:∀ {σ3:List (Option V)},σ3.length=(σ++Γj m none).length→(∀ q,q < n→σ3[q]?=σ[q]?)→Wk (σ++Γj m none) σ3:=fun {σ3} hl3 f3=>⟨hl3,fun q v hv=>by
   have hq:q < n:=by
    by_cases h:q < σ.length
    ·rw [← hl]; exact h
    ·rw [List.getElem?_append_right (by lia),List.getElem?_replicate] at hv
     split at hv <;> cases hv
   rw [List.getElem?_append_left (by rw [hl]; exact hq)] at hv
   rw [f3 q hq]; exact hv⟩
  refine gq _ ⟨wk len2 far',?_⟩
  refine ⟨_,L2,S2,_,I2,q2,fun b L3 hb3 S3 H3 I3 s3=>?_⟩
  cases b with
  | false =>
   rw [if_neg Γk] at hb3 ⊢
   exact ⟨rest.length,by simp,L3.take n,S3,ps,us,by rw [hd'],I3.take hmd hl l2 far',r.mono (s2.trans s3),s.trans (s2.trans s3),by rw [List.length_take,I3.len]; lia,by rw [hd']; exact hb3⟩
  | true =>
   rw [if_pos rfl] at hb3 ⊢
   refine d2d (n:=n) I3 h0 hp hz (r.mono (s2.trans s3)) ht2 hg2 hb3 fun ps' us' L' σ' S' H' q' I' r' s' hl' f'=>?_
   have f'':∀ q,q < n→σ'[q]?=σ[q]?:=fun q hq=>(f' q hq).trans (far' q hq)
   exact ⟨wk (hl'.trans len2) f'',rest.length,by simp,L'.take n,S',ps',us',by rw [hd'],I'.take hmd hl (by rw [hl']; exact l2) f'',r',s.trans (s2.trans (s3.trans s')),by rw [List.length_take,I'.len,hl']; lia,by rw [hd']; exact q'⟩
end
section
variable {X:Cx} {C:CC} {n:Nat} {sp:Γd→Nat→Sp} {pos p px:Pos} {i:Nat} {nx:Str} {fr:Bool}
variable {scope:Scope} {own:List Str} {elt tgx iter tgx2 iter2:Expr} {ifs ifs2:List Expr} {it it2:AW} {tg tg2:Tg} {t t2:BW} {e:EW} {nn m:Nat} {md':Md}
structure CompOk2 (X:Cx) (C:CC) (n:Nat) (sp:Γd→Nat→Sp) (scope:Scope) (own:List Str) (elt tgx iter:Expr) (ifs:List Expr) (tgx2 iter2:Expr) (ifs2:List Expr) (nn m:Nat) (md':Md) (it:AW) (tg:Tg) (t:BW) (it2:AW) (tg2:Tg) (t2:BW) (e:EW):Prop where
 st:(C.scOk scope own && decide (C.N.length=nn) && decide (own.length=m) && decide (md'.length≤nn) && d1p C.md md' && a3u md' tg && a8z nn tg && !b9i iter)=true
 st2:(a3u md' tg2 && a8z nn tg2 && !b9i iter2)=true
 it:FI X C md' tgx iter it
 tg:∀ X',Good X' (C.sub scope own md') n sp→FG X' tgx tg
 ts:∀ X',Good X' (C.sub scope own md') n sp→FTs X' (C.sub scope own md') ifs t
 it2:∀ X',Good X' (C.sub scope own md') n sp→FIv X' (C.sub scope own md') tgx2 iter2 it2
 tg2:∀ X',Good X' (C.sub scope own md') n sp→FG X' tgx2 tg2
 ts2:∀ X',Good X' (C.sub scope own md') n sp→FTs X' (C.sub scope own md') ifs2 t2
 el:∀ X',Good X' (C.sub scope own md') n sp→FE X' (C.sub scope own md') elt e
theorem CompOk2.run (G:Good X C n sp) (h:CompOk2 X C n sp scope own elt tgx iter ifs tgx2 iter2 ifs2 nn m md' it tg t it2 tg2 t2 e) {σ:L2.St} {H:Hp} {Q:VK} (hq:lf X.K C.md (b1s nn m it tg t it2 tg2 t2 e) σ H Q):b7a (li X.K C.md md' it) (gT X.K tg) (lb X.K md' t) (liv X.K md' it2) (gT X.K tg2) (lb X.K md' t2) (lv X.K md' e) own.length σ H Q:=by
 have h0:=b2 h.st; have h1:=b2 h0.1; have h2:=b2 h1.1; have h3:=b2 h2.1; have h4:=b2 h3.1; have h5:=b2 h4.1; have h6:=b2 h5.1
 have g0:=b2 h.st2; have g1:=b2 g0.1
 obtain ⟨c,L,S,Q0,I,hh,k⟩:=hq
 refine ⟨c,L,S,_,I,hh,fun xs L1 hx J c' S1 H1 I1 un e0 hJ s1=>?_⟩
 obtain ⟨hl,hc⟩:=hx
 rw [de h5.2]
 refine c0q I1 hJ hl (de h4.2) h2.2 h1.2 g1.1 g1.2 hc fun acc ps L' S' H' hn q o fr I' s'=>k _ L' q acc S' H' o ⟨by rw [← e0]; exact fr.1,((un _ _ _ _ I1).fresh hn).2.1,fun j w hm=>fr.2.2 j w (a6w h3.2 j hm)⟩ (un _ _ _ _ I') (s1.trans s')
theorem CompOk2.blk (G:Good X C n sp) (h:CompOk2 X C n sp scope own elt tgx iter ifs tgx2 iter2 ifs2 nn m md' it tg t it2 tg2 t2 e):CScope X scope own∧(∀ fp D s H,PG (cxC X scope own fp D s H) tgx (gT X.K tg)∧PTs (cxC X scope own fp D s H) ifs (lb X.K md' t)∧(PI (cxC X scope own fp D s H) tgx2 iter2 (liv X.K md' it2)∧PG (cxC X scope own fp D s H) tgx2 (gT X.K tg2)∧PTs (cxC X scope own fp D s H) ifs2 (lb X.K md' t2)∧PE (cxC X scope own fp D s H) elt (lv X.K md' e)∧∀ x,foldedSetIterable iter2 (cxC X scope own fp D s H).env x=pure x))∧∀ v,foldedSetIterable iter X.env v=pure v:=by
 have h0:=b2 h.st; have h1:=b2 h0.1; have h2:=b2 h1.1; have h3:=b2 h2.1; have h4:=b2 h3.1; have h5:=b2 h4.1; have h6:=b2 h5.1
 have g0:=b2 h.st2
 obtain ⟨s1,s2⟩:=G.sub h6.1 md'
 exact ⟨s1,fun fp D s H=>⟨h.tg _ (s2 fp D s H),h.ts _ (s2 fp D s H),h.it2 _ (s2 fp D s H),h.tg2 _ (s2 fp D s H),h.ts2 _ (s2 fp D s H),h.el _ (s2 fp D s H),b1n (nb g0.2)⟩,b1n (nb h0.2)⟩
theorem c0o (G:Good X C n sp) (ht:C.tn i nx=true) (h:CompOk2 X C n sp scope own elt tgx iter ifs tgx2 iter2 ifs2 nn m md' it tg t it2 tg2 t2 e):∃ te:TE,(∀ σ H Q,lf X.K C.md (b1s nn m it tg t it2 tg2 t2 e) σ H Q→te σ H Q)∧PS X.nox (.Assign [.Name nx px] (.ListComp elt [⟨tgx,iter,ifs,0⟩,⟨tgx2,iter2,ifs2,0⟩] scope p) pos) (c1c te (a4v i)):=by
 have hsw:swapsWith (.ListComp elt [⟨tgx,iter,ifs,0⟩,⟨tgx2,iter2,ifs2,0⟩] scope p) (some (.Name nx px)) pos.line X.env=pure (swC C nx px scope p):=by rw [b7b G.kind,G.sc]; rfl
 obtain ⟨s1,s2,s3⟩:=h.blk G
 cases hb:swC C nx px scope p with
 | false =>
  rw [hb] at hsw
  exact ⟨_,fun σ H Q q=>h.run G q,c2k G ht hsw (c2r G.calm s1 h.it s2 s3)⟩
 | true =>
  rw [hb] at hsw
  have hlo:X.env.scope.names.lookup nx=some .local:=by
   rw [G.sc]
   have hb:=b2 hb
   exact de (b2 hb.1).1
  exact ⟨_,fun σ H Q q=>h.run G q,b2r G.calm s1 G.nd' (G.ix (b2 ht).1) hlo h.it s2 hsw s3⟩
theorem c3j (G:Good X C n sp) (ht:C.tn i nx=true) (hm:a0m C.md i=.imm) (h:CompOk2 X C n sp scope own elt tgx iter ifs tgx2 iter2 ifs2 nn m md' it tg t it2 tg2 t2 e):FS X C fr (.Assign [.Name nx px] (.ListComp elt [⟨tgx,iter,ifs,0⟩,⟨tgx2,iter2,ifs2,0⟩] scope p) pos) (a1g (b1s nn m it tg t it2 tg2 t2 e) (.nm i)) :=
 let ⟨te,h1,h2⟩:=c0o G ht h
 c0y hm h1 h2
end
@[scoped simp ↓] theorem d2v (n m:Nat) (it:AW) (tg:Tg) (t:BW) (it2:AW) (tg2:Tg) (t2:BW) (e:EW) (L:a0d) (Q:FV→a0d→Prop):b1s n m it tg t it2 tg2 t2 e L Q=(it L fun xs L1=>L1.length=n∧a5z n m tg t it2 tg2 t2 e xs [] L1 fun ys L2=>Q (.lst ys) L2):=propext Iff.rfl
theorem a8q {α:Type} {tg:Tg} {n m:Nat} {t:BW} {it2:AW} {tg2:Tg} {t2:BW} {e:EW} {f:α→FV} {I:List α→List FV→a0d→Prop} {Q:List FV→a0d→Prop} (all:List α) :
  ∀ (rest done:List α) (acc:List FV) (L:a0d),all=done++rest→I done acc L →
  (∀ d x r acc L (K:List FV→a0d→Prop),all=d++x :: r→I d acc L→(∀ acc' L',I (d++[x]) acc' L'→K acc' L')→gW tg (f x) (L++Γj m none) fun L1=>t L1 fun b L2=>if b=true then it2 L2 fun ys L3=>acc.length + ys.length≤big∧inW tg2 t2 e ys acc L3 fun acc' L4=>K acc' (L4.take n) else K acc (L2.take n)) →
  (∀ ys L,I all ys L→Q ys L)→a5z n m tg t it2 tg2 t2 e (rest.map f) acc L Q
 | [],done,acc,L,e,h,_,E=>by
  rw [List.append_nil] at e
  exact E acc L (e ▸ h)
 | x :: r,done,acc,L,e,h,B,E=>B done x r acc L (fun acc' L'=>a5z n m tg t it2 tg2 t2 _ (r.map f) acc' L' Q) e h fun acc' L' h'=>a8q all r (done++[x]) acc' L' (by simp [e]) h' B E
theorem b9m {α:Type} {tg:Tg} {t:BW} {e:EW} {f:α→FV} {I:List α→List FV→a0d→Prop} {Q:List FV→a0d→Prop} (all:List α) :
  ∀ (rest done:List α) (acc:List FV) (L:a0d),all=done++rest→I done acc L →
  (∀ d x r acc L (K:List FV→a0d→Prop),all=d++x :: r→I d acc L→(∀ acc' L',I (d++[x]) acc' L'→K acc' L')→gW tg (f x) L fun L1=>t L1 fun b L2=>if b=true then e L2 fun v L3=>K (acc++[v]) L3 else K acc L2) →
  (∀ ys L,I all ys L→Q ys L)→inW tg t e (rest.map f) acc L Q
 | [],done,acc,L,e,h,_,E=>by
  rw [List.append_nil] at e
  exact E acc L (e ▸ h)
 | x :: r,done,acc,L,e,h,B,E=>B done x r acc L (fun acc' L'=>inW tg t _ (r.map f) acc' L' Q) e h fun acc' L' h'=>b9m all r (done++[x]) acc' L' (by simp [e]) h' B E
noncomputable def ePop (i:Nat):EW:=fun L Q=>wp (lk L i) fun v=>wp (a8f v) fun xs=>wp (xs[xs.length - 1]?) fun y=>Q y (L.set i (some (.lst xs.dropLast)))
noncomputable def popI (xs:List FV) (k:Int):Option FV:=if 0≤k∧k < 4611686018427387904 then xs[k.toNat]? else none
noncomputable def ePopAt (i:Nat) (a:EW):EW:=fun L Q=>wp (lk L i) fun v=>wp (a8f v) fun _=>a L fun w L1=>wp (a5f w) fun k=>wp (lk L1 i) fun x=>wp (a8f x) fun xs=>wp (popI xs k) fun y=>Q y (L1.set i (some (.lst (xs.eraseIdx k.toNat))))
section
variable {K:Γd} {S:Hp}
theorem RVs.erase {ps:List FV} {vs:List V} (k:Nat) (h:RVs K S ps vs):RVs K S (ps.eraseIdx k) (vs.eraseIdx k):=by
 rw [List.eraseIdx_eq_take_drop_succ,List.eraseIdx_eq_take_drop_succ]
 exact (h.take k).append (h.drop (k + 1))
end
section
variable {X:Cx} {C:CC} {n:Nat} {sp:Γd→Nat→Sp} {a:Expr} {ea:EW} {pos p:Pos} {i:Nat} {nx:Str}
end
end Kq
end
section
namespace L2
open PySem PySem.Spec PyProof.Rows
section
variable {X:Cx} {a e k:Expr} {ta te tk:TE} {pos p2:Pos}
end
end L2
namespace Kq
open PySem PySem.Spec PyProof.Rows L2
noncomputable def turnLF (v:FV):Option FV:=(a8f v).map fun xs=>.lst xs.reverse
section
variable {X:Cx} {C:CC} {a:Expr} {ea:EW} {pos:Pos}
end
end Kq
end
section
namespace L2
open PySem PySem.Spec PyProof.Rows
section
variable {X:Cx} {pos:Pos}
end
end L2
namespace Kq
open PySem PySem.Spec PyProof.Rows L2
section
variable {X:Cx} {C:CC} {n:Nat} {sp:Γd→Nat→Sp} {a b d:Expr} {ea eb ed:EW} {pos px py pz:Pos} {i j l:Nat} {nx ny nz:Str} {fr:Bool}
end
end Kq
end
section
namespace Kq
open PySem PySem.Spec PyProof.Rows L2
noncomputable def eMv (j:Nat):EW:=fun L Q=>wp (lk L j) fun v=>Q v (L.set j none)
@[scoped simp ↓] theorem eMv_eq (j:Nat) (L:a0d) (Q:FV→a0d→Prop):eMv j L Q=wp (lk L j) fun v=>Q v (L.set j none):=propext Iff.rfl
noncomputable def eCallT (call:CW) (f:Nat) (ea:EW) (as:AW):EW:=fun L Q=>ea L fun v L1=>as L1 fun vs L2=>call f (v :: vs) fun z=>Q z.1 L2
section
variable {X:Cx} {C:CC} {n:Nat} {sp:Γd→Nat→Sp} {a b:Expr} {ea eb:EW} {pos p:Pos} {call:CW}
variable {K:Γd} {c:Cn} {md:Md} {L:a0d} {σ:L2.St} {S H S' H':Hp} {i j f:Nat} {nx:Str} {xs:List Expr} {as:AW}
theorem a3d {L:a0d} {j i:Nat} {v:FV} (z:(L.set j none)[i]?=some (some v)):i≠j∧L[i]?=some (some v):=by
 by_cases q:i=j
 ·subst q
  have hj:i < L.length:=by have:=(List.getElem?_eq_some_iff.mp z).1; rwa [List.length_set] at this
  rw [List.getElem?_set_self hj] at z; cases z
 ·rw [List.getElem?_set_ne (Ne.symm q)] at z; exact ⟨q,z⟩
theorem Iv.drop (I:Iv K c md L σ S H) (hm:a0m md j=.own) (hj:j≠0):Iv K c md (L.set j none) σ S H where
 len:=by rw [List.length_set]; exact I.len
 imm:=fun i v h e=>I.imm i v h (a3d e).2
 own:=fun i v h e=>I.own i v h (a3d e).2
 dis:=fun i k v w a h1 h2 e1 e2=>I.dis i k v w a h1 h2 (a3d e1).2 (a3d e2).2
 sub:=I.sub
 frame:=I.frame
 s0:=I.s0
 grow:=I.grow
 lent:=fun a h=>by
  obtain ⟨g1,g2,g3⟩:=I.lent a h
  rw [List.getElem?_set_ne hj]; exact ⟨g1,g2,g3⟩
 fzs:=fun p hp=>by
  obtain ⟨g1,g2,g3⟩:=I.fzs p hp
  have:p.1≠j:=fun z=>by rw [z,hm] at g1; cases g1
  rw [List.getElem?_set_ne (Ne.symm this)]; exact ⟨g1,g2,g3⟩
 fzm:=fun i v h e=>I.fzm i v h (a3d e).2
 fzp:=I.fzp
 prs:=fun p hp=>let ⟨g1,g2,g3⟩:=I.prs p hp; ⟨g1,g2,fun i v h e=>g3 i v h (a3d e).2⟩
 ntp:=I.ntp
theorem d8d (G:Good X C n sp) (h:C.nm j nx=true) (m:a0m C.md j=.own) (hj:j≠0):FF X C (.Name nx p) (eMv j) :=
 PE.imp (a1r G h) fun σ H Q ⟨c,L,S,Q0,I,h,k⟩=>by
  obtain ⟨v,e,h⟩:=wpx h
  have e:=(a2p _ _ _).mp e
  have mi:a0m C.md j≠.imm:=fun z=>by rw [m] at z; cases z
  obtain ⟨l,e1,o,h0⟩:=I.own j v mi e
  refine ⟨_,e1,k v _ h l S H o ⟨?_,fun p hp z=>?_,fun y w my ey z=>?_⟩ (I.drop m hj) (Same.refl S)⟩
  ·rcases h0 with z | z
   ·obtain ⟨g1,g2,u,g3⟩:=I.lent l z
    exact absurd (I.dis j 0 v u l mi g1 e g3 e1 g2) hj
   ·exact z
  ·obtain ⟨_,_,g3⟩:=I.prs p hp
   exact g3 j v m e (by rw [z]; exact e1)
  ·obtain ⟨q,ey⟩:=a3d ey
   exact q (I.dis y j w v l my mi ey e z e1)
end
noncomputable def sFrz (j:Nat) (r:SW):SW:=fun L Q=>wp (lk L j) fun _=>r L fun fl L'=>Q fl (L'.set j none)
section
variable {X:Cx} {C:CC} {n:Nat} {sp:Γd→Nat→Sp} {fr:Bool} {sts:List Stmt} {r:SW}
variable {K:Γd} {c:Cn} {md md':Md} {L:a0d} {σ:L2.St} {S H:Hp} {j:Nat}
end
end Kq
end
set_option maxHeartbeats 1000000
set_option maxHeartbeats 4000000
section
namespace Kq
open PySem PySem.Spec PyProof.Rows L2 PySem.W
noncomputable def gA (a:Array Keyed) (i:Nat):Keyed:=a.getD i (.none,.none)
theorem c3i {a:Array Keyed} {i:Nat} (h:i < a.size):a[i]?=some (gA a i):=by
 simp [gA,Array.getD_eq_getD_getElem?,getElem?_pos a i h]
theorem a4x {a b:Array Keyed} {i j:Nat} (h:a[i]?=b[j]?):gA a i=gA b j:=by
 simp only [gA,Array.getD_eq_getD_getElem?,h]
structure Cmp (prog:Program) (w:World) (A:Around) (E:Value→Shared→Prop) (s:Shared) (kd:SortKind) (Ok:Keyed→Prop) (lt:Keyed→Keyed→Bool):Prop where
 run:∀ x y,Ok x→Ok y→∀ (st:SortSt) (Q:Option Bool→SortSt→Prop),kindOf st=kd→Q (some (lt x y)) st→wpS (model prog w) A E s (lt' x y) Q st
 refl:∀ x,lt x x=false
 trans:∀ x y z,lt y x=false→lt z y=false→lt z x=false
 asym:∀ x y,lt x y=true→lt y x=false
noncomputable def Srt (lt:Keyed→Keyed→Bool) (a:Array Keyed) (lo hi:Nat):Prop:=∀ i j,lo≤i→i≤j→j < hi→lt (gA a j) (gA a i)=false
noncomputable def Dsc (lt:Keyed→Keyed→Bool) (a:Array Keyed) (lo hi:Nat):Prop:=∀ i j,lo≤i→i≤j→j < hi→lt (gA a i) (gA a j)=false
noncomputable def Out (a b:Array Keyed) (lo hi:Nat):Prop:=b.Perm a∧∀ k,k < lo ∨ hi≤k→gA b k=gA a k
theorem Out.refl (a:Array Keyed) (lo hi:Nat):Out a a lo hi:=⟨Array.Perm.refl _,fun _ _=>rfl⟩
theorem Out.trans {a b c:Array Keyed} {lo hi:Nat} (h:Out a b lo hi) (g:Out b c lo hi):Out a c lo hi:=⟨g.1.trans h.1,fun k hk=>(g.2 k hk).trans (h.2 k hk)⟩
theorem Out.size {a b:Array Keyed} {lo hi:Nat} (h:Out a b lo hi):b.size=a.size:=h.1.size_eq
theorem Out.wide {a b:Array Keyed} {lo hi lo' hi':Nat} (h:Out a b lo hi) (h1:lo'≤lo) (h2:hi≤hi'):Out a b lo' hi':=⟨h.1,fun k hk=>h.2 k (by lia)⟩
noncomputable def AllOk (Ok:Keyed→Prop) (a:Array Keyed):Prop:=∀ x∈a.toList,Ok x
theorem AllOk.at {Ok:Keyed→Prop} {a:Array Keyed} (h:AllOk Ok a) {i:Nat} (hi:i < a.size):Ok (gA a i):=by
 refine h _ ?_
 have:=c3i hi
 rw [← Array.getElem?_toList] at this
 exact List.mem_of_getElem? this
theorem AllOk.perm {Ok:Keyed→Prop} {a b:Array Keyed} (h:AllOk Ok a) (p:b.Perm a):AllOk Ok b:=fun x hx=>h x ((Array.perm_iff_toList_perm.mp p).mem_iff.mp hx)
theorem a4w {a:Array Keyed} {i j:Nat} (hj:j≤a.size) (k:Nat):gA (mirror a i j ((j - i) / 2)) k=if i≤k∧k < j then gA a (i + j - 1 - k) else gA a k:=by
 have e:=getElem?_mirror_all (i:=i) hj k
 split
 ·rename_i h; rw [if_pos h] at e; exact a4x e
 ·rename_i h; rw [if_neg h] at e; exact a4x e
theorem a2y {a:Array Keyed} {i j:Nat} (hj:j≤a.size):Out a (mirror a i j ((j - i) / 2)) i j:=⟨mirror_perm _ _ _ _,fun k hk=>by rw [a4w hj,if_neg (by lia)]⟩
section
variable {prog:Program} {w:World} {A:Around} {E:Value→Shared→Prop} {s:Shared} {kd:SortKind} {Ok:Keyed→Prop} {lt:Keyed→Keyed→Bool}
abbrev stA (kd:SortKind) (a:Array Keyed) (p:Array (Nat×Nat×Nat)) (g:Nat):SortSt:=SortSt.mk' kd a p g none
theorem ask (C:Cmp prog w A E s kd Ok lt) {a:Array Keyed} {p:Array (Nat×Nat×Nat)} {g i j:Nat} {Q:Option Bool→SortSt→Prop} (ho:AllOk Ok a) (hi:i < a.size) (hj:j < a.size) (h:Q (some (lt (gA a i) (gA a j))) (stA kd a p g)):wpS (model prog w) A E s (ltAt' i j) Q (stA kd a p g):=by
 rw [ltAt'_eq]
 refine wpS_bind (wpS_get ?_)
 show wpS _ _ _ _ (do let x ← elem' a i; let y ← elem' a j; lt' x y) Q _
 rw [elem'_eq,elem'_eq,c3i hi,c3i hj]
 exact wpS_bind (wpS_pure (wpS_bind (wpS_pure (C.run _ _ (ho.at hi) (ho.at hj) _ _ rfl h))))
theorem turned {a:Array Keyed} {p:Array (Nat×Nat×Nat)} {g i j:Nat} {Q:Unit→SortSt→Prop} (h:Q () (stA kd (mirror a i j ((j - i) / 2)) p g)):wpS (model prog w) A E s (reverseSlice' i j) Q (stA kd a p g):=by
 rw [reverseSlice'_eq]; exact wpS_modify h
theorem d6v {a:Array Keyed} {p:Array (Nat×Nat×Nat)} {g i j:Nat} {Q:Unit→SortSt→Prop} (h:Q () (stA kd (bubble a i (i - j)) p g)):wpS (model prog w) A E s (moveDown' i j) Q (stA kd a p g):=by
 rw [moveDown'_eq]; exact wpS_modify h
noncomputable def Eqv (lt:Keyed→Keyed→Bool) (a:Array Keyed) (lo hi:Nat):Prop:=∀ i j,lo≤i→i < hi→lo≤j→j < hi→lt (gA a i) (gA a j)=false
theorem a4p {a:Array Keyed} {l hi k:Nat} (hj:hi≤a.size) (hk:k < hi):∃ k',k' < hi∧gA (mirror a l hi ((hi - l) / 2)) k=gA a k'∧(k < l→k'=k)∧(l≤k→l≤k'):=by
 rw [a4w hj]
 split
 ·exact ⟨l + hi - 1 - k,by lia,rfl,by lia,by lia⟩
 ·exact ⟨k,hk,rfl,fun _=>rfl,fun h=>h⟩
theorem a5q (C:Cmp prog w A E s kd Ok lt) {a:Array Keyed} {lo l hi:Nat} (hj:hi≤a.size) (hd:Dsc lt a lo hi) (he:Eqv lt a l hi) (hl:lo≤l):Dsc lt (mirror a l hi ((hi - l) / 2)) lo hi:=by
 intro i j h1 h2 h3
 obtain ⟨i',i1,i2,i3,i4⟩:=a4p (l:=l) hj (show i < hi by lia)
 obtain ⟨j',j1,j2,j3,j4⟩:=a4p (l:=l) hj h3
 rw [i2,j2]
 by_cases hi':i < l
 ·have e:=i3 hi'
  subst e
  by_cases hj':j < l
  ·have e:=j3 hj'
   subst e
   exact hd _ _ h1 h2 h3
  ·exact hd _ _ h1 (by have:=j4 (by lia); lia) j1
 ·exact he _ _ (i4 (by lia)) i1 (j4 (by lia)) j1
theorem b5h {a:Array Keyed} {lo hi:Nat} (hj:hi≤a.size) (hd:Dsc lt a lo hi):Srt lt (mirror a lo hi ((hi - lo) / 2)) lo hi:=by
 intro i j h1 h2 h3
 rw [a4w hj,a4w hj,if_pos ⟨by lia,h3⟩,if_pos ⟨h1,by lia⟩]
 exact hd _ _ (by lia) (by lia) (by lia)
theorem b3t (C:Cmp prog w A E s kd Ok lt) {b:Array Keyed} {lo x:Nat} (hs:Srt lt b lo (lo + x)) (hx:1≤x) (hl:lt (gA b (lo + x)) (gA b (lo + x - 1))=false):Srt lt b lo (lo + (x + 1)):=by
 intro i j h1 h2 h3
 by_cases hj:j < lo + x
 ·exact hs i j h1 h2 hj
 ·have:j=lo + x:=by lia
  subst this
  by_cases hi:i=lo + x
  ·rw [hi]; exact C.refl _
  ·exact C.trans _ _ _ (hs i (lo + x - 1) h1 (by lia) (by lia)) hl
theorem a4y (C:Cmp prog w A E s kd Ok lt) {b:Array Keyed} {lo x:Nat} (hs:Dsc lt b lo (lo + x)) (hx:1≤x) (hl:lt (gA b (lo + x - 1)) (gA b (lo + x))=false):Dsc lt b lo (lo + (x + 1)):=by
 intro i j h1 h2 h3
 by_cases hj:j < lo + x
 ·exact hs i j h1 h2 hj
 ·have:j=lo + x:=by lia
  subst this
  by_cases hi:i=lo + x
  ·rw [hi]; exact C.refl _
  ·exact C.trans _ _ _ hl (hs i (lo + x - 1) h1 (by lia) (by lia))
theorem c9v (C:Cmp prog w A E s kd Ok lt) {a:Array Keyed} {p:Array (Nat×Nat×Nat)} {g lo n:Nat} {Q:Option Nat→SortSt→Prop} (ho:AllOk Ok a) (h1:1≤n) (hn:lo + n≤a.size)
  (h:∀ m b,1≤m→m≤n→Out a b lo (lo + n)→Srt lt b lo (lo + m)→Q (some m) (stA kd b p g)):wpS (model prog w) A E s (countRun' lo n) Q (stA kd a p g):=by
 rw [countRun'_eq]
 refine wpS_bind (wpS_mono (wpS_forRange (I:=fun x c st'=>st'=stA kd a p g∧c=(none,x)∧Srt lt a lo (lo + x))
  (Q:=fun c st'=>∃ m,st'=stA kd a p g∧c=(none,m)∧1≤m∧m≤n∧Srt lt a lo (lo + m)∧(m=n ∨ lt (gA a (lo + m)) (gA a (lo + m - 1))=true)) ?_ ?_ ⟨rfl,rfl,fun i j h1 h2 h3=>?_⟩) ?_)
 ·rintro x c st' hx hxn ⟨rfl,rfl,hs⟩
  dsimp only
  refine wpS_bind (ask C ho (by lia) (by lia) ?_)
  cases e:lt (gA a (lo + x)) (gA a (lo + x - 1)) with
  | true=>exact wpS_pure ⟨x,rfl,rfl,hx,by lia,hs,.inr e⟩
  | false=>exact wpS_pure ⟨rfl,rfl,b3t C hs hx e⟩
 ·rintro c st' ⟨rfl,rfl,hs⟩
  rw [show max 1 n=n by lia] at hs ⊢
  exact ⟨n,rfl,rfl,h1,Γi _,hs,.inl rfl⟩
 ·have:i=j:=by lia
  subst this; exact C.refl _
 rintro c st' ⟨m,rfl,rfl,hm1,hmn,hs,hor⟩
 dsimp only
 by_cases hm:m=n
 ·rw [if_pos (by simpa using hm)]
  exact wpS_pure (h m a hm1 hmn (Out.refl _ _ _) hs)
 rw [if_neg (by simpa using hm)]
 have hlt:=C.asym _ _ (hor.resolve_left hm)
 have one:m=1→Dsc lt a lo (lo + (m + 1)):=fun e=>a4y C (by
  intro i j h1 h2 h3
  have:i=j:=by lia
  subst this; exact C.refl _) hm1 hlt
 have two:lt (gA a lo) (gA a (lo + m - 1))=false→Out a (mirror a lo (lo + m) ((lo + m - lo) / 2)) lo (lo + n)∧Dsc lt (mirror a lo (lo + m) ((lo + m - lo) / 2)) lo (lo + (m + 1)):=by
  intro hr
  have hall:Eqv lt a lo (lo + m):=by
   intro i j h1 h2 h3 h4
   exact C.trans _ _ _ (C.trans _ _ _ (hs j (lo + m - 1) h3 (by lia) (by lia)) hr) (hs lo i (Γi _) h1 h2)
  have hsz:lo + m≤a.size:=by lia
  refine ⟨(a2y hsz).wide (Γi _) (by lia),?_⟩
  refine a4y C (a5q C hsz (fun i j h1 h2 h3=>hall i j h1 (by lia) (by lia) h3) hall (Γi _)) hm1 ?_
  rw [(a2y (i:=lo) hsz).2 (lo + m) (by lia)]
  obtain ⟨k',k1,k2,-,k4⟩:=a4p (l:=lo) hsz (show lo + m - 1 < lo + m by lia)
  rw [k2]
  exact C.trans _ _ _ hlt (hall _ _ (k4 (by lia)) k1 (by lia) (by lia))
 by_cases hgt:m > 1
 rw [if_pos hgt]
 refine wpS_bind (ask C ho (by lia) (by lia) ?_)
 rcases Bool.eq_false_or_eq_true (lt (gA a lo) (gA a (lo + m - 1))) with hr | hr
 rw [hr]
 exact wpS_pure (h m a hm1 hmn (Out.refl _ _ _) hs)
 rw [hr]
 refine wpS_bind (turned ?_)
 obtain ⟨hb,hd⟩:=two hr
 generalize mirror a lo (lo + m) ((lo + m - lo) / 2)=b at hb hd ⊢
 rotate_left
 rw [if_neg hgt]
 have hd:=one (by lia)
 have hb:=Out.refl a lo (lo + n)
 revert hb hd
 generalize hab:stA kd a p g=sa
 suffices h:∀ b,sa=stA kd b p g→Out a b lo (lo + n)→Dsc lt b lo (lo + (m + 1))→_ from fun hd hb=>h a hab.symm hb hd
 rintro b rfl hb hd
 all_goals
  clear hs hor hlt one two
  have hsz:=hb.size
  refine wpS_bind (wpS_lift (wpAny_rule ⟨rfl,?_⟩))
  refine wpS_bind (wpS_mono (wpS_forRange (I:=fun x c st'=>∃ b q,st'=stA kd b p g∧c=(none,x,q)∧Out a b lo (lo + n)∧Dsc lt b lo (lo + x)∧q + 1≤x∧Eqv lt b (lo + x - (q + 1)) (lo + x))
   (Q:=fun c st'=>∃ x b q,st'=stA kd b p g∧c=(none,x,q)∧1≤x∧x≤n∧Out a b lo (lo + n)∧Dsc lt b lo (lo + x)∧q + 1≤x∧Eqv lt b (lo + x - (q + 1)) (lo + x)) ?_ ?_ ⟨b,0,rfl,rfl,hb,hd,by lia,?_⟩) ?_)
  ·rintro x c st' hx hxn ⟨b,q,rfl,rfl,hb,hd,hq,he⟩
   have hsz:=hb.size
   have hok:=ho.perm hb.1
   dsimp only
   refine wpS_bind (ask C hok (by lia) (by lia) ?_)
   rcases Bool.eq_false_or_eq_true (lt (gA b (lo + x)) (gA b (lo + x - 1))) with hr | hr
   ·rw [hr]
    have hr':=C.asym _ _ hr
    have e0:∀ b':Array Keyed,Eqv lt b' (lo + (x + 1) - (0 + 1)) (lo + (x + 1)):=fun b' i j h1 h2 h3 h4=>by
     have:i=j:=by lia
     subst this; exact C.refl _
    simp only [if_true]
    by_cases h0:q > 0
    ·rw [if_pos h0]
     refine wpS_bind (turned (wpS_pure ?_))
     have hs2:lo + x≤b.size:=by lia
     have hom:=a2y (i:=lo + x - (q + 1)) hs2
     refine ⟨_,0,rfl,rfl,hb.trans (hom.wide (by lia) (by lia)),?_,by lia,e0 _⟩
     refine a4y C (a5q C hs2 hd he (by lia)) (by lia) ?_
     rw [hom.2 (lo + x) (by lia)]
     obtain ⟨k',k1,k2,-,k4⟩:=a4p (l:=lo + x - (q + 1)) hs2 (show lo + x - 1 < lo + x by lia)
     rw [k2]
     exact C.trans _ _ _ hr' (hd _ _ (by have:=k4 (by lia); lia) (by lia) (by lia))
    ·rw [if_neg h0]
     exact wpS_pure ⟨b,0,rfl,rfl,hb,a4y C hd (by lia) hr',by lia,e0 _⟩
   ·rw [hr]
    simp only [Γp,if_false]
    refine wpS_bind (ask C hok (by lia) (by lia) ?_)
    rcases Bool.eq_false_or_eq_true (lt (gA b (lo + x - 1)) (gA b (lo + x))) with hr2 | hr2
    ·rw [hr2]
     exact wpS_pure ⟨x,b,q,rfl,rfl,by lia,by lia,hb,hd,hq,he⟩
    ·rw [hr2]
     refine wpS_pure ⟨b,q + 1,rfl,rfl,hb,a4y C hd (by lia) hr2,by lia,fun i j h1 h2 h3 h4=>?_⟩
     by_cases hi:i=lo + x
     ·by_cases hj:j=lo + x
      ·rw [hi,hj]; exact C.refl _
      ·rw [hi]
       exact C.trans _ _ _ (he (lo + x - 1) j (by lia) (by lia) (by lia) (by lia)) hr
     ·by_cases hj:j=lo + x
      ·rw [hj]
       exact C.trans _ _ _ hr2 (he i (lo + x - 1) (by lia) (by lia) (by lia) (by lia))
      ·exact he i j (by lia) (by lia) (by lia) (by lia)
  ·rintro c st' ⟨b,q,rfl,rfl,hb,hd,hq,he⟩
   rw [show max (m + 1) n=n by lia] at *
   exact ⟨n,b,q,rfl,rfl,h1,Γi _,hb,hd,hq,he⟩
  ·intro i j h1 h2 h3 h4
   have:i=j:=by lia
   subst this; exact C.refl _
  rintro c st' ⟨x,b,q,rfl,rfl,hx1,hxn,hb,hd,hq,he⟩
  have hsz:=hb.size
  have hs2:lo + x≤b.size:=by lia
  dsimp only
  by_cases h0:q > 0
  rw [if_pos h0]
  refine wpS_bind (turned ?_)
  have hb2:=hb.trans ((a2y (i:=lo + x - (q + 1)) hs2).wide (show lo≤lo + x - (q + 1) by lia) (show lo + x≤lo + n by lia))
  have hd2:=a5q C hs2 hd he (show lo≤lo + x - (q + 1) by lia)
  clear hb hd he hsz hs2
  generalize mirror b (lo + x - (q + 1)) (lo + x) ((lo + x - (lo + x - (q + 1))) / 2)=b2 at hb2 hd2 ⊢
  rotate_left
  rw [if_neg h0]
  have hb2:=hb
  have hd2:=hd
  clear hb hd he hsz hs2
  generalize b=b2 at hb2 hd2 ⊢
  all_goals
   have hsz:=hb2.size
   have hs2:lo + x≤b2.size:=by lia
   refine wpS_bind (turned ?_)
   have hb3:=hb2.trans ((a2y (i:=lo) hs2).wide (Γi lo) (show lo + x≤lo + n by lia))
   have hs3:=b5h hs2 hd2
   generalize mirror b2 lo (lo + x) ((lo + x - lo) / 2)=b3 at hb3 hs3 ⊢
   have hok:=ho.perm hb3.1
   have hsz3:=hb3.size
   refine wpS_bind (wpS_mono (wpS_forRange (I:=fun x c st'=>st'=stA kd b3 p g∧c=(none,x)∧Srt lt b3 lo (lo + x))
    (Q:=fun c st'=>∃ m,st'=stA kd b3 p g∧c=(none,m)∧1≤m∧m≤n∧Srt lt b3 lo (lo + m)) ?_ ?_ ⟨rfl,rfl,hs3⟩) ?_)
   ·rintro y c st' hy hyn ⟨rfl,rfl,hs⟩
    dsimp only
    refine wpS_bind (ask C hok (by lia) (by lia) ?_)
    rcases Bool.eq_false_or_eq_true (lt (gA b3 (lo + y)) (gA b3 (lo + y - 1))) with e | e
    ·rw [e]; exact wpS_pure ⟨y,rfl,rfl,by lia,by lia,hs⟩
    ·rw [e]; exact wpS_pure ⟨rfl,rfl,b3t C hs (by lia) e⟩
   ·rintro c st' ⟨rfl,rfl,hs⟩
    rw [show max x n=n by lia] at hs ⊢
    exact ⟨n,rfl,rfl,h1,Γi _,hs⟩
   ·rintro c st' ⟨y,rfl,rfl,hy1,hyn,hs⟩
    exact wpS_pure (h y b3 hy1 hyn hb3 hs)
end
section
variable {prog:Program} {w:World} {A:Around} {E:Value→Shared→Prop} {s:Shared} {kd:SortKind} {Ok:Keyed→Prop} {lt:Keyed→Keyed→Bool}
theorem a7h {a:Array Keyed} {i d:Nat} (hi:i < a.size) (hd:d≤i) (k:Nat):gA (bubble a i d) k=if k=i - d then gA a i else if i - d < k∧k≤i then gA a (k - 1) else gA a k:=by
 have e:=getElem?_bubble hi d hd k
 split
 ·rename_i h; rw [if_pos h] at e; exact a4x e
 ·rename_i h
  rw [if_neg h] at e
  split
  ·rename_i h2; rw [if_pos h2] at e; exact a4x e
  ·rename_i h2; rw [if_neg h2] at e; exact a4x e
theorem d2c (C:Cmp prog w A E s kd Ok lt) {a:Array Keyed} {p:Array (Nat×Nat×Nat)} {g lo n ok:Nat} {Q:Bool→SortSt→Prop} (ho:AllOk Ok a) (h1:1≤ok) (hk:ok≤n) (hn:lo + n≤a.size) (hs:Srt lt a lo (lo + ok))
  (h:∀ b,Out a b lo (lo + n)→Srt lt b lo (lo + n)→Q true (stA kd b p g)):wpS (model prog w) A E s (binarySort' lo n ok) Q (stA kd a p g):=by
 rw [binarySort'_eq]
 refine wpS_bind (wpS_mono (wpS_forRange (I:=fun k c st'=>∃ b,st'=stA kd b p g∧c=(none,())∧Out a b lo (lo + n)∧Srt lt b lo (lo + k))
  (Q:=fun c st'=>∃ b,st'=stA kd b p g∧c=(none,())∧Out a b lo (lo + n)∧Srt lt b lo (lo + n)) ?_ ?_ ⟨a,rfl,rfl,Out.refl _ _ _,by rw [show max ok 1=ok by lia]; exact hs⟩) ?_)
 ·rintro k c st' hk1 hkn ⟨b,rfl,rfl,hb,hs⟩
  have hsz:=hb.size
  have hok:=ho.perm hb.1
  dsimp only
  refine wpS_bind (wpS_mono (wpS_forRange (I:=fun j c st'=>∃ l r,st'=stA kd b p g∧c=(none,l,r)∧l≤r∧r≤k∧r - l≤k - j∧(∀ i,i < l→lt (gA b (lo + k)) (gA b (lo + i))=false)∧∀ i,r≤i→i < k→lt (gA b (lo + i)) (gA b (lo + k))=false)
   (Q:=fun c st'=>∃ l r,st'=stA kd b p g∧c=(none,l,r)∧l≤k∧(∀ i,i < l→lt (gA b (lo + k)) (gA b (lo + i))=false)∧∀ i,l≤i→i < k→lt (gA b (lo + i)) (gA b (lo + k))=false) ?_ ?_ ⟨0,k,rfl,rfl,by lia,by lia,by lia,fun i hi=>by lia,fun i h1 h2=>by lia⟩) ?_)
  ·rintro j c st' - hj ⟨l,r,rfl,rfl,hlr,hrk,hm,g1,g2⟩
   dsimp only
   by_cases hge:l ≥ r
   ·rw [if_pos hge]
    exact wpS_pure ⟨l,r,rfl,rfl,by lia,g1,fun i h1 h2=>g2 i (by lia) h2⟩
   ·rw [if_neg hge]
    refine wpS_bind (ask C hok (by lia) (by lia) ?_)
    rcases Bool.eq_false_or_eq_true (lt (gA b (lo + k)) (gA b (lo + (l + r) / 2))) with e | e
    ·rw [e]
     have e':=C.asym _ _ e
     refine wpS_pure ⟨l,(l + r) / 2,rfl,rfl,by lia,by lia,by lia,g1,fun i h1 h2=>?_⟩
     exact C.trans _ _ _ e' (hs _ _ (by lia) (by lia) (by lia))
    ·rw [e]
     refine wpS_pure ⟨(l + r) / 2 + 1,r,rfl,rfl,by lia,by lia,by lia,fun i hi=>?_,g2⟩
     exact C.trans _ _ _ (hs (lo + i) (lo + (l + r) / 2) (by lia) (by lia) (by lia)) e
  ·rintro c st' ⟨l,r,rfl,rfl,hlr,hrk,hm,g1,g2⟩
   rw [show max 0 k=k by lia] at hm
   exact ⟨l,r,rfl,rfl,by lia,g1,fun i h1 h2=>g2 i (by lia) h2⟩
  ·rintro c st' ⟨l,r,rfl,rfl,hlk,g1,g2⟩
   dsimp only
   refine wpS_bind (d6v (wpS_pure ?_))
   have hi:lo + k < b.size:=by lia
   have hd:lo + k - (lo + l)≤lo + k:=by lia
   refine ⟨_,rfl,rfl,hb.trans ⟨bubble_perm _ _ _,fun x hx=>?_⟩,fun i j h1 h2 h3=>?_⟩
   ·rw [a7h hi hd,if_neg (by lia),if_neg (by lia)]
   ·rw [a7h hi hd,a7h hi hd]
    have el:lo + k - (lo + k - (lo + l))=lo + l:=by lia
    rw [el]
    by_cases j1:j=lo + l
    ·rw [if_pos j1]
     by_cases i1:i=lo + l
     ·rw [if_pos i1]; exact C.refl _
     ·rw [if_neg i1,if_neg (by lia)]
      have:=g1 (i - lo) (by lia)
      rwa [show lo + (i - lo)=i by lia] at this
    ·rw [if_neg j1]
     by_cases i1:i=lo + l
     ·rw [if_pos i1,if_pos (by lia)]
      have:=g2 (j - 1 - lo) (by lia) (by lia)
      rwa [show lo + (j - 1 - lo)=j - 1 by lia] at this
     ·rw [if_neg i1]
      by_cases j2:lo + l < j∧j≤lo + k
      ·rw [if_pos j2]
       by_cases i2:lo + l < i∧i≤lo + k
       ·rw [if_pos i2]; exact hs _ _ (by lia) (by lia) (by lia)
       ·rw [if_neg i2]; exact hs _ _ (by lia) (by lia) (by lia)
      ·rw [if_neg j2,if_neg (by lia)]
       exact hs _ _ (by lia) (by lia) (by lia)
 ·rintro c st' ⟨b,rfl,rfl,hb,hs⟩
  rw [show max (max ok 1) n=n by lia] at hs
  exact ⟨b,rfl,rfl,hb,hs⟩
 ·rintro c st' ⟨b,rfl,rfl,hb,hs⟩
  exact wpS_pure (h b hb hs)
end
section
variable {prog:Program} {w:World} {A:Around} {E:Value→Shared→Prop} {s:Shared} {kd:SortKind} {Ok:Keyed→Prop} {lt:Keyed→Keyed→Bool}
end
abbrev Asc {α:Type} (lt:α→α→Bool) (l:List α):Prop:=l.Pairwise fun x y=>lt y x=false
structure MI {α:Type} (lt:α→α→Bool) (X Y O:List α) (i j:Nat):Prop where
 perm:O.Perm (X.take i++Y.take j)
 srt:Asc lt O
 bef:∀ x∈O,∀ y∈X.drop i++Y.drop j,lt y x=false
section
variable {α:Type} {lt:α→α→Bool} {X Y O:List α} {i j k:Nat}
theorem MI.swap (h:MI lt X Y O i j):MI lt Y X O j i:=⟨h.perm.trans List.perm_append_comm,h.srt,fun x hx y hy=>h.bef x hx y (by simpa [or_comm] using hy)⟩
noncomputable def Mrg (lt:α→α→Bool) (X Y R:List α):Prop:=R.Perm (X++Y)∧Asc lt R
theorem Mrg.swap {R:List α} (h:Mrg lt X Y R):Mrg lt Y X R:=⟨h.1.trans List.perm_append_comm,h.2⟩
end
theorem b0d {a:Array Keyed} {i:Nat} (h:i < a.toList.length):gA a i=a.toList[i]:=by
 have:=c3i (a:=a) (i:=i) (by simpa using h)
 rw [← Array.getElem?_toList,List.getElem?_eq_getElem h] at this
 exact (Option.some.inj this).symm
section
variable {lt:Keyed→Keyed→Bool} {x y o:Array Keyed} {i j k:Nat}
abbrev MA (lt:Keyed→Keyed→Bool) (x y o:Array Keyed) (i j:Nat):Prop:=MI lt x.toList y.toList o.toList i j
theorem MA.swap (h:MA lt x y o i j):MA lt y x o j i:=MI.swap h
end
section
variable {prog:Program} {w:World} {A:Around} {E:Value→Shared→Prop} {s:Shared} {kd:SortKind} {Ok:Keyed→Prop} {lt:Keyed→Keyed→Bool}
end
abbrev rv (lt:Keyed→Keyed→Bool):Keyed→Keyed→Bool:=fun u v=>lt v u
noncomputable def MH (lt:Keyed→Keyed→Bool) (x y o:Array Keyed) (i j:Nat):Prop:=MI (rv lt) x.toList.reverse y.toList.reverse o.toList (x.size - i) (y.size - j)
section
variable {lt:Keyed→Keyed→Bool} {x y o:Array Keyed} {i j t:Nat}
theorem MH.swap (h:MH lt x y o i j):MH lt y x o j i:=MI.swap h
end
section
variable {prog:Program} {w:World} {A:Around} {E:Value→Shared→Prop} {s:Shared} {kd:SortKind} {Ok:Keyed→Prop} {lt:Keyed→Keyed→Bool}
end
theorem c5z {lt:Keyed→Keyed→Bool} (hr:∀ u,lt u u=false) {a:Array Keyed} {lo hi:Nat} (hh:hi≤a.size):Srt lt a lo hi↔Asc lt ((a.toList.drop lo).take (hi - lo)):=by
 rw [Asc,List.pairwise_iff_getElem]
 constructor
 ·intro h i j hi' hj hij
  simp at hi' hj
  simp only [List.getElem_take,List.getElem_drop]
  have:=h (lo + i) (lo + j) (by lia) (by lia) (by lia)
  rwa [b0d (show lo + i < a.toList.length by simp; lia),b0d (show lo + j < a.toList.length by simp; lia)] at this
 ·intro h i j h1 h2 h3
  by_cases e:i=j
  ·subst e; exact hr _
  ·have:=h (i - lo) (j - lo) (by simp; lia) (by simp; lia) (by lia)
   simp only [List.getElem_take,List.getElem_drop,show lo + (i - lo)=i by lia,show lo + (j - lo)=j by lia] at this
   rw [b0d (show i < a.toList.length by simp; lia),b0d (show j < a.toList.length by simp; lia)]
   exact this
noncomputable def back (r:Array Keyed) (s:Nat) (a:Array Keyed):Array Keyed:=r.toList.zipIdx.foldl (fun a q=>a.setIfInBounds (s + q.2) q.1) a
section
variable {prog:Program} {w:World} {A:Around} {E:Value→Shared→Prop} {s:Shared} {kd:SortKind} {Ok:Keyed→Prop} {lt:Keyed→Keyed→Bool}
end
noncomputable def Cov (lt:Keyed→Keyed→Bool) (a:Array Keyed):List (Nat×Nat×Nat)→Nat→Nat→Prop
 | [],s,e=>s=e
 | (u,n,_) :: r,s,e=>u=s∧1≤n∧Srt lt a s (s + n)∧Cov lt a r (s + n) e
section
variable {lt:Keyed→Keyed→Bool} {a b:Array Keyed}
theorem Cov.snoc:∀ {l:List (Nat×Nat×Nat)} {s e n f:Nat},Cov lt a l s e→1≤n→Srt lt a e (e + n)→Cov lt a (l++[(e,n,f)]) s (e + n)
 | [],s,e,n,f,h,h1,h2=>by cases (show s=e from h); exact ⟨rfl,h1,h2,rfl⟩
 | (u,m,_) :: r,s,e,n,f,⟨g1,g2,g3,g4⟩,h1,h2=>⟨g1,g2,g3,g4.snoc h1 h2⟩
end
section
variable {prog:Program} {w:World} {A:Around} {E:Value→Shared→Prop} {s:Shared} {kd:SortKind} {Ok:Keyed→Prop} {lt:Keyed→Keyed→Bool}
end
theorem a9t:∀ a:List Int,lexLt a a=false
 | []=>rfl
 | x :: r=>by rw [lexLt,if_pos rfl,a9t r]
theorem b4h:∀ a b:List Int,lexLt a b=true→lexLt b a=false
 | [],[],h=>by cases h
 | [],_ :: _,_=>rfl
 | _ :: _,[],h=>by cases h
 | x :: r,y :: q,h=>by
  rw [lexLt] at h ⊢
  by_cases e:x=y
  ·rw [if_pos e] at h; rw [if_pos e.symm]; exact b4h r q h
  ·rw [if_neg e] at h; rw [if_neg (Ne.symm e)]
   simp only [decide_eq_true_eq,decide_eq_false_iff_not] at h ⊢; lia
theorem b1f:∀ a b c:List Int,lexLt b a=false→lexLt c b=false→lexLt c a=false
 | [],b,c,h1,h2=>by cases c <;> rfl
 | x :: r,[],c,h1,h2=>by cases h1
 | x :: r,y :: q,[],h1,h2=>by cases h2
 | x :: r,y :: q,z :: t,h1,h2=>by
  rw [lexLt] at h1 h2 ⊢
  by_cases e1:y=x
  ·rw [if_pos e1] at h1
   by_cases e2:z=y
   ·rw [if_pos e2] at h2; rw [if_pos (e2.trans e1)]; exact b1f r q t h1 h2
   ·rw [if_neg e2] at h2; rw [if_neg (by rw [← e1]; exact e2),← e1]; exact h2
  ·rw [if_neg e1] at h1
   by_cases e2:z=y
   ·rw [if_pos e2] at h2; rw [if_neg (by rw [e2]; exact e1),e2]; exact h1
   ·rw [if_neg e2] at h2
    simp only [decide_eq_false_iff_not] at h1 h2
    rw [if_neg (by lia)]
    simp only [decide_eq_false_iff_not]; lia
noncomputable def a5d (m:Nat):Prop:=∀ (prog:Program) (w:World) (A:Around) (E:Value→Shared→Prop) (s:Shared) (kd:SortKind) (Ok:Keyed→Prop) (lt:Keyed→Keyed→Bool),Cmp prog w A E s kd Ok lt→∀ (a:Array Keyed) (g:Nat) (Q:Unit→SortSt→Prop),AllOk Ok a→2≤a.size→a.size≤m →
 (∀ b p g',b.Perm a→Srt lt b 0 a.size→Q () (stA kd b p g'))→wpS (model prog w) A E s sortRuns' Q (stA kd a #[] g)
theorem c4m:a5d 63:=by
 intro prog w A E s kd Ok lt C a g Q ho h2 h64 q
 rw [sortRuns'_eq]
 refine wpS_bind (wpS_get ?_)
 dsimp only
 rw [show arrOf (stA kd a #[] g)=a from rfl]
 have hmr:minRun' a.size a.size 0=a.size:=by
  obtain ⟨f,hf⟩:∃ f,a.size=f + 1:=⟨a.size - 1,by lia⟩
  have:minRun' (f + 1) a.size 0=a.size:=by rw [minRun'_succ,if_pos (by lia)]; rfl
  rwa [← hf] at this
 rw [hmr]
 refine wpS_bind (wpS_mono (wpS_forRange (I:=fun x c st'=>(x=0∧c=(none,0)∧st'=stA kd a #[] g) ∨ (1≤x∧c=(none,a.size)∧∃ b p,st'=stA kd b p g∧p.size=1∧b.Perm a∧Srt lt b 0 a.size))
  (Q:=fun c st'=>c=(none,a.size)∧∃ b p,st'=stA kd b p g∧p.size=1∧b.Perm a∧Srt lt b 0 a.size) ?_ ?_ (.inl ⟨rfl,rfl,rfl⟩)) ?_)
 ·rintro x c st' - hx (⟨rfl,rfl,rfl⟩ | ⟨hx1,rfl,b,p,rfl,i1,i2,i3⟩)
  ·dsimp only
   rw [if_neg (by lia)]
   simp only [Nat.sub_zero,Nat.min_self,Nat.zero_add]
   refine wpS_bind (c9v C ho (by lia) (by lia) fun m b1 m1 m2 o1 s1=>?_)
   dsimp only
   rw [Nat.zero_add] at s1
   have hz:=o1.1.size_eq
   by_cases hlt:m < a.size
   ·rw [if_pos hlt]
    refine wpS_bind (wpS_lift (wpAny_rule ⟨rfl,?_⟩))
    refine wpS_bind (d2c C (ho.perm o1.1) m1 m2 (by lia) (by rw [Nat.zero_add]; exact s1) fun b2 o2 s2=>?_)
    simp only [Bool.not_true,Γp,if_false]
    refine wpS_bind (wpS_get ?_)
    rw [Nat.zero_add] at s2
    exact wpS_bind (wpS_modify (wpS_pure (.inr ⟨by lia,rfl,b2,_,rfl,rfl,o2.1.trans o1.1,s2⟩)))
   ·rw [if_neg hlt]
    have e:m=a.size:=by lia
    subst e
    refine wpS_bind (wpS_get ?_)
    exact wpS_bind (wpS_modify (wpS_pure (.inr ⟨by lia,rfl,b1,_,rfl,rfl,o1.1,s1⟩)))
  ·dsimp only
   rw [if_pos (by lia)]
   exact wpS_pure ⟨rfl,b,p,rfl,i1,i2,i3⟩
 ·rintro c st' (⟨hx,_⟩ | ⟨_,hc,h⟩)
  ·lia
  ·exact ⟨hc,h⟩
 ·rintro c st' ⟨rfl,b,p,rfl,i1,i2,i3⟩
  dsimp only
  refine wpS_bind (wpS_mono (wpS_forRange (I:=fun _ c st'=>c=(none,())∧st'=stA kd b p g) (Q:=fun c st'=>c=(none,())∧st'=stA kd b p g) ?_ (fun _ _ h=>h) ⟨rfl,rfl⟩) ?_)
  ·rintro x c st' - hx ⟨rfl,rfl⟩
   refine wpS_bind (wpS_get ?_)
   rw [show pendingOf (stA kd b p g)=p from rfl,if_pos (by lia)]
   exact wpS_pure ⟨rfl,rfl⟩
  ·rintro c st' ⟨rfl,rfl⟩
   exact wpS_pure (q b p g i2 i3)
section
variable {prog:Program} {w:World} {A:Around} {E:Value→Shared→Prop} {s:Shared} {vs:List Value} {kd:SortKind} {kf:Value→List Int}
theorem d3c (hc:∀ x∈vs,∀ y∈vs,∀ Q:Bool→Shared→Prop,∀ E':Value→Shared→Prop,Q (lexLt (kf x) (kf y)) s→wpAny (model prog w) A (keyLt' kd x y) Q E' s):Cmp prog w A E s kd (fun p=>p.1∈vs) (fun p q=>lexLt (kf p.1) (kf q.1)) where
 run:=fun x y hx hy st Q hk q=>by
  rw [lt'_eq]
  refine wpS_bind (wpS_get ?_)
  rw [hk]
  refine wpS_bind (wpS_lift (wpAny_attempt (hc _ hx _ hy _ _ ⟨rfl,?_⟩)))
  exact wpS_pure q
 refl:=fun x=>a9t _
 trans:=fun x y z h1 h2=>b1f _ _ _ h1 h2
 asym:=fun x y h=>b4h _ _ h
theorem d1s {m:Nat} (RT:a5d m) (hm:m≤100000) {a:Addr} {n:Nat} {P:PySem.Fin→Shared→Prop} (ho:s.heap.get? a=some (seqObj "list" vs.toArray n)) (hb:vs.length≤m)
  (hk:2≤vs.length→∀ h3:Heap,(∀ b o,b≠a→s.heap.get? b=some o→h3.get? b=some o)→∀ Q:SortKind→Shared→Prop,Q kd { s with heap:=h3 }→wpAny (model prog w) A (keyKind' vs.toArray) Q E { s with heap:=h3 })
  (hc:∀ h3:Heap,(∀ b o,b≠a→s.heap.get? b=some o→h3.get? b=some o)→∀ x∈vs,∀ y∈vs,∀ Q:Bool→Shared→Prop,∀ E':Value→Shared→Prop,Q (lexLt (kf x) (kf y)) { s with heap:=h3 }→wpAny (model prog w) A (keyLt' kd x y) Q E' { s with heap:=h3 })
  (K:∀ (vs':List Value) (h':Heap) (c tk:Nat),vs'.Perm vs→(vs'.Pairwise fun x y=>lexLt (kf y) (kf x)=false)→h'.get? a=some (seqObj "list" vs'.toArray c)→(∀ b o,b≠a→s.heap.get? b=some o→h'.get? b=some o)→P (.done (.ret .none)) { s with heap:=h',toks:=tk }) :
  wpAny (model prog w) A (Builtin.«list.sort» ⟨[.ref a],[]⟩) P E s:=by
 obtain ⟨e1,ho1⟩:∃ e1,(s.heap.update a (Obj.mapSeq fun _=>(#[]:Array Value))).get? a=some (seqObj "list" #[] e1):=⟨_,get?_update_seq ho fun _=>#[]⟩
 have kp:∀ b o,b≠a→s.heap.get? b=some o→(((s.heap.update a (Obj.mapSeq fun _=>(#[]:Array Value))).push (seqObj "tuple" vs.toArray 0)).push (seqObj "list" #[] 0)).get? b=some o:=fun b o hb e =>
  Γc _ (Γc _ ((Γf _ _ (Ne.symm hb)).trans e))
 have ho2:(((s.heap.update a (Obj.mapSeq fun _=>(#[]:Array Value))).push (seqObj "tuple" vs.toArray 0)).push (seqObj "list" #[] 0)).get? a=some (seqObj "list" #[] e1):=Γc _ (Γc _ ho1)
 rw [list_sort_plain]
 refine Γa (listItems_at ho rfl ?_)
 refine Γa (listUpdate_at ho rfl ?_ (by rw [List.size_toArray,sizeLine_eq]; lia) (Nat.zero_le _))
 refine Γa (seqEpoch_at ho1 rfl ?_)
 refine Γa (wpAny_newTuple ?_ (by show vs.length≤_; rw [sizeLine_eq]; lia))
 refine Γa (wpAny_newList ?_ (Nat.zero_le _))
 refine Γg ?_
 show wpAny (model prog w) A _ P E { s with heap:=((s.heap.update a (Obj.mapSeq fun _=>(#[]:Array Value))).push (seqObj "tuple" vs.toArray 0)).push (seqObj "list" #[] 0) }
 dsimp only
 generalize ((s.heap.update a (Obj.mapSeq fun _=>(#[]:Array Value))).push (seqObj "tuple" vs.toArray 0)).push (seqObj "list" #[] 0)=h3 at kp ho2
 -- what comes behind the sorting
 have fin:∀ b:Array Keyed,b.Perm (pairsOf vs)→Srt (fun p q=>lexLt (kf p.1) (kf q.1)) b 0 b.size→∀ st:SortSt,arrOf st=b→failedOf st=none→wpAny (model prog w) A (do
   let touched:=(← seqEpoch a) != e1
   Builtin.List.listUpdate (.ref a) fun _=>(arrOf st).map (·.2)
   if let some e:=failedOf st then rule "list.sort.comparison-raised"; throw e
   if touched then rule "list.sort.modified"; raiseError "ValueError" "list modified during sort"
   ret .none) P E { s with heap:=h3 }:=by
  intro b hp hs st hst hf
  have hpl:b.toList.Perm (vs.zip vs):=by rw [← pairsOf_toList]; exact Array.perm_iff_toList_perm.mp hp
  have hself:∀ p∈b.toList,p.1=p.2∧p.1∈vs:=fun p hp=>mem_zip_self (hpl.mem_iff.mp hp)
  have hperm:((b.map (·.2)).toList).Perm vs:=by
   rw [Array.toList_map]
   have:=hpl.map (·.2)
   rwa [show (vs.zip vs).map (·.2)=vs by rw [List.map_snd_zip (Γi _)]] at this
  have hord:(b.map (·.2)).toList.Pairwise fun x y=>lexLt (kf y) (kf x)=false:=by
   rw [Array.toList_map,List.pairwise_map]
   have h1:=(c5z (lt:=fun p q=>lexLt (kf p.1) (kf q.1)) (fun u=>a9t _) (Γi _)).mp hs
   rw [List.drop_zero,List.take_of_length_le (by simp)] at h1
   refine List.Pairwise.imp_of_mem (fun {x y} hx hy h=>?_) h1
   rw [← (hself x hx).1,← (hself y hy).1]; exact h
  have hsz:(b.map (·.2)).size=vs.length:=by rw [← Array.length_toList]; exact hperm.length_eq
  obtain ⟨c2,hc2⟩:∃ c2,(h3.update a (Obj.mapSeq fun _=>b.map (·.2))).get? a=some (seqObj "list" (b.map (·.2)) c2):=⟨_,get?_update_seq ho2 fun _=>b.map (·.2)⟩
  refine Γa (seqEpoch_at ho2 rfl ?_)
  rw [hst]
  refine Γa (listUpdate_at ho2 rfl ?_ (Nat.zero_le _) (Nat.le_trans (Nat.le_of_eq hsz) (by rw [sizeLine_eq]; lia)))
  rw [hf]
  simp only [bne_self_eq_false,Γp,if_false]
  exact Γb (K (b.map (·.2)).toList _ c2 _ hperm hord (by rw [Array.toArray_toList]; exact hc2) fun b' o hb' e=>(Γf _ _ (Ne.symm hb')).trans (kp b' o hb' e))
 by_cases h2:vs.toArray.size < 2
 ·rw [if_pos h2,if_pos h2]
  refine Γa (Γb ?_)
  rw [StateT.run_pure]
  refine Γa (Γb ?_)
  refine fin (pairsOf vs) (Array.Perm.refl _) (fun i j i1 i2 i3=>?_) _ rfl rfl
  rw [pairsOf_size] at i3
  have:vs.length < 2:=by simpa using h2
  have:i=j:=by lia
  subst this; exact a9t _
 ·rw [if_neg h2,if_neg h2]
  have h2':2≤vs.length:=by simpa using h2
  refine Γa (hk h2' h3 kp _ ?_)
  refine Γa (wpAny_mono (RT _ _ _ E _ _ _ _ (d3c (E:=E) (hc h3 kp)) (pairsOf vs) 7 (fun _ st'=>∃ b,b.Perm (pairsOf vs)∧Srt (fun p q=>lexLt (kf p.1) (kf q.1)) b 0 (pairsOf vs).size∧arrOf st'=b∧failedOf st'=none)
   (fun p hp=>by rw [pairsOf_toList] at hp; exact (mem_zip_self hp).2) (by rw [pairsOf_size]; exact h2') (by rw [pairsOf_size]; exact hb) fun b p g' q1 q2=>⟨b,q1,q2,rfl,rfl⟩) ?_ fun _ _ e=>e)
  rintro ⟨⟨⟩,st'⟩ s' ⟨rfl,b,q1,q2,q3,q4⟩
  rw [← q1.size_eq] at q2
  exact fin b q1 q2 st' q3 q4
noncomputable def SqH (h:Heap) (l:Addr) (vs:Array Value):Prop:=∃ (o:Obj) (T:String) (n:Nat),h.get? l=some o∧(T = "list" ∨ T = "tuple")∧o.cls=.type T∧o.data=.seq vs n
theorem b6c {l:Addr} {us:List Value} {Q:List Value→Shared→Prop} (hl:SqH s.heap l us.toArray)
  (h:Q us { s with heap:=(s.heap.push (seqObj "list" #[] 0)).update s.heap.objs.size (Obj.mapSeq (·++us.toArray)) }) (hsz:us.length≤sizeLine) :
  wpAny (model prog w) A (collect (.ref l)) Q E s:=by
 obtain ⟨o,T,n,ho,hT,hc,hd⟩:=hl
 unfold collect
 refine Γa (wpAny_runValue (codeAny_builtin F.entry_proto_collect ?_))
 rw [Around.under_plainId F.plain_proto_collect _]
 show wpAny _ A.in1 (newList [] >>= fun l'=>again (.builtin "list.__iadd__" ⟨[l',.ref l],[]⟩)) _ _ s
 refine Γa (wpAny_newObj_type (Γb ⟨plainId_quiet F.plain_list_iadd _,codeAny_builtin F.entry_list_iadd ?_⟩))
 rw [Around.under_plainId F.plain_list_iadd _]
 show wpAny _ A.in1 (Builtin.List.listExtendWith (.ref s.heap.objs.size) (.ref l) (.ref s.heap.objs.size)) _ _ { s with heap:=s.heap.push (seqObj "list" #[] 0) }
 have hS:(s.heap.push (seqObj "list" #[] 0)).get? s.heap.objs.size=some (seqObj "list" #[] 0):=Γm _ rfl
 have last:wpAny (model prog w) A (do
   let o ← load s.heap.objs.size
   match o.data with
   | .seq xs _=>pure xs.toList
   | _=>unsupported "internal:collect") Q E { s with heap:=(s.heap.push (seqObj "list" #[] 0)).update s.heap.objs.size (Obj.mapSeq (·++us.toArray)) }:=by
  refine Γa (wpAny_load (Heap.get?_update_self (Obj.mapSeq (·++us.toArray)) hS rfl) ?_)
  show wpAny _ _ (pure ((#[]:Array Value)++us.toArray).toList) Q E _
  rw [show ((#[]:Array Value)++us.toArray).toList=us by simp]
  exact Γb h
 refine wpAny_mono (wpAny_extend_seq (hsz:=by simpa using hsz) (A:=A) (R:=fun r s'=>r=.ok (.ret (.ref s.heap.objs.size))∧s' = { s with heap:=(s.heap.push (seqObj "list" #[] 0)).update s.heap.objs.size (Obj.mapSeq (·++us.toArray)) }) (s:={ s with heap:=s.heap.push (seqObj "list" #[] 0) }) _ l _ 0 hT hS (Γc _ ho) hc hd ⟨rfl,rfl⟩) (fun r s' q=>?_) (fun e s' q=>absurd q.1 (by simp))
 cases r with
 | done f =>
  obtain ⟨e,rfl⟩:=q
  cases e
  exact last
 | again c'=>exact ⟨q.1,codeAny_mono q.2 fun r s'' hr=>by obtain ⟨rfl,rfl⟩:=hr; exact last⟩
theorem b5i {m:Nat} (RT:a5d m) (hm:m≤100000) {l:Addr} {Q:Value→Shared→Prop} (hl:SqH s.heap l vs.toArray) (hb:vs.length≤m)
  (hk:∀ A':Around,2≤vs.length→∀ h3:Heap,(∀ b o,s.heap.get? b=some o→h3.get? b=some o)→∀ Q:SortKind→Shared→Prop,Q kd { s with heap:=h3 }→wpAny (model prog w) A' (keyKind' vs.toArray) Q E { s with heap:=h3 })
  (hc:∀ A':Around,∀ h3:Heap,(∀ b o,s.heap.get? b=some o→h3.get? b=some o)→∀ x∈vs,∀ y∈vs,∀ Q:Bool→Shared→Prop,∀ E':Value→Shared→Prop,Q (lexLt (kf x) (kf y)) { s with heap:=h3 }→wpAny (model prog w) A' (keyLt' kd x y) Q E' { s with heap:=h3 })
  (K:∀ (D:Addr) (vs':List Value) (h':Heap) (c tk:Nat),vs'.Perm vs→(vs'.Pairwise fun x y=>lexLt (kf y) (kf x)=false)→s.heap.objs.size≤D→h'.get? D=some (seqObj "list" vs'.toArray c)→(∀ b o,s.heap.get? b=some o→h'.get? b=some o)→Q (.ref D) { s with heap:=h',toks:=tk }) :
  wpAny (model prog w) A (call (.builtin "sorted") [.ref l]) Q E s:=by
 refine Calls.call_function_entry kind_sorted plain_sorted entry_sorted (args_sorted1 _) ?_
 unfold Builtin.«sorted»
 refine Γa (m:=checkCount "sorted" 1 1 _) (Γb ?_)
 refine Γa (b6c hl ?_ (by rw [sizeLine_eq]; lia))
 refine Γa (wpAny_newList ?_ (by rw [sizeLine_eq]; lia))
 have hsz:((s.heap.push (seqObj "list" #[] 0)).update s.heap.objs.size (Obj.mapSeq (·++vs.toArray))).objs.size=s.heap.objs.size + 1:=by
  rw [Heap.size_update,size_push']
 have hoL:(((s.heap.push (seqObj "list" #[] 0)).update s.heap.objs.size (Obj.mapSeq (·++vs.toArray))).push (seqObj "list" vs.toArray 0)).get? (s.heap.objs.size + 1)=some (seqObj "list" vs.toArray 0):=by
  rw [← hsz]; exact Γm _ rfl
 have keep:∀ b o,s.heap.get? b=some o→(((s.heap.push (seqObj "list" #[] 0)).update s.heap.objs.size (Obj.mapSeq (·++vs.toArray))).push (seqObj "list" vs.toArray 0)).get? b=some o:=fun b o q=>by
  have hlt:b < s.heap.objs.size:=Γl q
  rw [Heap.get?_push_ne _ _ _ (by rw [hsz]; exact Γo (Nat.lt_succ_of_lt hlt)),Heap.get?_update_ne _ _ _ _ (Γo hlt),Heap.get?_push_ne _ _ _ (Γo hlt)]
  exact q
 have old:∀ b o,s.heap.get? b=some o→b≠s.heap.objs.size + 1:=fun b o e=>Γo (Nat.lt_succ_of_lt (Γl e))
 show wpAny _ _ _ _ _ { s with heap:=((s.heap.push (seqObj "list" #[] 0)).update s.heap.objs.size (Obj.mapSeq (·++vs.toArray))).push (seqObj "list" vs.toArray 0) }
 rw [hsz]
 refine Γa (Γg (wpAny_call_entry slot_list_sort ⟨_,hoL,rfl⟩ entry_list_sort (d1s RT hm (kd:=kd) (kf:=kf) hoL hb (fun h2 h3 kp=>hk _ h2 h3 fun b o e=>kp b o (old b o e) (keep b o e)) (fun h3 kp=>hc _ h3 fun b o e=>kp b o (old b o e) (keep b o e)) fun vs' h' c tk a1 a2 a3 a4=>⟨_,rfl,?_⟩) (args_list_sort _)))
 exact Γb ⟨_,rfl,K _ vs' h' c tk a1 a2 (Nat.le_succ _) a3 fun b o e=>a4 b o (old b o e) (keep b o e)⟩
end
noncomputable def a3z (h:Heap):Value→List Int
 | .ref a=>match h.get? a with
  | some o=>match o.data with
   | .seq us _=>us.toList.map numOf
   | _=>[]
  | none=>[]
 | _=>[]
theorem b0p:∀ {ks:List Int} {us:List Value},Vals (ks.map V.int) us→us.map numOf=ks
 | [],us,h=>by cases h; rfl
 | k :: ks,us,h=>by
  cases h with
  | @cons _ u _ us' r1 h =>
  obtain ⟨t,rfl⟩:=r1
  rw [List.map_cons,b0p h]; rfl
noncomputable def c5b (fin:Bool):List Int→List Int→Bool
 | [],_=>fin
 | _ :: _,[]=>fin
 | k :: ks,j :: js=>if k=j then c5b fin ks js else decide (k < j)
theorem b8r:∀ (ks js:List Int),c5b (decide (ks.length < js.length)) ks js=lexLt ks js
 | [],[]=>by simp [c5b,lexLt]
 | [],j :: js=>by simp [c5b,lexLt]
 | k :: ks,[]=>by simp [c5b,lexLt]
 | k :: ks,j :: js=>by
  rw [c5b,lexLt]
  have:=b8r ks js
  simp only [List.length_cons,Nat.add_lt_add_iff_right]
  rw [this]
section
variable {prog:Program} {w:World} {A:Around} {E:Value→Shared→Prop} {s:Shared} {vs:List Value}
theorem c4z {b fin:Bool} {Q:Bool→Shared→Prop}:∀ (ks js:List Int) (us ws:List Value) (i:Nat),Vals (ks.map V.int) us→Vals (js.map V.int) ws→Q (c5b fin ks js) s→KatLex prog w A b fin Q (us.zip ws) i s
 | [],js,us,ws,i,h1,h2,q=>by
  cases h1
  rw [List.zip_nil_left]
  exact q
 | k :: ks,[],us,ws,i,h1,h2,q=>by
  cases h2
  rw [List.zip_nil_right]
  exact q
 | k :: ks,j :: js,us,ws,i,h1,h2,q=>by
  cases h1 with
  | @cons _ u _ us' r1 h1 =>
  cases h2 with
  | @cons _ x _ ws' r2 h2 =>
  obtain ⟨t1,rfl⟩:=r1
  obtain ⟨t2,rfl⟩:=r2
  rw [List.zip_cons_cons]
  rw [c5b] at q
  refine kat_cons (wpAny_eqBool_int (kat_go (fun e=>kat_yes (c4z ks js us' ws' (i + 1) h1 h2 ?_)) fun e=>kat_no ?_))
  ·have e:k=j:=by simpa using e
   rwa [if_pos e] at q
  ·have e:k≠j:=by simpa using e
   rw [if_neg e] at q
   cases b && i == 0
   ·exact kat_one _ _ (PyProof.Rows.lt_int q)
   ·exact oneLt_int q
noncomputable def NumTup (h:Heap) (v:Value) (ks:List Int):Prop:=∃ (a:Addr) (o:Obj) (us:List Value) (n:Nat),v=.ref a∧h.get? a=some o∧o.cls=.type "tuple"∧o.data=.seq us.toArray n∧Vals (ks.map V.int) us∧ks≠[]
theorem NumTup.keep {h h':Heap} {v:Value} {ks:List Int} (x:NumTup h v ks) (k:∀ b o,h.get? b=some o→h'.get? b=some o):NumTup h' v ks:=by
 obtain ⟨a,o,us,n,e,h1,h2⟩:=x
 exact ⟨a,o,us,n,e,k _ _ h1,h2⟩
theorem NumTup.nums {h:Heap} {v:Value} {ks:List Int} (x:NumTup h v ks):a3z h v=ks:=by
 obtain ⟨a,o,us,n,rfl,h1,h2,h3,h4,_⟩:=x
 simp only [a3z,h1,h3]
 exact b0p h4
theorem NumTup.it {h:Heap} {v:Value} {ks:List Int} (x:NumTup h v ks):IntTup h v:=by
 obtain ⟨a,o,us,n,rfl,h1,h2,h3,h4,h5⟩:=x
 cases ks with
 | nil=>exact absurd rfl h5
 | cons k ks=>exact ⟨a,o,us,n,k,ks,rfl,h1,h2,h3,h4⟩
theorem d1q {b:Bool} {x y:Value} {ks js:List Int} {Q:Bool→Shared→Prop} (hx:NumTup s.heap x ks) (hy:NumTup s.heap y js) (q:Q (lexLt ks js) s):wpAny (model prog w) A (keyLt' (tuples' b) x y) Q E s:=by
 obtain ⟨a,o,us,n,rfl,h1,h2,h3,h4,_⟩:=hx
 obtain ⟨a',o',us',n',rfl,g1,g2,g3,g4,_⟩:=hy
 refine kat_lt h1 h3 g1 g3 (c4z ks js _ _ 0 h4 g4 ?_)
 have e1:ks.length=us.length:=by have:=h4.length; simpa using this
 have e2:js.length=us'.length:=by have:=g4.length; simpa using this
 rw [List.size_toArray,List.size_toArray,← e1,← e2,b8r]; exact q
theorem b2k {m:Nat} (RT:a5d m) (hm:m≤100000) {l:Addr} {Q:Value→Shared→Prop} (hl:SqH s.heap l vs.toArray) (hb:vs.length≤m) (ht:∀ v∈vs,∃ ks,NumTup s.heap v ks)
  (K:∀ (D:Addr) (vs':List Value) (h':Heap) (c tk:Nat),vs'.Perm vs→(vs'.Pairwise fun x y=>lexLt (a3z s.heap y) (a3z s.heap x)=false)→s.heap.objs.size≤D→h'.get? D=some (seqObj "list" vs'.toArray c)→(∀ b o,s.heap.get? b=some o→h'.get? b=some o)→Q (.ref D) { s with heap:=h',toks:=tk }) :
  wpAny (model prog w) A (call (.builtin "sorted") [.ref l]) Q E s:=by
 refine b5i RT hm (kd:=tuples' true) (kf:=a3z s.heap) hl hb (fun A' h2 h3 kp Q q=>?_) (fun A' h3 kp x hx y hy Q E' q=>?_) K
 ·obtain ⟨fs,t1,t2,t3⟩:=a9w (h:=h3) (vs:=vs) fun v hv=>by
   obtain ⟨ks,hk⟩:=ht v hv
   exact (hk.keep kp).it
  refine kat_kind (T:=.type "int") t1 (by lia) (fun v hv=>?_) (by decide) q
  obtain ⟨k,t,rfl⟩:=t3 v hv
  exact .now
 ·obtain ⟨ks,hk⟩:=ht x hx
  obtain ⟨js,hj⟩:=ht y hy
  rw [hk.nums,hj.nums] at q
  exact d1q (hk.keep kp) (hj.keep kp) q
end
noncomputable def vNum:V→Int
 | .int i=>i
 | _=>0
noncomputable def c4d (H:Hp):V→List Int
 | .ref b=>match H b with
  | some (.tup xs)=>xs.map vNum
  | _=>[]
 | _=>[]
noncomputable def c8g:FV→List Int
 | .tup ps=>(a0o ps).getD []
 | _=>[]
theorem a8v:∀ ks:List Int,(ks.map V.int).map vNum=ks
 | []=>rfl
 | k :: ks=>by rw [List.map_cons,List.map_cons,a8v ks]; rfl
noncomputable def b1r (m:Nat) (a:EW):EW:=fun L Q=>a L fun v L1=>wp (a3v v) fun xs=>a2q xs=true∧xs.length≤m∧∀ ys:List FV,ys.Perm xs→(ys.Pairwise fun x y=>lexLt (c8g y) (c8g x)=false)→Q (.lst ys) L1
@[scoped simp ↓] theorem d2r (m:Nat) (a:EW) (L:a0d) (Q:FV→a0d→Prop):b1r m a L Q=(a L fun v L1=>wp (a3v v) fun xs=>a2q xs=true∧xs.length≤m∧∀ ys:List FV,ys.Perm xs→(ys.Pairwise fun x y=>lexLt (c8g y) (c8g x)=false)→Q (.lst ys) L1):=propext Iff.rfl
section
variable {K:Γd} {S:Hp}
theorem a8w:∀ {xs:List FV} {ys:List V},a2q xs=true→RVs K S xs ys→(∀ y∈ys,∃ (b:Addr) (ks:List Int),y=.ref b∧ks≠[]∧S b=some (.tup (ks.map V.int)))∧ys.map (c4d S)=xs.map c8g
 | [],ys,_,h=>by cases (show ys=[] from h); simp
 | x :: xs,ys,t,⟨v,r,e,h1,h2⟩=>by
  subst e
  cases x with
  | tup ps =>
   have t:((match a0o ps with | some (_ :: _)=>true | _=>false) && a2q xs)=true:=t
   obtain ⟨t1,t2⟩:=Bool.and_eq_true_iff.mp t
   obtain ⟨i1,i2⟩:=a8w t2 h2
   cases e:a0o ps with
   | none=>rw [e] at t1; cases t1
   | some ns =>
    cases ns with
    | nil=>rw [e] at t1; cases t1
    | cons k ks =>
     obtain ⟨a,us,rfl,g1,g2⟩:=h1
     cases a1y g2 e
     refine ⟨fun y hy=>?_,?_⟩
     ·rcases List.mem_cons.mp hy with rfl | hy
      ·exact ⟨a,k :: ks,rfl,by simp,g1⟩
      ·exact i1 y hy
     ·rw [List.map_cons,List.map_cons,i2]
      congr 1
      simp only [c4d,g1,c8g,e,Option.getD_some]
      exact a8v _
  | _=>cases t
end
section
variable {X:Cx}
noncomputable def c9y (X:Cx) (m:Nat):List V→Hp→VK→Prop:=fun xs H Q=>∃ (a:Addr) (ys:List V),xs=[.ref a]∧(SqL X.K H a ys ∨ SqT X.K H a ys)∧ys.length≤m∧(∀ y∈ys,∃ (b:Addr) (ks:List Int),y=.ref b∧ks≠[]∧H b=some (.tup (ks.map V.int)))∧∀ p zs,H p=none→zs.Perm ys→(zs.Pairwise fun x y=>lexLt (c4d H y) (c4d H x)=false)→Q (.ref p) (upd H p (.lst zs))
theorem Vals.keyed {H:Hp} {h:Heap} (hk:∀ (b:Addr) (ks:List Int),H b=some (.tup (ks.map V.int))→ks≠[]→NumTup h (.ref b) ks):∀ {zs:List V} {us:List Value},Vals zs us→(∀ z∈zs,∃ (b:Addr) (ks:List Int),z=.ref b∧ks≠[]∧H b=some (.tup (ks.map V.int)))→us.map (a3z h)=zs.map (c4d H)
 | [],us,r,_=>by cases r; rfl
 | z :: zs,us,r,hz=>by
  cases r with
  | @cons _ u _ us' r1 r =>
  obtain ⟨b,ks,rfl,h1,h2⟩:=hz z (by simp)
  cases (show u=Value.ref b from r1)
  rw [List.map_cons,List.map_cons,Vals.keyed hk r fun y hy=>hz y (Γh _ hy),(hk b ks h2 h1).nums]
  simp only [c4d,h2,a8v]
theorem b3z {α β γ:Type} {R:γ→γ→Prop} {f:α→γ} {g:β→γ} {xs:List α} {ys:List β} (e:xs.map f=ys.map g) (h:xs.Pairwise fun x y=>R (f y) (f x)):ys.Pairwise fun x y=>R (g y) (g x):=by
 have h1:=List.pairwise_map (f:=f) (R:=fun x y=>R y x) |>.mpr h
 rw [e] at h1
 exact List.pairwise_map.mp h1
theorem c8s {m:Nat} (RT:a5d m) (hm:m≤100000):a1n X (.builtin "sorted") (c9y X m):=by
 rintro pins s σ H xs us Q I r ⟨a,ys,rfl,hl,hb,ht,k⟩
 obtain ⟨u,rfl,ru⟩:=a3t r
 cases (show u=Value.ref a from ru)
 obtain ⟨its,rv,pl,hz⟩:∃ its:List Value,Vals ys its∧SqH s.heap a its.toArray∧ys.length≤sizeLine:=by
  rcases hl with hl | hl
  ·obtain ⟨its,rv,pl,hz⟩:=I.list hl
   obtain ⟨o,ho,hc,n,hd⟩:=pl.isList
   exact ⟨its,rv,⟨o,_,n,ho,.inl rfl,hc,hd⟩,hz⟩
  ·obtain ⟨its,rv,⟨o,ho,hc,n,hd⟩,hz⟩:=I.tuple hl
   exact ⟨its,rv,⟨o,_,n,ho,.inr rfl,hc,hd⟩,hz⟩
 have ll:ys.length=its.length:=rv.length
 have nt:∀ (b:Addr) (ks:List Int),H b=some (.tup (ks.map V.int))→ks≠[]→NumTup s.heap (.ref b) ks:=by
  intro b ks hb hn
  obtain ⟨_,jts,rr,o,e1,e2,n,e3⟩:=(show ObjOk X.prog X.w H s.heap b (.tup (ks.map V.int)) from I.hok b _ hb)
  exact ⟨b,o,jts,n,rfl,e1,e2,e3,rr,hn⟩
 have tv:∀ v∈its,∃ ks,NumTup s.heap v ks:=by
  intro v hv
  obtain ⟨i,hi⟩:=List.mem_iff_getElem?.mp hv
  have hil:i < ys.length:=by rw [ll]; exact (List.getElem?_eq_some_iff.mp hi).1
  obtain ⟨u,e,ru⟩:=rv.get (i:=i) (x:=ys[i]) (by simp [hil])
  rw [hi] at e; cases e
  obtain ⟨b,ks,e,hn,hb⟩:=ht _ (List.getElem_mem hil)
  rw [e] at ru
  cases (show v=Value.ref b from ru)
  exact ⟨ks,nt b ks hb hn⟩
 refine b2k RT hm pl (by lia) tv fun D vs' h' c tk p1 po p2 p3 p4=>?_
 obtain ⟨zs,e,g⟩:=Vals.perm p1 rv
 have hn:H D=none:=I.hok.fresh p2
 have hkey:=Vals.keyed nt g fun z hz=>ht z (e.mem_iff.mp hz)
 refine ⟨.ref D,_,I.laid (a:=D) (o:=.lst zs) (t':=tk) p4 p2 ⟨by rw [e.length_eq]; exact hz,vs',c,g,p3⟩,rfl,k D zs hn e ?_⟩
 exact b3z (R:=fun u v=>lexLt u v=false) hkey po
end
section
variable {X:Cx} {C:CC} {n:Nat} {sp:Γd→Nat→Sp} {a:Expr} {ea:EW} {pos p:Pos}
theorem c1t {m:Nat} (RT:a5d m) (hm:m≤100000) (G:Good X C n sp) (hg:C.gl (Γe "sorted")=true) (hs:a0g a=false) (ha:FR X C a ea):FE X C (.Call (.Name (Γe "sorted") p) [a] [] pos) (b1r m ea) :=
 PE.imp (a4n (c8s RT hm) (G.gl hg) (G.blt "sorted" (by decide)) (by nofun) (a0j ha a1s (a0c hs)) (by nofun) (by nofun) (a0c hs) rfl) fun σ H Q ⟨c,L,S,Q0,I,h,k⟩ =>
 ⟨c,L,S,_,I,h,fun v L1 hv x S1 H1 r1 I1 s1=>by
  obtain ⟨xs,e1,t1,t2,q⟩:=wpx hv
  obtain ⟨a,ys,rfl,hq,ry⟩:=r1.seq I1.sub e1
  have hl:=ry.length
  obtain ⟨i1,i2⟩:=a8w t1 ry
  have hq2:SqL X.K H1 a ys ∨ SqT X.K H1 a ys:=by
   revert hq
   cases isL v with
   | true=>exact .inl
   | false=>exact .inr
  refine ⟨a,ys,rfl,hq2,by lia,fun y hy=>?_,fun p zs hp hz ho=>?_⟩
  ·obtain ⟨b,ks,e,hn,hb⟩:=i1 y hy
   exact ⟨b,ks,e,hn,I1.sub _ _ hb⟩
  ·obtain ⟨qs,e,g⟩:=RVs.perm hz ry
   have tq:a2q qs=true:=by
    have mem:∀ (l:List FV),a2q l=true↔∀ x∈l,a2q [x]=true:=by
     intro l
     induction l with
     | nil=>simp [a2q]
     | cons x r ih =>
      cases x with
      | tup ps=>simp only [a2q,Bool.and_eq_true,ih,List.forall_mem_cons,and_true]
      | _=>simp [a2q]
    exact (mem qs).mpr fun x hx=>(mem xs).mp t1 x (e.mem_iff.mp hx)
   obtain ⟨j1,j2⟩:=a8w tq g
   have hkk:zs.map (c4d H1)=qs.map c8g:=by
    rw [← j2]
    apply List.map_congr_left
    intro z hz'
    obtain ⟨b,ks,rfl,hn,hb⟩:=j1 z hz'
    simp only [c4d,hb,I1.sub _ _ hb]
   refine k _ L1 (q qs e (b3z (R:=fun u v=>lexLt u v=false) hkk ho)) _ _ _ ⟨p,zs,rfl,a0f,g.mono (a0h (I1.sn hp))⟩ (I1.new hp _) (s1.trans (a0h (I1.sn hp)))⟩
theorem d4f (G:Good X C n sp) (hg:C.gl (Γe "sorted")=true) (hs:a0g a=false) (ha:FR X C a ea):FE X C (.Call (.Name (Γe "sorted") p) [a] [] pos) (b1r 63 ea):=c1t c4m (by decide) G hg hs ha
end
noncomputable def EntAt (h:Heap) (d:Addr) (es:Array DictEntry) (ep:Nat):Prop:=∃ o,h.get? d=some o∧o.ExactDict∧o.data=.dict es ep
section
variable {prog:Program} {w:World} {A:Around} {E:Value→Shared→Prop} {s:Shared} {it d:Addr} {i n ep:Nat} {es:Array DictEntry}
theorem EntAt.ty (x:EntAt s.heap d es ep):s.TypeIs (.ref d) "dict":=by
 obtain ⟨o,ho,hc,_⟩:=x
 exact ⟨o,ho,hc.1⟩
theorem EntAt.keep {h h':Heap} (x:EntAt h d es ep) (k:∀ o,h.get? d=some o→h'.get? d=some o):EntAt h' d es ep:=by
 obtain ⟨o,ho,r⟩:=x
 exact ⟨o,k o ho,r⟩
theorem EntAt.lt {h:Heap} (x:EntAt h d es ep):d < h.objs.size:=by
 obtain ⟨o,ho,_⟩:=x
 exact Γl ho
theorem b4o {Q:Value→Shared→Prop} (hd:(d == sysModules)=false) (hm:EntAt s.heap d es ep)
  (q:Q (.ref s.heap.objs.size) { s with heap:=s.heap.push { cls:=.type "dict_keyiterator",data:=.fields #[.ref d,.int 0 0,.int es.size 0,.int ep 0] } }):wpAny (model prog w) A (pyIter (.ref d)) Q E s:=by
 have hT:=hm.ty
 obtain ⟨o,ho,hc,hdat⟩:=hm
 refine wpAny_pyIter_slot hT F.slot_dict_iter (wpAny_call_entry F.slot_dict_iter hT F.entry_dict_iter ?_ (F.args_dict_iter_1 _)); unfold Builtin.«dict.__iter__»; refine Γa ?_; unfold Builtin.Dict.dictSlotNone
 refine Γa (wpAny_notOrdered_dict hT ?_); show wpAny _ _ (pure (Value.ref d)) _ _ s; refine Γb ?_; show wpAny _ _ (Builtin.Dict.showsAll d >>= _) _ _ s; unfold Builtin.Dict.showsAll
 rw [if_neg (by rw [hd]; exact Γk)]; refine Γa (Γb (Γa (wpAny_dictEntries ho hdat (Γa (wpAny_dictEpoch ho hdat ?_)))))
 refine Γa (wpAny_newObj_type (Γb ⟨_,rfl,"dict_keyiterator",_,⟨_,Γm _ rfl,rfl⟩,F.slot_dict_keyiterator_next.lookup,?_⟩)); simpa [rawInt] using q
theorem b4d {Q:Option Value→Shared→Prop} (hit:s.heap.IsKeyIter it d i es.size ep) (hm:EntAt s.heap d es ep) (hi:i < es.size)
  (q:∀ h',h'.IsKeyIter it d (i + 1) es.size ep→Heap.SameBut it s.heap h'→Q (some es[i].key) { s with heap:=h' }):wpAny (model prog w) A (pyNext (.ref it)) Q E s:=by
 have hT:=hit.typeIs
 obtain ⟨o,ho,hc,hd⟩:=id hit
 obtain ⟨od,hod,_,hdd⟩:=hm
 have hown:Builtin.Dict_items.ownsTuple "dict_keyiterator" = false:=by decide
 unfold pyNext; refine Γa (wpAny_attempt (wpAny_callSpecial?_slot (name:=Γe "__next__") hT F.slot_dict_keyiterator_next (wpAny_call_entry F.slot_dict_keyiterator_next hT F.entry_dict_keyiterator_next ?_ (F.args_dict_keyiterator_next_1 _))))
 refine Γa (Γb (Γa (Γa ?_))); first | refine Γa (wpAny_typeNameOfWhole_keyiter hT (Γb ?_)) | refine Γa (wpAny_typeNameOf_keyiter hT (Γb ?_))
 refine Γa (wpAny_fieldsOf ho hd ?_); simp only [hown,Γp,if_false]; show wpAny _ _ (if (Value.ref d == Value.none)=true then _ else _) _ _ s; rw [if_neg (show ¬ ((Value.ref d == Value.none)=true) from Γk)]
 refine Γa (Γb (Γa (wpAny_dictEntries hod hdd ?_))); rw [if_neg (by simp)]
 refine Γa (Γb (Γa (wpAny_dictEpoch hod hdd ?_))); rw [if_neg (by simp)]; refine Γb ?_
 simp only [show ¬ ((i:Int) < 0) from by lia,if_false,Int.toNat_natCast,Array.getElem?_eq_getElem hi]; refine Γa ?_
 first | refine Γa (wpAny_typeNameOfWhole_keyiter hT (Γb (Γa (wpAny_isOneOf_keyiter hT ?_)))) | refine Γa (wpAny_typeNameOf_keyiter hT (Γb (Γa (wpAny_isOneOf_keyiter hT ?_))))
 show wpAny _ _ (setField (.ref it) 1 (rawInt ((i:Int) + 1)) >>= _) _ _ s; refine Γa (wpAny_setField ho hd (by simp) ?_)
 have hit':(s.heap.update it (Obj.mapFields (·.setIfInBounds 1 (rawInt ((i:Int) + 1))))).IsKeyIter it d (i + 1) es.size ep:=⟨_,Heap.get?_update_self _ ho (Obj.isFreed_of_fields (Obj.data_mapFields hd _)),(Obj.cls_mapFields ..).trans hc,by rw [Obj.data_mapFields hd]; simp [rawInt]⟩
 refine Γa (Γg (Γa (wpAny_isOneOf_keyiter (s:={ s with heap:=s.heap.update it (Obj.mapFields (·.setIfInBounds 1 (rawInt ((i:Int) + 1)))) }) hit'.typeIs ?_))); show wpAny _ _ (pure es[i].key) _ _ _
 exact Γb (Γb ⟨_,rfl,Γb (q _ hit' (Heap.SameBut.update ..))⟩)
theorem b9v {Q:Option Value→Shared→Prop} (hh:A.handled=none) (hit:s.heap.IsKeyIter it d i es.size ep) (hm:EntAt s.heap d es ep) (hi:es.size≤i)
  (q:∀ h',Heap.ExtBut it s.heap h'→Q none { s with heap:=h' }):wpAny (model prog w) A (pyNext (.ref it)) Q E s:=by
 have hT:=hit.typeIs
 obtain ⟨o,ho,hc,hd⟩:=id hit
 obtain ⟨od,hod,_,hdd⟩:=hm
 have hown:Builtin.Dict_items.ownsTuple "dict_keyiterator" = false:=by decide
 unfold pyNext; refine Γa (wpAny_attempt (wpAny_callSpecial?_slot (name:=Γe "__next__") hT F.slot_dict_keyiterator_next (wpAny_call_entry F.slot_dict_keyiterator_next hT F.entry_dict_keyiterator_next ?_ (F.args_dict_keyiterator_next_1 _))))
 refine Γa (Γb (Γa (Γa ?_))); first | refine Γa (wpAny_typeNameOfWhole_keyiter hT (Γb ?_)) | refine Γa (wpAny_typeNameOf_keyiter hT (Γb ?_))
 refine Γa (wpAny_fieldsOf ho hd ?_); simp only [hown,Γp,if_false]; show wpAny _ _ (if (Value.ref d == Value.none)=true then _ else _) _ _ s; rw [if_neg (show ¬ ((Value.ref d == Value.none)=true) from Γk)]
 refine Γa (Γb (Γa (wpAny_dictEntries hod hdd ?_))); rw [if_neg (by simp)]
 refine Γa (Γb (Γa (wpAny_dictEpoch hod hdd ?_))); rw [if_neg (by simp)]; refine Γb ?_
 simp only [show ¬ ((i:Int) < 0) from by lia,if_false,Int.toNat_natCast,Array.getElem?_eq_none hi]; refine Γa ?_
 first | refine Γa (wpAny_typeNameOfWhole_keyiter hT (Γb ?_)) | refine Γa (wpAny_typeNameOf_keyiter hT (Γb ?_))
 show wpAny _ _ (setField (.ref it) 0 .none >>= _) _ _ s; refine Γa (wpAny_setField ho hd (by simp) ?_); show wpAny _ _ (newExc (.type "StopIteration") [] >>= _) _ _ _; refine Γa ?_; simp only [newExc,newTuple]
 refine Γa (wpAny_newObj_type ?_ (by size_fits)); refine Γa (m:=firstArgMember _ _) (wpAny_of_eq (a:=Value.none) (by first | rfl | (simp only [firstArgMember]; rfl)) ?_); refine wpAny_newObj_type ?_ (by size_fits); simp only [raiseNew]
 refine Γa (wpAny_handled ?_); rw [show A.in1.handled=none from hh]; refine Γa (Γb (wpAny_throw ?_))
 refine Γa (wpAny_isInstance (T:="StopIteration") (b:=true) ⟨_,Γm _ rfl,rfl⟩ isSubtype_stop ?_); exact Γb (q _ (((Heap.SameBut.update ..).extBut.push _).push _))
theorem c1i (hh:A.handled=none) (I:Addr) (hne:d≠I):Walks prog w A I [I,d] [I] es.size (fun i v=>∃ e,es[i]?=some e∧v=e.key) (fun i h=>h.IsKeyIter I d i es.size ep∧EntAt h d es ep) where
 sub:=fun b hb=>by simp at hb; simp [hb]
 frame:=fun i h h' st hk=>⟨st.1.at fun o e=>hk I (by simp) o e,st.2.keep fun o e=>hk d (by simp) o e⟩
 item:=fun i s Q E hi st hQ=>b4d st.1 st.2 hi fun h' hit' hs'=>hQ _ h' s.toks ⟨es[i],by simp [hi],rfl⟩ ⟨hit',st.2.keep fun o e=>hs'.extBut d o hne e⟩ fun b o hb e=>hs'.extBut b o (fun h=>hb (by simp [h])) e
 done:=fun s Q E st hQ=>b9v hh st.1 st.2 (Γi _) fun h' he'=>hQ h' s.toks fun b o hb e=>he' b o (fun h=>hb (by simp [h])) e
 self:=fun i s Q E st hQ=>wpAny_pyIter_keyiter st.1 hQ
theorem c6a (lo:(d == sysModules)=false):KdlSrc prog w "dict" d d es.size (fun i v=>∃ e,es[i]?=some e∧v=e.key) (fun h=>EntAt h d es ep) where
 type:=fun s hm=>EntAt.ty hm
 there:=fun h hm=>⟨hm.lt,hm.lt⟩
 keep:=fun h h' hm hk=>hm.keep fun o e=>hk d (.inl rfl) o e
 notList:=by decide
 notTuple:=by decide
 hint:=fun A E s Q hm hq=>kdl_hint_dict (EntAt.ty hm) hq
 iter:=fun A s hh hm=>⟨_,_,fun E Q hq=>b4o lo hm hq,c1i hh _ (Γo hm.lt),⟨_,Γm _ rfl,rfl,rfl⟩,hm.keep fun o e=>Γc _ e⟩
end
section
variable {X:Cx} {pins:List (Addr×Obj)} {σ:L2.St} {H:Hp} {s:Shared} {a:Addr}
theorem c3a {kvs:List (List (Int ⊕ Str)×V)} {o:Obj} (I:Inv X pins σ H s) (h:H a=some (.dT kvs)) (ho:s.heap.get? a=some o):Inv X pins σ (upd H a (.frz o (.dT kvs))) s:=by
 have ne:∀ {b:Addr} {u:HO},H b=some u→u≠.dT kvs→b≠a:=fun e n z=>by subst z; rw [h] at e; exact n (Option.some.inj e).symm
 have ow:∀ b c,H b=some (.own c)→upd H a (.frz o (.dT kvs)) b=some (.own c):=fun b c e=>by rw [a0e (ne e (fun z=>nomatch z))]; exact e
 have tu:∀ b xs,H b=some (.tup xs)→upd H a (.frz o (.dT kvs)) b=some (.tup xs):=fun b xs e=>by rw [a0e (ne e (fun z=>nomatch z))]; exact e
 refine I.un (t':=s.toks) (h':=s.heap) ⟨fun b o' e _ _ _=>e,fun b o' e _ _ _=>⟨o'.slots,e⟩,fun b o' e n _=>?_,fun b o' e _=>⟨o',e⟩,tu,fun b o' u e=>?_,fun b ps e=>?_⟩ fun b u e=>?_
 ·rw [a0e (fun z=>by subst z; rw [h] at n; cases n)]; exact n
 ·rw [a0e (ne e (fun z=>nomatch z))]; exact e
 ·exact ⟨#[],by rw [a0e (ne e (fun z=>nomatch z)),Array.append_empty]; exact e⟩
 ·by_cases z:b=a
  ·subst z
   rw [a0f] at e; cases e
   exact ⟨ho,(I.hok b _ h).stay (fun _ _ _ q=>q) (fun c e=>ow c b e) tu⟩
  ·rw [a0e z] at e
   exact (I.hok b u e).stay (fun _ _ _ q=>q) (fun c e=>ow c b e) tu
end
noncomputable def Itk (a:Addr) (o:Obj) (kvs:List (List (Int ⊕ Str)×V)):It :=
 ⟨fun i H=>H a=some (.frz o (.dT kvs))∧i < kvs.length,fun i H v H'=>H'=H∧∃ b p,v=.ref b∧kvs[i]?=some p∧H b=some (.tup (p.1.map kV)),fun i H=>H a=some (.frz o (.dT kvs))∧kvs.length≤i⟩
theorem b1q {P:Program} {w:World} {H:Hp} {h:Heap} {a:Addr} {kvs:List (List (Int ⊕ Str)×V)} (x:ObjOk P w H h a (.dT kvs)):∃ o es ep,h.get? a=some o∧o.data=.dict es ep∧EntAt h a es ep∧es.size=kvs.length∧(a == sysModules)=false∧∀ (i:Nat) (hi:i < es.size) p,kvs[i]?=some p→∃ b,es[i].key=.ref b∧H b=some (.tup (p.1.map kV)):=by
 obtain ⟨_,y,xs,r,o,es,ep,h1,h2,h3,h4,_⟩:=x
 have hl:kvs.length=xs.length:=r.length
 have hs:es.size=xs.length:=by rw [← Array.length_toList,h4,List.length_map]
 refine ⟨o,es,ep,h1,h3,⟨o,h1,h2,h3⟩,by lia,y,fun i hi p hp=>?_⟩
 have hx:i < xs.length:=by lia
 have key:∀ {l:List (List (Int ⊕ Str)×V)} {m:List (List (Int ⊕ Str)×Addr×Value)},Paired (fun (p:List (Int ⊕ Str)×V) (q:List (Int ⊕ Str)×Addr×Value)=>p.1=q.1∧H q.2.1=some (.tup (p.1.map kV))∧RelV p.2 q.2.2) l m→∀ (i:Nat) p q,l[i]?=some p→m[i]?=some q→H q.2.1=some (.tup (p.1.map kV)):=by
  intro l m z
  induction z with
  | nil=>intro i p q h; simp at h
  | @cons p0 q0 ps qs hq t ih =>
   intro i p q e1 e2
   cases i with
   | zero=>simp at e1 e2; subst e1; subst e2; exact hq.2.1
   | succ i=>simp at e1 e2; exact ih i p q e1 e2
 refine ⟨xs[i].2.1,?_,key r i p xs[i] hp (by simp [hx])⟩
 have e:es.toList[i]'(by simpa using hi)=entryOfKey (tupleKind (a0t P w)) xs[i]:=by simp only [h4,List.getElem_map]
 rw [← Array.getElem_toList (h:=hi),e]; rfl
theorem b6x {P:Program} {w:World} {K:Γd} {tg:Expr} {o:Obj} {kvs:List (List (Int ⊕ Str)×V)} {es:Array DictEntry} {ep:Nat} (a it:Addr) (hd:o.data=.dict es ep) (hz:es.size=kvs.length):Turn P w K tg (Itk a o kvs) [it] it (fun i h=>h.IsKeyIter it a i es.size ep) where
 mem:=by simp
 obj:=fun i h st b hb=>by
  have e:b=it:=by simpa using hb
  subst e
  obtain ⟨o,e,c,d⟩:=st
  exact ⟨o,e,fun v z=>by rw [d] at z; cases z⟩
 keep:=fun i h h' st k=>st.at fun o e=>k it (by simp) o e
 item:=by
  intro X hP hw hK hc i pins s σ H E I hf st hg
  subst hP hw hK
  obtain ⟨e0,hi⟩:=hg
  obtain ⟨q1,q2⟩:=(show ObjOk X.prog X.w H s.heap a (.frz o (.dT kvs)) from I.hok a _ e0)
  obtain ⟨o',es',ep',f1,f2,f3,f4,f5,f6⟩:=b1q q2
  rw [q1] at f1; cases f1
  rw [hd] at f2; cases f2
  obtain ⟨f0,g1,g2,g3,g4,g5⟩:=hf it (by simp)
  have hi':i < es.size:=by lia
  obtain ⟨b,k1,k2⟩:=f6 i hi' kvs[i] (by simp [hi])
  refine b4d st f3 hi' fun h' st' sb=>?_
  have I1:Inv X pins σ H { s with heap:=h' }:=I.turned (t':=s.toks) (fun b o hb e=>(sb.2 b hb).trans e) f0 g1 g3 g4 g5
  obtain ⟨o2,e,c,d⟩:=id st'
  rw [k1]
  exact ⟨_,rfl,c3g (s:={ s with heap:=h' }) e c d (by decide) ⟨.ref b,H,I1,rfl,⟨rfl,b,kvs[i],rfl,by simp [hi],k2⟩,st',fun b hb=>(hf b hb).1⟩⟩
 done:=by
  intro X hP hw hK hc i pins s σ H E I hf st hg
  subst hP hw hK
  obtain ⟨e0,hi⟩:=hg
  obtain ⟨q1,q2⟩:=(show ObjOk X.prog X.w H s.heap a (.frz o (.dT kvs)) from I.hok a _ e0)
  obtain ⟨o',es',ep',f1,f2,f3,f4,f5,f6⟩:=b1q q2
  rw [q1] at f1; cases f1
  rw [hd] at f2; cases f2
  obtain ⟨f0,g1,g2,g3,g4,g5⟩:=hf it (by simp)
  exact b9v (I.ok.hd hc) st f3 (by lia) fun h' eb=>⟨rfl,I.turned (t':=s.toks) (fun b o hb e=>eb b o hb e) f0 g1 g3 g4 g5⟩
 self:=fun _ _ _ _ _ st h=>wpAny_pyIter_keyiter st h
theorem c6u {X:Cx} {tg it:Expr} {te:TE} (h:PE X it te):PI X tg it (fun σ H R=>te σ H fun v H1=>∃ a kvs,v=.ref a∧((H1 a=some (.dT kvs)∧∀ o,R (Itk a o kvs) (upd H1 a (.frz o (.dT kvs)))) ∨ ∃ o,H1 a=some (.frz o (.dT kvs))∧R (Itk a o kvs) H1)):=by
 intro pins s σ H R I hh
 refine thn (h pins s σ H _ I hh) fun v s1 ⟨x,H1,I1,r1,a,kvs,e,q⟩=>?_
 subst e
 cases r1
 have one:∀ (o:Obj) (H2:Hp),Inv X pins σ H2 s1→H2 a=some (.frz o (.dT kvs))→R (Itk a o kvs) H2→wpAny (model X.prog X.w) X.A (pyIter (.ref a)) (PIE X pins σ tg R) X.xe s1:=by
  intro o H2 I2 e2 q
  obtain ⟨q1,q2⟩:=(show ObjOk X.prog X.w H2 s1.heap a (.frz o (.dT kvs)) from I2.hok a _ e2)
  obtain ⟨o',es,ep,f1,f2,f3,f4,f5,f6⟩:=b1q q2
  rw [q1] at f1; cases f1
  refine b4o f5 f3 ?_
  refine ⟨s1.heap.objs.size,[s1.heap.objs.size],_,_,H2,rfl,I2.kept (t':=s1.toks) fun b o e=>Γc _ e,b6x a _ f2 f4,⟨_,Γm _ rfl,rfl,rfl⟩,fun b hb=>?_,q⟩
  have e:b=s1.heap.objs.size:=by simpa using hb
  subst e
  exact I2.fpOk (Γi _) (I2.hok.fresh (Γi _))
 rcases q with ⟨e1,q⟩ | ⟨o,e1,q⟩
 ·obtain ⟨o,es,ep,f1,f2,_⟩:=b1q (show ObjOk X.prog X.w H1 s1.heap a (.dT kvs) from I1.hok a _ e1)
  exact one o _ (c3a I1 e1 f1) a0f (q o)
 ·exact one o H1 I1 e1 q
noncomputable def c1d (k:List Int):FV:=.tup (k.map .int)
noncomputable def b4p (j:Nat):AW:=fun L Q=>wp (lk L j) fun v=>match v with
 | .dct ks vs=>∀ o,Q (ks.map c1d) (L.set j (some (.dcz o ks vs)))
 | .dcz _ ks _=>Q (ks.map c1d) L
 | _=>False
@[scoped simp ↓] theorem d2i (j:Nat) (L:a0d) (Q:List FV→a0d→Prop):b4p j L Q=(wp (lk L j) fun v=>match v with
 | .dct ks vs=>∀ o,Q (ks.map c1d) (L.set j (some (.dcz o ks vs)))
 | .dcz _ ks _=>Q (ks.map c1d) L
 | _=>False):=propext Iff.rfl
section
variable {X:Cx} {C:CC} {n:Nat} {sp:Γd→Nat→Sp} {tg:Expr} {p:Pos} {i:Nat} {nx:Str}
variable {K:Γd} {c:Cn} {md:Md}
theorem b9g {a:Addr} {o:Obj} {ks:List (List Int)} {us:List V} {S1:Hp} (hl:ks.length=us.length) (hp:(a,HO.frz o (.dT ((a0y ks).zip us)))∈c.pr):ItR K c md (Itk a o ((a0y ks).zip us)) (ks.map c1d) S1:=by
 intro i L σ S H I s
 have ha:=(I.prs _ hp).1
 have hz:((a0y ks).zip us).length=ks.length:=by rw [List.length_zip]; simp [a0y]; lia
 refine ⟨fun e=>⟨ha,?_⟩,fun p ep=>?_⟩
 ·have:=List.getElem?_eq_none_iff.mp e
  rw [List.length_map] at this; lia
 ·rw [List.getElem?_map] at ep
  obtain ⟨k,ek,rfl⟩:=Option.map_eq_some_iff.mp ep
  have hi:=(List.getElem?_eq_some_iff.mp ek).1
  refine ⟨⟨ha,by lia⟩,fun v H' ⟨eh,b,q,ev,eq,hb⟩=>?_⟩
  subst eh; subst ev
  have hq:q.1=k.map Sum.inl:=by
   obtain ⟨q1,q2⟩:=q
   have:=(List.getElem?_zip_eq_some.mp eq).1
   rw [a0y,List.getElem?_map,ek] at this
   simpa using this.symm
  rw [hq,List.map_map] at hb
  have hb:H' b=some (.tup (k.map V.int)):=hb
  exact ⟨_,(I.tup hb).2,fun c md L σ J=>(J.tup hb).1,b,_,rfl,a0f,RVs.ns k⟩
theorem d7y (G:Good X C n sp) (h:C.nm i nx=true) (m:a0m C.md i=.own):FI X C (C.md.set i .frz) tg (.Name nx p) (b4p i):=PI.imp (c6u (a1r G h)) fun σ H R ⟨c,L,S,Q0,I,h,k⟩=>by
 obtain ⟨v,e,h⟩:=wpx h
 have e:=(a2p _ _ _).mp e
 obtain ⟨l,e1,⟨o1,qs,us,e2,o2,o3⟩,o4⟩:=I.own i v (fun z=>by rw [m] at z; cases z) e
 cases v with
 | dct ks vs =>
  obtain ⟨hl,rfl⟩:=itd e2
  have hlu:=o3.length
  refine ⟨_,e1,l,_,rfl,.inl ⟨o2,fun o=>?_⟩⟩
  have I1:=I.writeV (w:=.dcz o ks vs) m e e1 (if_pos hl) o3
  have hi:=(List.getElem?_eq_some_iff.mp e).1
  obtain ⟨I2,un⟩:=I1.frz m (List.getElem?_set_self hi) e1 a0f
  exact k _ _ (h o) _ _ S _ I2 un rfl (b9g (by lia) Γn) (Same.refl S)
 | dcz o ks vs =>
  obtain ⟨hl,rfl⟩:=itd e2
  have hlu:=o3.length
  obtain ⟨I2,un⟩:=I.frz m e e1 o2
  exact ⟨_,e1,l,_,rfl,.inr ⟨o,o2,k _ _ h _ _ S _ I2 un rfl (b9g (by lia) Γn) (Same.refl S)⟩⟩
 | _=>exact h.elim
end
section
variable {prog:Program} {w:World} {A:Around} {E:Value→Shared→Prop} {s:Shared} {d:Addr} {es:Array DictEntry} {ep:Nat}
theorem b2l {m:Nat} (RT:a5d m) (hmm:m≤100000) {Q:Value→Shared→Prop} (hh:A.in1.handled=none) (lo:(d == sysModules)=false) (hm:EntAt s.heap d es ep) (hb:es.size≤m) (ht:∀ e∈es.toList,∃ ks,NumTup s.heap e.key ks)
  (K:∀ (D:Addr) (vs':List Value) (h':Heap) (c tk:Nat),vs'.Perm (es.toList.map (·.key))→(vs'.Pairwise fun x y=>lexLt (a3z s.heap y) (a3z s.heap x)=false)→(∀ b o,s.heap.get? b=some o→b≠D)→h'.get? D=some (seqObj "list" vs'.toArray c)→(∀ b o,s.heap.get? b=some o→h'.get? b=some o)→Q (.ref D) { s with heap:=h',toks:=tk }) :
  wpAny (model prog w) A (call (.builtin "sorted") [.ref d]) Q E s:=by
 refine Calls.call_function_entry kind_sorted plain_sorted entry_sorted (args_sorted1 _) ?_
 unfold Builtin.«sorted»
 refine Γa (m:=checkCount "sorted" 1 1 _) (Γb ?_)
 refine Γa (kdu_collect (c6a lo) hh hm (Nat.le_trans (Nat.le_trans hb hmm) (by rw [sizeLine_eq]; lia)) fun h1 tk acc kp1 hacc=>?_)
 have hvs:acc.toList=es.toList.map (·.key):=by
  obtain ⟨h1,h2⟩:=hacc
  apply List.ext_getElem
  ·simp [h1]
  ·intro i i1 i2
   have hi:i < acc.size:=by simpa using i1
   obtain ⟨e,e1,e2⟩:=h2 i acc[i] (by simp [hi])
   simp at i2
   rw [Array.getElem?_eq_getElem i2] at e1
   cases e1
   simpa using e2
 generalize hv:acc.toList=vs at hvs ⊢
 have hlen:vs.length≤m:=by rw [hvs]; simpa using hb
 have htv:∀ v∈vs,∃ ks,NumTup s.heap v ks:=fun v hv=>by
  rw [hvs] at hv
  obtain ⟨e,he,rfl⟩:=List.mem_map.mp hv
  exact ht e he
 refine Γa (wpAny_newList ?_ (by rw [sizeLine_eq]; lia))
 have hoL:(h1.push (seqObj "list" vs.toArray 0)).get? h1.objs.size=some (seqObj "list" vs.toArray 0):=Γm _ rfl
 have keep:∀ b o,s.heap.get? b=some o→(h1.push (seqObj "list" vs.toArray 0)).get? b=some o:=fun b o q=>Γc _ (kp1 b o q)
 have old:∀ b o,s.heap.get? b=some o→b≠h1.objs.size:=fun b o e=>Γo (Γl (kp1 b o e))
 show wpAny _ _ _ _ _ { s with heap:=h1.push (seqObj "list" vs.toArray 0),toks:=tk }
 refine Γa (Γg (wpAny_call_entry slot_list_sort ⟨_,hoL,rfl⟩ entry_list_sort (d1s RT hmm (s:={ s with heap:=h1.push (seqObj "list" vs.toArray 0),toks:=tk }) (kd:=tuples' true) (kf:=a3z s.heap) hoL hlen (fun h2 h3 kp Q q=>?_) (fun h3 kp x hx y hy Q E' q=>?_) fun vs' h' c tk a1 a2 a3 a4=>⟨_,rfl,?_⟩) (args_list_sort _)))
 ·obtain ⟨fs,t1,t2,t3⟩:=a9w (h:=h3) (vs:=vs) fun v hv=>by
   obtain ⟨ks,hk⟩:=htv v hv
   exact (hk.keep fun b o e=>kp b o (old b o e) (keep b o e)).it
  refine kat_kind (T:=.type "int") t1 (by lia) (fun v hv=>?_) (by decide) q
  obtain ⟨k,t,rfl⟩:=t3 v hv
  exact .now
 ·obtain ⟨ks,hk⟩:=htv x hx
  obtain ⟨js,hj⟩:=htv y hy
  rw [hk.nums,hj.nums] at q
  exact d1q (hk.keep fun b o e=>kp b o (old b o e) (keep b o e)) (hj.keep fun b o e=>kp b o (old b o e) (keep b o e)) q
 ·rw [← hvs] at K
  exact Γb ⟨_,rfl,K _ vs' h' c tk a1 a2 old a3 fun b o e=>a4 b o (old b o e) (keep b o e)⟩
end
theorem obj_there {P:Program} {w:World} {H:Hp} {h:Heap} {a:Addr} {o:HO} (x:ObjOk P w H h a o):∃ u,h.get? a=some u:=by
 cases o with
 | lst xs=>exact let ⟨_,_,_,_,e⟩:=x; ⟨_,e⟩
 | tup xs=>exact let ⟨_,_,_,o,e,_⟩:=x; ⟨o,e⟩
 | dK kvs=>exact let ⟨_,_,_,_,o,_,_,e,_⟩:=x; ⟨o,e⟩
 | dT kvs=>exact let ⟨_,_,_,_,o,_,_,e,_⟩:=x; ⟨o,e⟩
 | set S n=>exact let ⟨o,_,_,_,e,_⟩:=x; ⟨o,e⟩
 | ins C dx fs=>exact let ⟨_,_,_,e,_⟩:=x; ⟨_,e⟩
 | own y=>exact x
 | xd fs=>exact let ⟨_,⟨o,_,_,e,_⟩,_⟩:=x; ⟨o,e⟩
 | rng lo hi=>exact let ⟨_,_,_,e⟩:=x; ⟨_,e⟩
 | frz ob u=>exact ⟨ob,x.1⟩
 | tbl ps=>exact ⟨_,x⟩
 | met f y=>exact ⟨_,x⟩
 | ext φ=>exact x.2.1
theorem c2z {X:Cx} {pins:List (Addr×Obj)} {σ:L2.St} {H:Hp} {s:Shared} {h':Heap} {a:Addr} {o:HO} {t':Nat} (I:Inv X pins σ H s) (k:∀ b u,s.heap.get? b=some u→h'.get? b=some u) (hp:∀ b u,s.heap.get? b=some u→b≠a) (new:ObjOk X.prog X.w (upd H a o) h' a o):Inv X pins σ (upd H a o) { s with heap:=h',toks:=t' }∧H a=none:=by
 have tr:∀ {b u},H b=some u→b≠a:=fun {b u} e=>let ⟨v,hv⟩:=obj_there (I.hok b u e); hp b v hv
 have ow:∀ b u,H b=some u→upd H a o b=some u:=fun b u e=>by rw [a0e (tr e)]; exact e
 refine ⟨I.un (t':=t') ⟨fun b o' e _ _ _=>k b o' e,fun b o' e _ _ _=>⟨o'.slots,k b o' e⟩,fun b o' e n _=>by rw [a0e (hp b o' e)]; exact n,fun b o' e _=>⟨o',k b o' e⟩,fun b xs e=>ow b _ e,fun b o' u e=>ow b _ e,fun b ps e=>⟨#[],by rw [Array.append_empty]; exact ow b _ e⟩⟩ fun b u e=>?_,?_⟩
 ·by_cases z:b=a
  ·subst z; rw [a0f] at e; cases e; exact new
  ·rw [a0e z] at e
   exact (I.hok b u e).stay (fun c v _ q=>k c v q) (fun c e=>ow c _ e) fun c xs e=>ow c _ e
 ·cases q:H a with
  | none=>rfl
  | some u=>exact absurd rfl (tr q)
section
variable {X:Cx}
noncomputable def c9z (X:Cx) (m:Nat):List V→Hp→VK→Prop:=fun xs H Q=>∃ (a:Addr) (ks:List (List Int)) (us:List V),xs=[.ref a]∧Rd H a (.dT ((a0y ks).zip us))∧ks.length=us.length∧ks.length≤m∧(∀ k∈ks,k≠[])∧∀ (p:Addr) (ys:List (List Int)) (zs:List V),H p=none→ys.Perm ks→(ys.Pairwise fun x y=>lexLt y x=false)→Paired (fun (k:List Int) (z:V)=>∃ b:Addr,z=V.ref b∧H b=some (.tup (k.map V.int))) ys zs→Q (.ref p) (upd H p (.lst zs))
theorem a2s {α β:Type} {f:α→β}:∀ {l':List β} {m:List β},l'.Perm m→∀ l:List α,m=l.map f→∃ l2:List α,l2.Perm l∧l'=l2.map f:=by
 intro l' m h
 induction h with
 | nil=>intro l e; exact ⟨[],by cases l with | nil=>exact .refl _ | cons=>simp at e,rfl⟩
 | @cons x l1 l2 p ih =>
  intro l e
  cases l with
  | nil=>simp at e
  | cons a r =>
   simp at e
   obtain ⟨q,h1,h2⟩:=ih r e.2
   exact ⟨a :: q,h1.cons a,by rw [List.map_cons,← e.1,← h2]⟩
 | swap x y t =>
  intro l e
  rcases l with _ | ⟨a,_ | ⟨b,r⟩⟩
  ·simp at e
  ·simp at e
  ·simp at e
   obtain ⟨rfl,rfl,rfl⟩:=e
   exact ⟨b :: a :: r,.swap a b r,rfl⟩
 | trans p q ih1 ih2 =>
  intro l e
  obtain ⟨m2,h1,h2⟩:=ih2 l e
  obtain ⟨m3,h3,h4⟩:=ih1 m2 h2
  exact ⟨m3,h3.trans h1,h4⟩
theorem c8t {m:Nat} (RT:a5d m) (hmm:m≤100000) (hc:X.calm=true):a1n X (.builtin "sorted") (c9z X m):=by
 rintro pins s σ H xs us Q I r ⟨a,ks,ws,rfl,hd,hl,hb,hne,k⟩
 obtain ⟨u,rfl,ru⟩:=a3t r
 cases (show u=Value.ref a from ru)
 obtain ⟨o,es,ep,f1,f2,f3,f4,f5,f6⟩:=b1q (hd.ok I.hok)
 have hz:((a0y ks).zip ws).length=ks.length:=by rw [List.length_zip]; simp [a0y]; lia
 have nt:∀ (b:Addr) (ks:List Int),H b=some (.tup (ks.map V.int))→ks≠[]→NumTup s.heap (.ref b) ks:=by
  intro b ks hb hn
  obtain ⟨_,jts,rr,o,e1,e2,n,e3⟩:=(show ObjOk X.prog X.w H s.heap b (.tup (ks.map V.int)) from I.hok b _ hb)
  exact ⟨b,o,jts,n,rfl,e1,e2,e3,rr,hn⟩
 -- the i-th key
 have key:∀ (i:Nat) (hi:i < es.size),∃ b,∃ hk:i < ks.length,es[i].key=.ref b∧H b=some (.tup (ks[i].map V.int)):=by
  intro i hi
  have hk:i < ks.length:=by lia
  have hw:i < ws.length:=by lia
  obtain ⟨b,b1,b2⟩:=f6 i hi (ks[i].map Sum.inl,ws[i]) (by
   rw [List.getElem?_zip_eq_some]
   simp [a0y,hk,hw])
  exact ⟨b,hk,b1,by rw [List.map_map] at b2; exact b2⟩
 refine b2l RT hmm (I.ok.hd hc) f5 f3 (by lia) (fun e he=>?_) fun D vs' h' c tk p1 po p2 p3 p4=>?_
 ·obtain ⟨i,hi,rfl⟩:=List.mem_iff_getElem.mp he
  obtain ⟨b,hk,b1,b2⟩:=key i (by simpa using hi)
  have:es.toList[i].key=.ref b:=by simpa using b1
  rw [this]
  exact ⟨_,nt b _ b2 (hne _ (List.getElem_mem hk))⟩
 ·have hn:es.size=ks.length:=by lia
  have hch:∀ i,∃ b:Addr,∀ hi:i < es.size,es[i].key=.ref b∧H b=some (.tup ((ks.getD i []).map V.int)):=fun i=>by
   by_cases hi:i < es.size
   ·obtain ⟨b,hk,b1,b2⟩:=key i hi
    exact ⟨b,fun _=>⟨b1,by rw [List.getD,List.getElem?_eq_getElem hk]; exact b2⟩⟩
   ·exact ⟨0,fun h=>absurd h hi⟩
  let bo:=fun i=>Classical.choose (hch i)
  have hbo:∀ i (hi:i < es.size),es[i].key=.ref (bo i)∧H (bo i)=some (.tup ((ks.getD i []).map V.int)):=fun i hi=>Classical.choose_spec (hch i) hi
  have e0:es.toList.map (·.key)=(List.range es.size).map fun i=>Value.ref (bo i):=by
   apply List.ext_getElem
   ·simp
   ·intro i i1 i2
    simp at i1
    simpa using (hbo i i1).1
  obtain ⟨ix,q1,q2⟩:=a2s p1 _ e0
  have mem:∀ i∈ix,i < es.size:=fun i hi=>List.mem_range.mp (q1.mem_iff.mp hi)
  have hnum:∀ i∈ix,a3z s.heap (.ref (bo i))=ks.getD i []:=fun i hi=>by
   have h1:=mem i hi
   refine (nt _ _ (hbo i h1).2 (hne _ ?_)).nums
   rw [List.getD,List.getElem?_eq_getElem (show i < ks.length by lia)]
   exact List.getElem_mem _
  have rel:Vals (ix.map fun i=>V.ref (bo i)) vs':=by
   rw [q2]
   clear q1 q2 mem hnum p1 po p3
   induction ix with
   | nil=>exact .nil
   | cons i r ih=>exact .cons rfl ih
  have hlen:(ix.map fun i=>V.ref (bo i)).length≤sizeLine:=by rw [List.length_map,q1.length_eq,List.length_range,sizeLine_eq]; lia
  obtain ⟨I2,hD⟩:=c2z (a:=D) (o:=.lst (ix.map fun i=>V.ref (bo i))) (t':=tk) I p4 p2 ⟨hlen,vs',c,rel,p3⟩
  refine ⟨.ref D,_,I2,rfl,k D (ix.map fun i=>ks.getD i []) _ hD ?_ ?_ ?_⟩
  ·have h1:=q1.map fun i=>ks.getD i []
   have h2:(List.range es.size).map (fun i=>ks.getD i [])=ks:=by
    apply List.ext_getElem
    ·simp [hn]
    ·intro i i1 i2
     simp [List.getD,i2]
   rwa [h2] at h1
  ·rw [q2] at po
   rw [List.pairwise_map] at po ⊢
   refine List.Pairwise.imp_of_mem (fun {x y} hx hy h=>?_) po
   rw [hnum x hx,hnum y hy] at h
   exact h
  ·have hb:∀ i∈ix,H (bo i)=some (.tup ((ks.getD i []).map V.int)):=fun i hi=>(hbo i (mem i hi)).2
   clear q1 q2 mem hnum p1 po p3 rel hlen I2
   induction ix with
   | nil=>exact .nil
   | cons i r ih=>exact .cons ⟨bo i,rfl,hb i (by simp)⟩ (ih fun j hj=>hb j (by simp [hj]))
end
noncomputable def b9y:FV→Option (List (List Int))
 | .dct ks _=>some ks
 | .dcz _ ks _=>some ks
 | _=>none
noncomputable def b4t (m j:Nat):EW:=fun L Q=>wp (lk L j) fun v=>wp (b9y v) fun ks=>ks.length≤m∧(∀ k∈ks,k≠[])∧∀ ys:List (List Int),ys.Perm ks→(ys.Pairwise fun x y=>lexLt y x=false)→Q (.lst (ys.map c1d)) L
@[scoped simp ↓] theorem d2q (m j:Nat) (L:a0d) (Q:FV→a0d→Prop):b4t m j L Q=(wp (lk L j) fun v=>wp (b9y v) fun ks=>ks.length≤m∧(∀ k∈ks,k≠[])∧∀ ys:List (List Int),ys.Perm ks→(ys.Pairwise fun x y=>lexLt y x=false)→Q (.lst (ys.map c1d)) L):=propext Iff.rfl
@[scoped simp ↓] theorem d9w (ks:List (List Int)) (vs:List FV) (Q:List (List Int)→Prop):wp (b9y (.dct ks vs)) Q=Q ks:=propext Iff.rfl
section
variable {X:Cx} {C:CC} {n:Nat} {sp:Γd→Nat→Sp} {pos p p':Pos} {i:Nat} {nx:Str}
theorem Iv.tups {K:Γd} {c:Cn} {md:Md} {L:a0d} {σ:L2.St} {H:Hp}:∀ {ys:List (List Int)} {zs:List V} {S:Hp},Iv K c md L σ S H→Paired (fun (k:List Int) (z:V)=>∃ b:Addr,z=V.ref b∧H b=some (.tup (k.map V.int))) ys zs→∃ S',Iv K c md L σ S' H∧Same S S'∧RVs K S' (ys.map c1d) zs
 | _,_,S,I,.nil=>⟨S,I,Same.refl S,rfl⟩
 | _,_,S,I,.cons (a:=k) (b:=z) ⟨b,e,hb⟩ t=>by
  subst e
  obtain ⟨S',I',s',r⟩:=Iv.tups I t
  obtain ⟨I2,s2⟩:=I'.tup hb
  exact ⟨_,I2,s'.trans s2,V.ref b,_,rfl,⟨b,_,rfl,a0f,RVs.ns k⟩,r.mono s2⟩
theorem c1s {b:Nat} (RT:a5d b) (hmm:b≤100000) (G:Good X C n sp) (hg:C.gl (Γe "sorted")=true) (h:C.nm i nx=true) (m:a0m C.md i≠.imm):FE X C (.Call (.Name (Γe "sorted") p) [.Name nx p'] [] pos) (b4t b i) :=
 PE.imp (a4n (c8t RT hmm G.calm) (G.gl hg) (G.blt "sorted" (by decide)) (by nofun) (a0j (a1r G h) a1s (a0c rfl)) (by nofun) (by nofun) (a0c rfl) rfl) fun σ H Q ⟨c,L,S,Q0,I,h,k⟩=>by
  obtain ⟨v,e,h⟩:=wpx h
  have e:=(a2p _ _ _).mp e
  obtain ⟨ks,e0,hb,hne,q⟩:=wpx h
  obtain ⟨l,e1,⟨o1,qs,us,e2,o2,o3⟩,_⟩:=I.own i v m e
  have rd:Rd H l (.dT ((a0y ks).zip us))∧ks.length=us.length:=by
   have hlu:=o3.length
   cases v with
   | dct ks' vs =>
    cases e0
    obtain ⟨hl,rfl⟩:=itd e2
    exact ⟨.inl o2,by lia⟩
   | dcz o ks' vs =>
    cases e0
    obtain ⟨hl,rfl⟩:=itd e2
    exact ⟨.inr ⟨o,o2⟩,by lia⟩
   | _=>cases e0
  refine ⟨_,e1,l,ks,us,rfl,rd.1,rd.2,by lia,hne,fun D ys zs hD p1 p2 p3=>?_⟩
  obtain ⟨S',I',s',r⟩:=Iv.tups I p3
  exact k _ L (q ys p1 p2) _ _ _ ⟨D,zs,rfl,a0f,r.mono (a0h (I'.sn hD))⟩ (I'.new hD _) (s'.trans (a0h (I'.sn hD)))
theorem d4g (G:Good X C n sp) (hg:C.gl (Γe "sorted")=true) (h:C.nm i nx=true) (m:a0m C.md i≠.imm):FE X C (.Call (.Name (Γe "sorted") p) [.Name nx p'] [] pos) (b4t 63 i):=c1s c4m (by decide) G hg h m
end
end Kq
end
set_option maxRecDepth 10000
set_option maxHeartbeats 1000000
section
namespace Kq
noncomputable def bd0 (call:CW):SW:=a0u (a1g (a0b 0) (.tp [1,2])) (a0u (a1g (eUn a6z (a0b 1)) (.nm 3)) (a0u (a8c (b0m (eUn a8h (a0b 1))) (.nm 4) (a8c (a8n (a0b 2)) (.tp [5,6,7]) (c6d 3 (a0b 6) (eOp b5l (b0n ixF 3 (a0b 6)) (eOp a3s (b0n ixF 3 (a0b 5)) (a0b 7)))))) (a2n (eUn a2x (a0b 3)))))
noncomputable def bd1 (call:CW):SW:=a0u (a1g (a0b 0) (.tp [1,2])) (a0u (a1g (a1q call 0 (a0a (a0b 0) a0k)) (.nm 3)) (a0u (a1g (eOp (a5p b6k) (b0o (a0a (eC .non) a0k)) (eUn a8h (a0b 1))) (.nm 4)) (a0u (a1g (eUn a6z (a0b 1)) (.nm 5)) (a0u (a8c (a8n (a0b 2)) (.tp [6,7,8]) (sIf (c3x (a2c (eOp eqB (eOp a3s (eOp ixF (a0b 3) (a0b 6)) (a0b 8)) (eOp ixF (a0b 3) (a0b 7)))) (a2c (eOp ltB (a0b 8) (b0n ixF 5 (a0b 7))))) (a0u (c6d 4 (a0b 7) (a0b 6)) (c6d 5 (a0b 7) (a0b 8))) a9i)) (a2n (eUn a2x (a0b 4)))))))
noncomputable def bd2 (call:CW):SW:=a2n (d2x (eUn (d2b .int) (a0b 0)) (eUn d6t (eUn (d2b .bool) (a0b 0))))
noncomputable def bd3 (call:CW):SW:=a2n (d2x (eUn (d2b .tuple) (a0b 0)) (eOp eqB (eUn a8h (a0b 0)) (a0b 1)))
noncomputable def bd4 (call:CW):SW:=a0u (a1g (eUn a8h (eOp ixF (a0b 0) (eC (.int 0)))) (.nm 2)) (a0u (sIf (d3k (a2c (a1q call 3 (a0a (a0b 1) (a0a (a0b 2) a0k))))) (a2n (eC (.bl false))) a9i) (a0u (a1g (a1q call 6 (a0a (a0b 0) a0k)) (.nm 3)) (a0u (a8c (b5v (a0b 1)) (.tp [4,5]) (sIf (c3x (a2c (eUn a0n (a0b 5))) (d3k (c3x (a2c (a1q call 2 (a0a (a0b 5) a0k))) (a2c (eOp d2g (a3y (a0a (a0b 5) (a0a (a0b 4) a0k))) (a0b 3)))))) (a2n (eC (.bl false))) a9i)) (a2n (eUn d4r (a1z 6 1 (b0m (a0b 2)) (.nm 6) a2b (a1q call 5 (a0a (a0b 1) (a0a (a0b 6) a0k)))))))))
noncomputable def bd5 (call:CW):SW:=a0u (a1g (eOp ixF (a0b 0) (a0b 1)) (.nm 2)) (a0u (a8c (b0m (eUn a8h (a0b 0))) (.nm 3) (a0u (sIf (a2c (eUn a2l (a0b 2))) (a2n (eC (.bl true))) a9i) (a1g (eOp ixF (a0b 0) (a0b 2)) (.nm 2)))) (a2n (eC (.bl false))))
noncomputable def bd6 (call:CW):SW:=a2n (b9w 1 3 (a8n (eOp ixF (a0b 0) (eC (.int 1)))) (.tp [1,2,3]) a2b (a3y (a0a (a0b 1) (a0a (a0b 2) a0k))) (a0b 3))
noncomputable def bd7 (call:CW):SW:=a0u (a1g (a1q call 6 (a0a (a0b 0) a0k)) (.nm 2)) (a2n (a1z 3 2 (b5v (a0b 1)) (.tp [3,4]) a2b (eIf (a2c (eUn a2l (a0b 4))) (eOp ixF (eOp ixF (a0b 0) (eC (.int 0))) (a0b 3)) (eOp b6a (a0b 2) (a3y (a0a (a0b 4) (a0a (a0b 3) a0k)))))))
noncomputable def bd8 (call:CW):SW:=a2n (eUn c1q (a1q call 7 (a0a (a0b 0) (a0a (a0b 1) a0k))))
noncomputable def bd9 (call:CW):SW:=a0u (a1g (b0o (a0a (a0b 1) a0k)) (.nm 2)) (a0u (a1g (eOp ixF (a0b 0) (a0b 1)) (.nm 3)) (a0u (c9d (a2c (eUn a0n (a0b 3))) (a0u (c4l (b3e d3l 2 (a0b 3))) (a1g (eOp ixF (a0b 0) (a0b 3)) (.nm 3)))) (a2n (eUn c6f (a0b 2)))))
noncomputable def e0y (call:CW):SW:=a0u (a1g (a1q call 7 (a0a (a0b 0) (a0a (a0b 1) a0k))) (.nm 2)) (a2n (eUn a2x (a1z 3 1 (b0m (eUn a8h (a0b 1))) (.nm 3) a2b (eUn c9p (a1z 4 1 (a8n (a1q call 9 (a0a (a0b 1) (a0a (a0b 3) a0k)))) (.nm 4) a2b (eOp ixF (a0b 2) (a0b 4)))))))
noncomputable def e0x (call:CW):SW:=a0u (a1g (b0o (a0a (a3y a0k) a0k)) (.nm 1)) (a0u (a8c (b0m (eUn a8h (eOp ixF (a0b 0) (eC (.int 0))))) (.nm 2) (a0u (a1g (eOp a3s (b0o (a0a (eC .non) a0k)) (a1z 4 3 (a8n (eOp ixF (a0b 0) (eC (.int 1)))) (.tp [4,5,6]) (a2c (eOp eqB (a0b 5) (a0b 2))) (a0b 4))) (.nm 3)) (a1g (b1s 4 2 (a8n (a0b 1)) (.nm 4) a2b (a8n (a0b 3)) (.nm 5) (d3k (a2c (a1q call 12 (a0a (a0b 4) (a0a (a0b 5) a0k))))) (eOp a3s (a0b 4) (a3y (a0a (a0b 5) a0k)))) (.nm 1)))) (a2n (a0b 1)))
noncomputable def e0w (call:CW):SW:=a0u (a1g (eUn a8h (a0b 0)) (.nm 2)) (a0u (c9d (c3x (a2c (eUn a0n (a0b 1))) (a2c (eOp ltB (a0b 1) (a0b 2)))) (a1g (eOp ixF (a0b 0) (a0b 1)) (.nm 1))) (a2n (eOp eqB (a0b 1) (a0b 2))))
noncomputable def e0v (call:CW):SW:=a0u (a1g (eOp c4w (eOp b6k (eOp a3s (eOp a3s (eOp c4w (a0b 0) (eC (.int 2147483629))) (eOp b6k (eOp b6k (a0b 1) (a0b 1)) (eC (.int 7919)))) (eC (.int 11))) (eC (.int 48271))) (eC (.int 2147483647))) (.nm 2)) (a2n (eOp c4w (eOp b6k (a0b 2) (a0b 2)) (eC (.int 1999999973))))
noncomputable def e0u (call:CW):SW:=a0u (a1g (eIf (a2c (eOp ltB (a0b 1) (eUn a8h (a0b 0)))) (eOp ixF (a0b 0) (a0b 1)) (eC (.int 0))) (.nm 2)) (a2n (b0o (a0a (eOp b6k (eUn d3m (a0b 2)) (eUn b3p (eOp geB (eUn d3m (a0b 2)) (eOp d0q (eC (.int 10)) (eC (.int 18)))))) (a0a (eOp a3s (a0b 2) (eOp b6k (eC (.int 1000003)) (a0b 1))) (a0a (eC (.int 0)) a0k)))))
noncomputable def d4p (call:CW):SW:=a0u (c6d 0 (eC (.int 2)) (eOp a3s (b0n ixF 0 (eC (.int 2))) (eC (.int 1)))) (a0u (sIf (a2c (eOp gtB (b0n ixF 0 (eC (.int 0))) (eC (.int 0)))) (a0u (a1g (eOp c4w (b0n ixF 0 (eC (.int 0))) (a0b 1)) (.nm 2)) (a0u (c6d 0 (eC (.int 0)) (eOp b9r (b0n ixF 0 (eC (.int 0))) (a0b 1))) (a2n (a0b 2)))) a9i) (a2n (eOp c4w (eOp b9r (a1q call 13 (a0a (a1q call 13 (a0a (b0n ixF 0 (eC (.int 1))) (a0a (b0n ixF 0 (eC (.int 2))) a0k))) (a0a (eOp a3s (b0n ixF 0 (eC (.int 2))) (eC (.int 64))) a0k))) (eC (.int 64))) (a0b 1))))
noncomputable def e0t (call:CW):SW:=a0u (a1g (a0q call 15 0 (a0a (eC (.int 4)) a0k)) (.nm 2)) (a0u (sIf (c3x (a2c (eOp eqB (a0b 2) (eC (.int 3)))) (a2c (eOp eqB (a0b 1) (eC (.int 0))))) (a2n (eOp a3s (eC (.int 1)) (a0q call 15 0 (a0a (eOp d3o (eOp d0q (eC (.int 10)) (eC (.int 9))) (eC (.int 20))) a0k)))) a9i) (a2n (eOp a3s (eC (.int 1)) (a0q call 15 0 (a0a (eOp ixF (b0o (a0a (eC (.int 9)) (a0a (eC (.int 9)) (a0a (eC (.int 40)) (a0a (eC (.int 3)) a0k))))) (a0b 2)) a0k)))))
noncomputable def e0s (call:CW):SW:=a0u (a1g (a3y (a0a (a0q call 15 0 (a0a (eC (.int 4)) a0k)) (a0a (eOp a3s (eC (.int 1)) (a0q call 15 0 (a0a (eC (.int 4)) a0k))) a0k))) (.tp [2,3])) (a0u (a1g (eUn a2x (a1z 8 1 (b0m (a0b 1)) (.nm 8) a2b (eOp a3s (a0q call 16 0 (a0a (a0b 2) a0k)) (eOp ixF (b0o (a0a (eC (.int 0)) (a0a (eC (.int 12)) a0k))) (a0q call 15 0 (a0a (eC (.int 2)) a0k)))))) (.nm 4)) (a0u (a1g (b0o a0k) (.nm 5)) (a0u (a8c (b0m (a0b 1)) (.nm 6) (a8c (b0m (a0b 1)) (.nm 7) (sIf (c3x (a2c (eOp neB (a0b 6) (a0b 7))) (a2c (eOp eqB (a0q call 15 0 (a0a (a0b 3) a0k)) (eC (.int 0))))) (c4l (b3e d3l 5 (a3y (a0a (a0b 6) (a0a (a0b 7) (a0a (a0q call 16 0 (a0a (a0b 2) a0k)) a0k)))))) a9i))) (a2n (a3y (a0a (a0b 4) (a0a (eUn a2x (a0b 5)) a0k)))))))
noncomputable def e0r (call:CW):SW:=a0u (a1g (a0q call 17 0 (a0a (a0b 1) a0k)) (.nm 2)) (a0u (a1g (eC (.dct [] [])) (.nm 3)) (a0u (a8c (a8n (eOp ixF (a0b 2) (eC (.int 1)))) (.tp [4,5,6]) (c1y 3 (a3y (a0a (eOp b5l (a0b 4) (a0b 5)) (a0a (eOp b8l (a0b 4) (a0b 5)) a0k))) (a0b 6))) (a0u (a1g (eOp a3s (a1z 8 2 (b4p 3) (.tp [8,9]) a2b (a3y (a0a (a0b 8) (a0a (a0b 9) (a0a (b0n dgF 3 (a3y (a0a (a0b 8) (a0a (a0b 9) a0k)))) a0k))))) (a1z 8 2 (b4p 3) (.tp [8,9]) a2b (a3y (a0a (a0b 9) (a0a (a0b 8) (a0a (b0n dgF 3 (a3y (a0a (a0b 8) (a0a (a0b 9) a0k)))) a0k)))))) (.nm 7)) (a2n (a3y (a0a (eOp ixF (a0b 2) (eC (.int 0))) (a0a (eUn a2x (b1r 63 (a0b 7))) a0k)))))))
noncomputable def e0q (call:CW):SW:=a0u (a1g (b0o a0k) (.nm 2)) (a0u (a8c (b0m (a0b 1)) (.nm 3) (c4l (b4u d3w 2 (a0a (a0q call 15 0 (a0a (eOp a3s (a0b 3) (eC (.int 1))) a0k)) (a0a (a0b 3) a0k))))) (a0u (a1g (a3y (a0a (eOp a3s (eC (.int 1)) (a0q call 15 0 (a0a (eC (.int 3)) a0k))) (a0a (eOp a3s (eC (.int 9)) (a0q call 15 0 (a0a (eC (.int 40)) a0k))) a0k))) (.tp [4,5])) (a0u (a1g (eUn c0a (a1z 11 2 (c8a 2 (d2s 2 (b2u (eC (.int 1))) b2v)) (.tp [11,12]) a2b (a3y (a0a (a3y (a0a (a0b 11) (a0a (a0b 12) a0k))) (a0a (eOp a3s (eC (.int 1)) (a0q call 15 0 (a0a (a0b 4) a0k))) a0k))))) (.nm 6)) (a0u (a8c (b0m (a0q call 15 0 (a0a (eOp a3s (a0b 1) (eC (.int 1))) a0k))) (.nm 7) (a0u (a1g (a3y (a0a (a0q call 15 0 (a0a (a0b 1) a0k)) (a0a (a0q call 15 0 (a0a (a0b 1) a0k)) a0k))) (.tp [8,9])) (sIf (a2c (eOp neB (a0b 8) (a0b 9))) (c1y 6 (a3y (a0a (a0b 8) (a0a (a0b 9) a0k))) (eOp a3s (eC (.int 1)) (a0q call 15 0 (a0a (a0b 5) a0k)))) a9i))) (a0u (a1g (eUn a2x (a1z 11 1 (b0m (a0b 1)) (.nm 11) a2b (eOp a3s (eC (.int 1)) (a0q call 15 0 (a0a (a0b 5) a0k))))) (.nm 10)) (a2n (a3y (a0a (a0b 10) (a0a (eUn a2x (a1z 11 1 (a8n (b4t 63 6)) (.nm 11) a2b (eOp a3s (a0b 11) (a3y (a0a (b0n dgF 6 (a0b 11)) a0k))))) a0k)))))))))
noncomputable def d4o (call:CW):SW:=a2n (eUn c0a (a1z 1 3 (a8n (eOp ixF (a0b 0) (eC (.int 1)))) (.tp [1,2,3]) a2b (a3y (a0a (a3y (a0a (a0b 1) (a0a (a0b 2) a0k))) (a0a (a0b 3) a0k)))))
noncomputable def e0p (call:CW):SW:=a0u (a1g (b0o (a0a (a0b 1) a0k)) (.nm 2)) (a0u (c9d (a2c (eUn a0n (eOp ixF (a0b 0) (b0n ixF 2 (eC (.int 0)))))) (c4l (b4u d3w 2 (a0a (eC (.int 0)) (a0a (eOp ixF (a0b 0) (b0n ixF 2 (eC (.int 0)))) a0k))))) (a2n (a0b 2)))
noncomputable def e0o (call:CW):SW:=a0u (a1g (a1q call 20 (a0a (a0b 0) a0k)) (.nm 2)) (a0u (a1g (b0o a0k) (.nm 3)) (a0u (a8c (b0m (eUn a8h (a0b 1))) (.nm 4) (a0u (a1g (a1q call 21 (a0a (a0b 1) (a0a (a0b 4) a0k))) (.nm 5)) (c4l (b3e d3l 3 (eOp a3s (eOp ixF (eOp ixF (a0b 0) (eC (.int 0))) (eOp ixF (a0b 5) (eC (.int 0)))) (eUn c9p (a1z 6 1 (d2h (a0b 5) (eSl (a0b 5) (b2u (eC (.int 1))) b2v)) (.nm 6) a2b (eOp b6a (a0b 2) (a0b 6))))))))) (a2n (eUn a2x (a0b 3)))))
noncomputable def e0n (call:CW):SW:=a0u (a1g (a1q call 20 (a0a (a0b 0) a0k)) (.nm 2)) (a0u (a1g (eC (.int 0)) (.nm 3)) (a0u (a8c (b5v (a0b 1)) (.tp [4,5]) (a1g (eOp a3s (a0b 3) (eIf (a2c (eUn a2l (a0b 5))) (eOp ixF (eOp ixF (a0b 0) (eC (.int 0))) (a0b 4)) (eOp b6a (a0b 2) (a3y (a0a (a0b 5) (a0a (a0b 4) a0k)))))) (.nm 3))) (a2n (a0b 3))))
noncomputable def e0m (call:CW):SW:=a0u (a1g (a1q call 20 (a0a (a0b 0) a0k)) (.nm 2)) (a0u (sIf (a2c (eUn c9f (a1z 6 2 (b5v (a0b 1)) (.tp [6,7]) a2b (d2x (eUn a0n (a0b 7)) (eOp c4v (a3y (a0a (a0b 7) (a0a (a0b 6) a0k))) (a0b 2)))))) (a2n (eC (.bl false))) a9i) (a0u (a8c (b0m (eUn a8h (a0b 1))) (.nm 3) (a0u (a1g (a0b 3) (.nm 4)) (a0u (a8c (b0m (eUn a8h (a0b 1))) (.nm 5) (sIf (a2c (eUn a0n (a0b 4))) (a1g (eOp ixF (a0b 1) (a0b 4)) (.nm 4)) a9i)) (sIf (a2c (eUn a0n (a0b 4))) (a2n (eC (.bl false))) a9i)))) (a2n (eC (.bl true)))))
noncomputable def e0l (call:CW):SW:=a0u (a1g (b0o (a0a (a3y a0k) a0k)) (.nm 1)) (a0u (a8c (b0m (eUn a8h (eOp ixF (a0b 0) (eC (.int 0))))) (.nm 2) (a0u (a1g (eOp a3s (b0o (a0a (eC .non) a0k)) (a1z 6 3 (a8n (eOp ixF (a0b 0) (eC (.int 1)))) (.tp [6,7,8]) (a2c (eOp eqB (a0b 7) (a0b 2))) (a0b 6))) (.nm 3)) (a0u (a1g (b0o a0k) (.nm 4)) (a0u (a8c (a8n (a0b 1)) (.nm 5) (c4l (b3e d9n 4 (a1z 6 1 (a8n (a0b 3)) (.nm 6) a2b (eOp a3s (a0b 5) (a3y (a0a (a0b 6) a0k))))))) (a1g (eMv 4) (.nm 1)))))) (a2n (a1z 6 1 (a8n (a0b 1)) (.nm 6) (a2c (a1q call 24 (a0a (a0b 0) (a0a (a0b 6) a0k)))) (a0b 6))))
noncomputable def e0k (call:CW):SW:=a0u (sIf (a2c (eOp eqB (a0q call 15 0 (a0a (eC (.int 6)) a0k)) (eC (.int 0)))) (a0u (a1g (a0q call 17 0 (a0a (eC (.int 5)) a0k)) (.nm 1)) (a0u (a1g (a0q call 15 0 (a0a (eOp a3s (eUn a8h (eOp ixF (a0b 1) (eC (.int 1)))) (eC (.int 1))) a0k)) (.nm 2)) (a2n (a3y (a0a (eOp ixF (a0b 1) (eC (.int 0))) (a0a (eUn a2x (b1r 63 (eSl (eOp a3s (eSl (eOp ixF (a0b 1) (eC (.int 1))) (b2u (a0b 2)) b2v) (eSl (eOp ixF (a0b 1) (eC (.int 1))) b2v (b2u (a0b 2)))) b2v (b2u (eC (.int 8)))))) a0k)))))) a9i) (a0u (a1g (eOp ixF (b0o (a0a (eC (.int 0)) (a0a (eC (.int 1)) (a0a (eC (.int 2)) (a0a (eC (.int 3)) (a0a (eC (.int 4)) (a0a (eC (.int 3)) (a0a (eC (.int 4)) (a0a (eC (.int 4)) a0k))))))))) (a0q call 15 0 (a0a (eC (.int 8)) a0k))) (.nm 3)) (a0u (a1g (a0q call 15 0 (a0a (eC (.int 4)) a0k)) (.nm 4)) (a0u (sIf (c3x (a2c (eOp eqB (a0b 4) (eC (.int 0)))) (a2c (eOp gtB (a0b 3) (eC (.int 0))))) (a2n (a0q call 19 0 (a0a (a0b 3) a0k))) a9i) (a2n (eIf (a2c (eOp eqB (a0b 4) (eC (.int 1)))) (a0q call 18 0 (a0a (a0b 3) a0k)) (a0q call 17 0 (a0a (a0b 3) a0k)))))))
noncomputable def e0j (call:CW):SW:=a0u (a8c (b0m (eOp b8l (eC (.int 3)) (eOp b5l (eUn a8h (a0b 0)) (eC (.int 5))))) (.nm 1) (a0u (a1g (a1q call 14 (a0a (a0b 0) (a0a (a0b 1) a0k))) (.nm 2)) (a0u (a1g (a0q call 26 2 a0k) (.nm 3)) (a0u (a1g (a3y (a0a (a1q call 0 (a0a (a0b 3) a0k)) (a0a (a1q call 1 (a0a (a0b 3) a0k)) a0k))) (.tp [4,5])) (a0u (a1g (a1q call 25 (a0a (a0b 3) a0k)) (.nm 6)) (a0u (sIf (bOr (a2c (eOp c4v (a0b 5) (a0b 6))) (a2c (eOp neB (eUn a8h (a1q call 11 (a0a (a0b 3) a0k))) (eUn a8h (a0b 6))))) (a2n (eC (.bl false))) a9i) (a0u (a1g (a1z 8 1 (a8n (a0b 6)) (.nm 8) a2b (a3y (a0a (a1q call 22 (a0a (a0b 3) (a0a (a0b 8) a0k))) (a0a (a1q call 23 (a0a (a0b 3) (a0a (a0b 8) a0k))) a0k)))) (.nm 7)) (a0u (sIf (a2c (eUn c9f (a1z 8 2 (a8n (a0b 7)) (.tp [8,9]) a2b (eUn c9f (a1z 10 2 (d2h (a0b 8) (a0b 4)) (.tp [10,11]) a2b (eOp ltB (a0b 10) (a0b 11))))))) (a2n (eC (.bl false))) a9i) (a0u (sIf (bOr (a2c (eOp neB (a1q call 10 (a0a (a0b 3) (a0a (a0b 5) a0k))) (a0b 4))) (a2c (eUn (a5w true) (a1q call 4 (a0a (a0b 3) (a0a (a0b 5) a0k)))))) (a2n (eC (.bl false))) a9i) (sIf (a2c (eOp neB (a1q call 8 (a0a (a0b 3) (a0a (a0b 5) a0k))) (eUn c2t (a1z 8 2 (a8n (a0b 7)) (.tp [8,9]) (a2c (eOp eqB (a0b 8) (a0b 4))) (a0b 9))))) (a2n (eC (.bl false))) a9i)))))))))) (a2n (eC (.bl true)))
noncomputable def fd0:FD:=⟨1,8,bd0,false,false⟩
noncomputable def fd1:FD:=⟨1,9,bd1,false,false⟩
noncomputable def fd2:FD:=⟨1,1,bd2,false,false⟩
noncomputable def fd3:FD:=⟨2,2,bd3,false,false⟩
noncomputable def fd4:FD:=⟨2,6,bd4,false,false⟩
noncomputable def fd5:FD:=⟨2,4,bd5,false,false⟩
noncomputable def fd6:FD:=⟨1,1,bd6,false,false⟩
noncomputable def fd7:FD:=⟨2,3,bd7,false,false⟩
noncomputable def fd8:FD:=⟨2,2,bd8,false,false⟩
noncomputable def fd9:FD:=⟨2,4,bd9,false,false⟩
noncomputable def d9i:FD:=⟨2,3,e0y,false,false⟩
noncomputable def d9h:FD:=⟨1,4,e0x,false,false⟩
noncomputable def d9g:FD:=⟨2,3,e0w,false,false⟩
noncomputable def d9f:FD:=⟨2,3,e0v,false,false⟩
noncomputable def d9e:FD:=⟨2,3,e0u,false,true⟩
noncomputable def d4j:FD:=⟨2,3,d4p,true,false⟩
noncomputable def d9d:FD:=⟨2,3,e0t,true,false⟩
noncomputable def d9c:FD:=⟨2,8,e0s,true,false⟩
noncomputable def d9b:FD:=⟨2,8,e0r,true,false⟩
noncomputable def d9a:FD:=⟨2,11,e0q,true,false⟩
noncomputable def d8z:FD:=⟨1,1,d4o,false,false⟩
noncomputable def d8y:FD:=⟨2,3,e0p,false,true⟩
noncomputable def d8x:FD:=⟨2,6,e0o,false,false⟩
noncomputable def d8w:FD:=⟨2,6,e0n,false,false⟩
noncomputable def d8v:FD:=⟨2,6,e0m,false,false⟩
noncomputable def d8u:FD:=⟨1,6,e0l,false,false⟩
noncomputable def d8t:FD:=⟨1,5,e0k,true,false⟩
noncomputable def d8s:FD:=⟨1,8,e0j,false,false⟩
noncomputable def tb:List FD:=[fd0,fd1,fd2,fd3,fd4,fd5,fd6,fd7,fd8,fd9,d9i,d9h,d9g,d9f,d9e,d4j,d9d,d9c,d9b,d9a,d8z,d8y,d8x,d8w,d8v,d8u,d8t,d8s]
noncomputable def mixV (a k:Int):Int:=((a % 2147483629 + k * k * 7919 + 11) * 48271 % 2147483647) * ((a % 2147483629 + k * k * 7919 + 11) * 48271 % 2147483647) % 1999999973
theorem b7g (x:Int):a2h (x % 2147483647)=true:=by
 have:=Int.emod_nonneg x (show (2147483647:Int)≠0 by decide)
 have:=Int.emod_lt_of_pos x (show (0:Int) < 2147483647 by decide)
 simp only [a2h,decide_eq_true_eq]; lia
theorem b3u {i:Int} (h:0≤i) (h':i < 2 ^ 60):a2h i=true:=by
 simp only [a2h,decide_eq_true_eq]; lia
theorem a0i {i:Int} (h:0≤i) (h':i < 2 ^ 60):a1v i=true:=by
 simp only [a1v,decide_eq_true_eq]; lia
theorem d1o (d:Nat) (a k:Int) (hk:a2h k=true) (Q:FV×FV→Prop):callW tb (d + 1) 13 [.int a,.int k] Q↔Q (.int (mixV a k),.non):=by
 have h2:a2h 48271=true:=by decide
 have h3:a2h 7919=true:=by decide
 rw [b0i (fd:=d9f) rfl rfl]
 simp [d9f,e0v,h2,h3,hk,b7g,mixV]
noncomputable def Lf (n:Int) (v:FV):Prop:=∃ a b c,v=.lst [.int a,.int b,.int c]∧0≤c∧c≤n
theorem Lf.mono {n m:Int} {v:FV} (h:Lf n v) (k:n≤m):Lf m v:=by
 obtain ⟨a,b,c,h,h1,h2⟩:=h
 exact ⟨a,b,c,h,h1,by lia⟩
theorem a0v (d:Nat) {many n:Int} {v:FV} {Q:FV×FV→Prop} (hs:Lf n v) (hn:n < 1000000) (h1:0 < many) (h2:many < 1073741824)
  (q:∀ u v',0≤u→u < many→Lf (n + 1) v'→Q (.int u,v')):callW tb (d + 2) 15 [v,.int many] Q:=by
 obtain ⟨a,b,c,rfl,h3,h4⟩:=hs
 refine a0l (fd:=d4j) rfl rfl ?_
 have s1:a2h (c + 1)=true:=b3u (by lia) (by lia)
 have s2:a2h (c + 1 + 64)=true:=b3u (by lia) (by lia)
 by_cases ha:0 < a
 ·simp [d4j,d4p,ixN,ha,h1,h2]
  exact q _ _ (Int.emod_nonneg _ (by lia)) (Int.emod_lt_of_pos _ h1) ⟨_,_,_,rfl,by lia,by lia⟩
 ·simp [d4j,d4p,ixN,ha,h1,h2,d1o,s1,s2]
  exact q _ _ (Int.emod_nonneg _ (by lia)) (Int.emod_lt_of_pos _ h1) ⟨_,_,_,rfl,by lia,by lia⟩
theorem c7s (d:Nat) (ns:List Int) (k:Nat) {Q:FV×FV→Prop} (q:∀ v y,Lf 0 v→Q (v,y)):callW tb (d + 1) 14 [.scr ns,.int k] Q:=by
 refine a0l (fd:=d9e) rfl rfl ?_
 have h1:a2h 1000003=true:=by decide
 have h2:a2h 0=true:=by decide
 have h4:a2h 10=true:=by decide
 have h5:∀ r:Bool,a2h (if r=true then 1 else 0)=true:=by intro r; cases r <;> decide
 simp [d9e,e0u]
 split
 ·rename_i hk
  rw [a2d rfl (show (ns.map FV.int)[k]?=some (.int ns[k]) by simp [hk])]
  simp [h1,h4,h5,big]
  exact ⟨.inr (by by_cases hh:1000000000000000000≤(if ns[k] < 0 then -ns[k] else ns[k]) <;> simp only [hh,if_true,if_false] <;> decide),q _ _ ⟨_,_,_,rfl,by lia,by lia⟩⟩
 ·simp [h1,h2,h4,big]
  exact q _ _ ⟨_,_,_,rfl,by lia,by lia⟩
mutual
noncomputable def dF:D→FV
 | .non=>.non
 | .bl b=>.bl b
 | .int i=>.int i
 | .str x=>.str x
 | .tup xs=>.tup (dFs xs)
 | .lst xs=>.lst (dFs xs)
noncomputable def dFs:List D→List FV
 | []=>[]
 | x :: r=>dF x :: dFs r
end
theorem a3l:∀ xs:List D,dFs xs=xs.map dF
 | []=>rfl
 | x :: r=>by rw [dFs,a3l r]; rfl
mutual
noncomputable def dep:D→Nat
 | .tup xs=>b4w xs + 1
 | .lst xs=>b4w xs + 1
 | .non=>0 | .bl _=>0 | .int _=>0 | .str _=>0
noncomputable def b4w:List D→Nat
 | []=>0
 | x :: r=>max (dep x) (b4w r)
end
mutual
theorem b9t:∀ (x:D) (n:Nat),dep x < n→fD n (dF x)=some x
 | .non,0,h=>by lia
 | .non,n + 1,h=>rfl
 | .bl _,0,h=>by lia
 | .bl _,n + 1,h=>rfl
 | .int _,0,h=>by lia
 | .int _,n + 1,h=>rfl
 | .str _,0,h=>by lia
 | .str _,n + 1,h=>rfl
 | .tup xs,0,h=>by lia
 | .tup xs,n + 1,h=>by simp only [dF,fD]; rw [b9s xs n (by simp only [dep] at h; lia)]; rfl
 | .lst xs,0,h=>by lia
 | .lst xs,n + 1,h=>by simp only [dF,fD]; rw [b9s xs n (by simp only [dep] at h; lia)]; rfl
theorem b9s:∀ (xs:List D) (n:Nat),b4w xs < n→b6l (fD n) (dFs xs)=some xs
 | [],n,h=>rfl
 | x :: r,n,h=>by
  simp only [b4w] at h
  simp only [dFs,b6l,b9t x n (by lia),b9s r n (by lia),Option.bind_some,Option.map_some]
end
noncomputable def Vl (k p:Nat) (x:FV):Prop:=∃ d,x=dF d∧dep d≤p∧d.fit=true∧d.wt≤k
theorem Vl.all {k p:Nat}:∀ {xs:List FV},(∀ x∈xs,Vl k p x)→∃ ds:List D,xs=dFs ds∧b4w ds≤p∧D.fits ds=true∧D.wts ds≤ds.length * (k + 1)∧ds.length=xs.length
 | [],_=>⟨[],rfl,Nat.zero_le _,rfl,by simp [D.wts],rfl⟩
 | x :: r,h=>by
  obtain ⟨d,e,h1,h2,h3⟩:=h x (Γn ..)
  obtain ⟨ds,e',h1',h2',h3',h4'⟩:=Vl.all (xs:=r) fun y hy=>h y (Γh _ hy)
  refine ⟨d :: ds,by rw [e,e']; rfl,by simp only [b4w]; lia,by simp only [D.fits,h2,h2',Bool.and_self],?_,by simp [h4']⟩
  simp only [D.wts,List.length_cons,Nat.add_mul,Nat.one_mul]; lia
theorem Vl.tup {k p m:Nat} {xs:List FV} (h:∀ x∈xs,Vl k p x) (hl:xs.length≤m):Vl (m * (k + 1)) (p + 1) (.tup xs):=by
 obtain ⟨ds,e,h1,h2,h3,h4⟩:=Vl.all h
 refine ⟨.tup ds,by rw [e]; rfl,by simp only [dep]; lia,by simp only [D.fit,h2],?_⟩
 simp only [D.wt]
 exact Nat.le_trans h3 (Nat.mul_le_mul_right _ (by lia))
theorem Vl.lst {k p m:Nat} {xs:List FV} (h:∀ x∈xs,Vl k p x) (hl:xs.length≤m):Vl (m * (k + 1)) (p + 1) (.lst xs):=by
 obtain ⟨ds,e,h1,h2,h3,h4⟩:=Vl.all h
 refine ⟨.lst ds,by rw [e]; rfl,by simp only [dep]; lia,by simp only [D.fit,h2],?_⟩
 simp only [D.wt]
 exact Nat.le_trans h3 (Nat.mul_le_mul_right _ (by lia))
theorem Vl.int {i:Int} (h:-(2 ^ 40) < i) (h':i < 2 ^ 40):Vl 41 0 (.int i):=⟨.int i,rfl,Γi _,by simp only [D.fit,decide_eq_true_eq]; lia,by simp only [D.wt]; rw [if_pos ⟨h,h'⟩]; exact Γi _⟩
theorem Vl.bl {b:Bool}:Vl 0 0 (.bl b):=⟨.bl b,rfl,Γi _,rfl,Γi _⟩
theorem d2o {a b:D} (ha:dep a < 40) (hb:dep b < 40):eqF (dF a) (dF b)=some (D.eqv a b):=by
 have go:(fD a1e (dF a)).bind (fun x=>(fD a1e (dF b)).bind fun y=>some (D.eqv x y))=some (D.eqv a b):=by
  rw [b9t a a1e ha,b9t b a1e hb]; rfl
 unfold eqF
 split
 ·rename_i x y e1 e2; cases a <;> cases e1
 ·exact go
theorem b0g {α:Type} (xs:List α) (n:Nat):b2f xs (some (n:Int)) none=xs.drop n:=by
 have h:sIx xs.length 0 (some (n:Int))=min n xs.length:=by simp only [sIx]; rw [if_neg (by lia)]; simp
 unfold b2f
 rw [h]
 show (xs.drop (min n xs.length)).take (xs.length - min n xs.length)=_
 by_cases hn:n≤xs.length
 ·rw [Nat.min_eq_left hn,List.take_of_length_le (by simp)]
 ·rw [Nat.min_eq_right (by lia),List.drop_of_length_le (Γi _),List.drop_of_length_le (by lia)]; simp
theorem c5h {α:Type} (xs:List α) (n:Nat):b2f xs none (some (n:Int))=xs.take n:=by
 have h:sIx xs.length xs.length (some (n:Int))=min n xs.length:=by simp only [sIx]; rw [if_neg (by lia)]; simp
 unfold b2f
 rw [h]
 show (xs.drop 0).take (min n xs.length - 0)=_
 rw [List.drop_zero,Nat.sub_zero,List.take_eq_take_iff]; lia
mutual
theorem b0f:∀ x:D,D.eqv x x=true
 | .non=>rfl
 | .bl b=>by simp [D.eqv]
 | .int i=>by simp [D.eqv]
 | .str s=>by simp [D.eqv]
 | .tup xs=>by rw [D.eqv]; exact a7j xs
 | .lst xs=>by rw [D.eqv]; exact a7j xs
theorem a7j:∀ xs:List D,D.eqvs xs xs=true
 | []=>rfl
 | x :: r=>by rw [D.eqvs,b0f x,a7j r]; rfl
end
theorem c8k {k p:Nat} {x:FV} (h:Vl k p x) (hp:p < 40) (R:Bool→Prop):wp (eqF x x) R↔R true:=by
 obtain ⟨d,rfl,h1,-⟩:=h
 rw [d2o (by lia) (by lia),b0f]; exact Iff.rfl
theorem a3q {α β:Type} (f:α→FV) (g:β→FV):∀ (xs:List α) (ys:List β),a3w (xs.map f) (ys.map g)=(xs.zip ys).map fun p=>.tup [f p.1,g p.2]
 | [],ys=>rfl
 | x :: xs,[]=>rfl
 | x :: xs,y :: ys=>by
  show FV.tup [f x,g y] :: a3w (xs.map f) (ys.map g)=_
  rw [a3q f g xs ys]; rfl
abbrev Chg:=Nat×Nat×Int
noncomputable def a3a (c:Chg):FV:=.tup [.int c.1,.int c.2.1,.int c.2.2]
structure Gst (ws:List Int) (cs:List Chg):Prop where
 w:∀ x∈ws,1≤x
 c:∀ x∈cs,x.1 < ws.length∧x.2.1 < ws.length∧x.1≠x.2.1∧1≤x.2.2
 s:∀ x∈cs.zip (cs.drop 1),lexLt [(x.1.1:Int),x.1.2.1] [(x.2.1:Int),x.2.2.1]=true
noncomputable def a2w (ws:List Int) (cs:List Chg):FV:=.tup [.tup (ws.map .int),.tup (cs.map a3a)]
noncomputable def keyH (c:Chg):List Int:=[c.1,c.2.1]
noncomputable def a1d:Option Nat→FV | none=>.non | some a=>.int a
theorem b4g (d:Nat) {n g:Int} {v:FV} {Q:FV×FV→Prop} (hs:Lf n v) (h0:0≤n) (hn:n < 100000) (q:∀ s v',1≤s→s < 1000000000→Lf (n + 2) v'→Q (.int s,v')):callW tb (d + 3) 16 [v,.int g] Q:=by
 refine a0l (fd:=d9d) rfl rfl ?_
 simp [d9d,e0t,big]
 refine a0v d hs (by lia) (by decide) (by decide) fun u v1 u0 u1 l1=>?_
 simp
 have fin:wp (atF [FV.int 9,FV.int 9,FV.int 40,FV.int 3] u) fun z=>callW tb (d + 2) 15 [v1,z] fun z=>wp (a3s (FV.int 1) z.fst) fun z_1=>Q (z_1,z.snd):=by
  refine c5k u0 u1 ?_
  intro f hf
  obtain ⟨k,rfl,k0,k1⟩:∃ k:Int,f=.int k∧0 < k∧k≤40:=by
   simp at hf
   rcases hf with rfl | rfl | rfl | rfl <;> exact ⟨_,rfl,by decide,by decide⟩
  refine a0v d l1 (by lia) k0 (by lia) fun w v2 w0 w1 l2=>?_
  simp
  exact q _ _ (by lia) (by lia) (l2.mono (by lia))
 refine ite2 (fun h=>?_) (fun h=>fin)
 refine ite2 (fun h=>?_) (fun h=>fin)
 refine ⟨by decide,a0v d l1 (by lia) (by decide) (by decide) fun w v2 w0 w1 l2=>?_⟩
 simp
 exact q _ _ (by lia) (by lia) (l2.mono (by lia))
structure GsB (B:Int) (ws:List Int) (cs:List Chg):Prop where
 n:ws.length≤12
 w:∀ x∈ws,1≤x∧x < B
 c:∀ x∈cs,x.1 < ws.length∧x.2.1 < ws.length∧x.1≠x.2.1∧1≤x.2.2∧x.2.2 < B
 l:cs.length≤144
 d:(cs.map fun c=>(c.1,c.2.1)).Nodup
abbrev Gs:=GsB 2000000000
theorem GsB.mono {B C:Int} {ws:List Int} {cs:List Chg} (h:GsB B ws cs) (hb:B≤C):GsB C ws cs :=
 ⟨h.n,fun x hx=>⟨(h.w x hx).1,by have:=(h.w x hx).2; lia⟩,fun x hx=>let ⟨a,b,c,d,e⟩:=h.c x hx; ⟨a,b,c,d,by lia⟩,h.l,h.d⟩
noncomputable def prs (n:Nat):Nat→List (Nat×Nat)
 | 0=>[]
 | a + 1=>prs n a++(List.range n).map fun b=>(a,b)
theorem b7w {n:Nat}:∀ {a:Nat} {p:Nat×Nat},p∈prs n a→p.1 < a
 | 0,p,h=>by simp [prs] at h
 | a + 1,p,h=>by
  rcases List.mem_append.mp h with h | h
  ·have:=b7w h; lia
  ·obtain ⟨b,hb,rfl⟩:=List.mem_map.mp h; exact Nat.lt_succ_self _
theorem b2s (n:Nat):∀ a:Nat,(prs n a).length=a * n
 | 0=>by simp [prs]
 | a + 1=>by simp [prs,b2s n a,Nat.add_mul]
theorem b0y (n:Nat):∀ a:Nat,(prs n a).Nodup
 | 0=>by simp [prs]
 | a + 1=>by
  rw [prs,List.nodup_append]
  refine ⟨b0y n a,?_,?_⟩
  ·rw [List.nodup_iff_pairwise_ne,List.pairwise_map]
   exact List.nodup_range.imp fun h z=>h (by simpa using z)
  ·intro p hp q hq e
   obtain ⟨b,hb,rfl⟩:=List.mem_map.mp hq
   have:=b7w hp
   rw [e] at this
   exact Nat.lt_irrefl _ this
noncomputable def Ris (cs:List Chg):Prop:=cs.Pairwise fun x y=>x.1 < y.1 ∨ x.1=y.1∧x.2.1 < y.2.1
theorem c4p (n:Nat):∀ a:Nat,(prs n a).Pairwise fun x y=>x.1 < y.1 ∨ x.1=y.1∧x.2 < y.2
 | 0=>.nil
 | a + 1=>by
  rw [prs,List.pairwise_append]
  refine ⟨c4p n a,?_,?_⟩
  ·rw [List.pairwise_map]
   exact List.pairwise_lt_range.imp fun h=>.inr ⟨rfl,h⟩
  ·intro p hp q hq
   obtain ⟨b,hb,rfl⟩:=List.mem_map.mp hq
   exact .inl (b7w hp)
theorem c6r {n a:Nat} {cs:List Chg} (h:(cs.map fun c=>(c.1,c.2.1)).Sublist (prs n a)):Ris cs:=by
 have:=(c4p n a).sublist h
 rwa [List.pairwise_map] at this
theorem a6x (d:Nat) {n:Int} {v:FV} {m:Nat} {Q:FV×FV→Prop} (hs:Lf n v) (h0:0≤n) (hn:n < 10000) (hm:m≤12) (q:∀ (ws:List Int) (cs:List Chg) v',GsB 1000000100 ws cs→Ris cs→ws.length=m→Lf (n + 700) v'→Q (a2w ws cs,v')):callW tb (d + 4) 17 [v,.int m] Q:=by
 refine a0l (fd:=d9c) rfl rfl ?_
 simp [d9c,e0s,big]
 refine a0v (d + 1) hs (by lia) (by decide) (by decide) fun g v1 g0 g1 l1=>?_
 simp
 refine a0v (d + 1) l1 (by lia) (by decide) (by decide) fun o v2 o0 o1 l2=>?_
 simp
 refine ⟨a0i (by lia) (by lia),?_⟩
 rw [a3c]
 refine ⟨by simp; lia,?_⟩
 refine a5a (f:=fun i:Nat=>FV.int i) (I:=fun ds acc L=>∃ v',∃ xs:List Int,L=[some v',some (.int m),some (.int g),some (.int (1 + o)),none,none,none,none]∧acc=xs.map .int∧xs.length=ds.length∧(∀ x∈xs,1≤x∧x < 1000000100)∧Lf (n + 2 + 3 * ds.length) v') (List.range m) (List.range m) [] [] _ rfl ⟨v2,[],rfl,rfl,rfl,by simp,l2.mono (by simp; lia)⟩ ?_ ?_
 ·rintro ds x r acc L K e ⟨v',xs,rfl,rfl,hl,hx,lf⟩ k
  have hd:ds.length < 12:=by have:=congrArg List.length e; simp at this; lia
  simp
  refine b4g d lf (by lia) (by lia) fun s v4 s0 s1 l4=>?_
  simp [big]
  refine a0v (d + 1) l4 (by lia) (by decide) (by decide) fun b v5 b0 b1 l5=>?_
  simp
  refine c5k b0 b1 ?_
  intro f hf
  obtain ⟨k',rfl,k0,k1⟩:∃ k:Int,f=.int k∧0≤k∧k≤12:=by
   simp at hf
   rcases hf with rfl | rfl <;> exact ⟨_,rfl,by decide,by decide⟩
  simp
  refine k _ _ ⟨v5,xs++[s + k'],rfl,by simp,by simp [hl],?_,l5.mono (by simp; lia)⟩
  intro y hy
  rcases List.mem_append.mp hy with hy | hy
  ·exact hx y hy
  ·simp at hy; subst hy; lia
 ·rintro ys L ⟨v',ws,rfl,rfl,hl,hx,lf⟩
  simp only [List.length_range] at hl lf
  simp
  refine ⟨a0i (by lia) (by lia),?_⟩
  refine a1h (I:=fun a L=>∃ v' x y,∃ cs:List Chg,L=[some v',some (.int m),some (.int g),some (.int (1 + o)),some (.tup (ws.map .int)),some (.lst (cs.map a3a)),x,y]∧(∀ c∈cs,c.1 < m∧c.2.1 < m∧c.1≠c.2.1∧1≤c.2.2∧c.2.2 < 1000000100)∧(cs.map fun c=>(c.1,c.2.1)).Sublist (prs m a)∧Lf (n + 38 + 40 * a) v') m 0 _ ⟨v',_,_,[],rfl,by simp,by simp [prs],lf.mono (by lia)⟩ ?_ ?_
  ·rintro a L K - ha ⟨v',x,y,cs,rfl,hc,hsb,lf⟩ k
   simp
   refine ⟨a0i (by lia) (by lia),?_⟩
   refine a1h (I:=fun b L=>∃ v' y,∃ cs:List Chg,L=[some v',some (.int m),some (.int g),some (.int (1 + o)),some (.tup (ws.map .int)),some (.lst (cs.map a3a)),some (.int a),y]∧(∀ c∈cs,c.1 < m∧c.2.1 < m∧c.1≠c.2.1∧1≤c.2.2∧c.2.2 < 1000000100)∧(cs.map fun c=>(c.1,c.2.1)).Sublist (prs m a++(List.range b).map fun b=>(a,b))∧Lf (n + 38 + 40 * a + 3 * b) v') m 0 _ ⟨v',_,cs,rfl,hc,by simpa using hsb,lf.mono (by lia)⟩ ?_ ?_
   ·rintro b L K2 - hb ⟨v',y,cs,rfl,hc,hsb,lf⟩ k2
    have hcl:cs.length≤1000:=by
     have:=hsb.length_le
     simp [b2s] at this
     have:a * m≤12 * 12:=Nat.mul_le_mul (by lia) hm
     lia
    have hsb':(cs.map fun c=>(c.1,c.2.1)).Sublist (prs m a++(List.range (b + 1)).map fun b=>(a,b)):=by
     rw [List.range_succ,List.map_append,← List.append_assoc]
     exact hsb.trans (List.sublist_append_left _ _)
    have no:∀ v',Lf (n + 38 + 40 * a + 3 * b + 3) v'→K2 [some v',some (.int m),some (.int g),some (.int (1 + o)),some (.tup (ws.map .int)),some (.lst (cs.map a3a)),some (.int a),some (.int b)]:=fun v' l=>k2 _ ⟨v',_,cs,rfl,hc,hsb',l.mono (by lia)⟩
    simp
    refine ite2 (fun h=>?_) (fun h=>?_)
    ·exact no v' (lf.mono (by lia))
    ·refine a0v (d + 1) lf (by lia) (by lia) (by lia) fun u v4 u0 u1 l4=>?_
     simp
     refine ite2 (fun h2=>?_) (fun h2=>no v4 (l4.mono (by lia)))
     refine b4g d l4 (by lia) (by lia) fun s v5 s0 s1 l5=>?_
     simp [big]
     refine ⟨by lia,k2 _ ⟨v5,some (.int b),cs++[(a,b,s)],by simp [a3a],?_,?_,l5.mono (by lia)⟩⟩
     ·intro c hc'
      rcases List.mem_append.mp hc' with hc' | hc'
      ·exact hc c hc'
      ·simp at hc'; subst hc'
       exact ⟨by show a < m; lia,by show b < m; lia,by show a≠b; lia,s0,by show s < _; lia⟩
     ·rw [List.range_succ,List.map_append,List.map_append,← List.append_assoc]
      exact hsb.append (List.Sublist.refl _)
   ·rintro L ⟨v',y,cs,rfl,hc,hsb,lf⟩
    rw [Nat.zero_add] at hsb lf
    exact k _ ⟨v',_,_,cs,rfl,hc,hsb,lf.mono (by lia)⟩
  ·rintro L ⟨v',x,y,cs,rfl,hc,hsb,lf⟩
   rw [Nat.zero_add] at hsb lf
   have hcl:=hsb.length_le
   simp [b2s] at hcl
   have:m * m≤12 * 12:=Nat.mul_le_mul hm hm
   have:=q ws cs v' ⟨by lia,hx,by rw [hl]; exact hc,by lia,(b0y m m).sublist hsb⟩ (c6r hsb) hl (lf.mono (by lia))
   simpa [a2w] using this
noncomputable def okc (cs:List Chg) (m:Nat):FV→Bool
 | .non=>true
 | .int i=>decide ([i,(m:Int)]∈cs.map keyH)
 | _=>false
noncomputable def stp (ls:List (Option Nat)):Option Nat→Option Nat
 | none=>none
 | some a=>ls.getD a none
noncomputable def itr (ls:List (Option Nat)) (o:Option Nat):Nat→Option Nat
 | 0=>o
 | k + 1=>stp ls (itr ls o k)
theorem a4s {ls : List (Option Nat)} {o : Option Nat} {k : Nat} (h : itr ls o k = none) : ∀ j, k ≤ j → itr ls o j = none
  | 0, hj => by have : k = 0 := by lia
                subst this; exact h
  | j + 1, hj => by
    by_cases e : k = j + 1
    · subst e; exact h
    · rw [itr, a4s h j (by lia)]; rfl
noncomputable def a7f (ls:List (Option Nat)):Bool:=(List.range ls.length).all fun m=>(itr ls (some m) ls.length).isNone
noncomputable def toO:FV→Option Nat
 | .int i=>some i.toNat
 | _=>none
noncomputable def a5n (cs:List Chg) (xs:List FV):Bool:=((List.range xs.length).zip xs).all fun p=>okc cs p.1 p.2
noncomputable def c7v (n:Nat) (cs:List Chg):FV→Bool
 | .tup xs=>decide (xs.length=n) && (a5n cs xs && a7f (xs.map toO))
 | _=>false
noncomputable def Rst (cs:List Chg) (ls:List (Option Nat)):Prop:=∀ m a:Nat,ls[m]?=some (some a)→[(a:Int),(m:Int)]∈cs.map keyH
theorem b8e {cs:List Chg} {m:Nat} {x:FV} (h:okc cs m x=true):x=a1d (toO x)∧∀ a,toO x=some a→[(a:Int),(m:Int)]∈cs.map keyH:=by
 cases x with
 | non=>exact ⟨rfl,fun a e=>nomatch e⟩
 | int i =>
  have h:[i,(m:Int)]∈cs.map keyH:=of_decide_eq_true h
  obtain ⟨c,hc,e⟩:=List.mem_map.mp h
  have e1:(c.1:Int)=i:=by simpa [keyH] using congrArg (fun l=>l.head?) e
  have e2:((i.toNat:Nat):Int)=i:=by lia
  refine ⟨by show FV.int i=.int ((i.toNat:Nat):Int); rw [e2],fun a ea=>?_⟩
  cases ea
  rw [e2]; exact h
 | _=>cases h
theorem b4b {cs:List Chg} {xs:List FV} (h:a5n cs xs=true) {m:Nat} (hm:m < xs.length):okc cs m xs[m]=true:=by
 have:=List.all_eq_true.mp h (m,xs[m]) (by
  rw [List.mem_iff_getElem?]
  exact ⟨m,by simp [List.getElem?_zip_eq_some,hm]⟩)
 exact this
theorem b4a {cs:List Chg} {xs:List FV} (h:a5n cs xs=true):xs=(xs.map toO).map a1d∧Rst cs (xs.map toO):=by
 refine ⟨?_,fun m a e=>?_⟩
 ·apply List.ext_getElem
  ·simp
  ·intro i h1 h2
   simp only [List.getElem_map]
   exact (b8e (b4b h h1)).1
 ·rw [List.getElem?_map] at e
  obtain ⟨x,e1,e2⟩:=Option.map_eq_some_iff.mp e
  obtain ⟨hm,rfl⟩:=List.getElem?_eq_some_iff.mp e1
  exact (b8e (b4b h hm)).2 a e2
theorem c4n {cs:List Chg} {ls:List (Option Nat)} (h:Rst cs ls):a5n cs (ls.map a1d)=true:=by
 unfold a5n
 rw [List.all_eq_true]
 intro p hp
 obtain ⟨j,hj⟩:=List.mem_iff_getElem?.mp hp
 obtain ⟨h1,h2⟩:=List.getElem?_zip_eq_some.mp hj
 have hi:p.1=j:=by have:=(List.getElem?_eq_some_iff.mp h1).2; simpa using this.symm
 rw [List.getElem?_map] at h2
 obtain ⟨o,e1,e2⟩:=Option.map_eq_some_iff.mp h2
 rw [← e2,hi]
 cases o with
 | none=>rfl
 | some a=>exact decide_eq_true (h j a e1)
theorem c5u (o:Option Nat):toO (a1d o)=o:=by cases o <;> rfl
theorem b8m (ls:List (Option Nat)):(ls.map a1d).map toO=ls:=by
 rw [List.map_map]
 conv=>rhs; rw [← List.map_id ls]
 apply List.map_congr_left
 intro o _; exact c5u o
theorem Gs.keys {ws:List Int} {cs:List Chg} (h:Gs ws cs):(cs.map keyH).Nodup:=by
 have:cs.map keyH=(cs.map fun c=>(c.1,c.2.1)).map fun p:Nat×Nat=>[(p.1:Int),(p.2:Int)]:=by
  rw [List.map_map]; rfl
 rw [this,List.nodup_iff_pairwise_ne,List.pairwise_map]
 exact h.d.imp fun hh z=>hh (by
  simp only [List.cons.injEq] at z
  exact Prod.ext (by lia) (by lia))
theorem Gs.rst {ws:List Int} {cs:List Chg} (h:Gs ws cs) {ls:List (Option Nat)} (hr:Rst cs ls) {m a:Nat} (e:ls[m]?=some (some a)):a < ws.length:=by
 obtain ⟨c,hc,e⟩:=List.mem_map.mp (hr m a e)
 have:=(h.c c hc).1
 simp [keyH] at e
 lia
theorem b0t (d:Nat) {ws:List Int} {cs:List Chg} (h:Gs ws cs) {Q:FV×FV→Prop} (q:Q (.dct (cs.map keyH) (cs.map fun c=>.int c.2.2),.non)):callW tb (d + 1) 6 [a2w ws cs] Q:=by
 have hc:=h.l
 refine a0l (fd:=fd6) rfl rfl ?_
 simp [fd6,bd6,a2w,big]
 refine ⟨by lia,?_⟩
 refine b1v (f:=a3a) (g:=keyH) (h:=fun c=>.int c.2.2) cs [] [] (by simp) (by simpa using h.keys) (fun x hx K k=>?_) (by simpa using q)
 simp [a3a,big]
 exact k
theorem a1o (ws:List Int) (cs:List Chg) (Q:List FV→Prop):wp (a3v (a2w ws cs)) Q↔Q [.tup (ws.map .int),.tup (cs.map a3a)]:=Iff.rfl
theorem a6a {ls:List (Option Nat)} {i:Nat} (hi:i < ls.length) (Q:FV→Prop):wp (atF (ls.map a1d) (i:Int)) Q↔Q (a1d (ls.getD i none)) :=
 a2d rfl (by rw [List.getElem?_map,List.getElem?_eq_getElem hi]; simp [List.getD,hi])
theorem b9d {ws:List Int} {cs:List Chg} (h:Gs ws cs) {ls:List (Option Nat)} (hr:Rst cs ls) (hl:ls.length=ws.length) {m:Nat} (hm:m < ls.length):∀ k a,itr ls (some m) k=some a→a < ls.length
 | 0,a,e=>by cases e; exact hm
 | k + 1,a,e=>by
  rw [itr] at e
  cases e1:itr ls (some m) k with
  | none=>rw [e1] at e; cases e
  | some b =>
   rw [e1] at e
   have hb:=b9d h hr hl hm k b e1
   have e:ls.getD b none=some a:=e
   rw [List.getD,List.getElem?_eq_getElem hb] at e
   have:=h.rst hr (m:=b) (a:=a) (by rw [List.getElem?_eq_getElem hb]; exact congrArg some e)
   lia
theorem c3t (d:Nat) {ws:List Int} {cs:List Chg} (h:Gs ws cs) {ls:List (Option Nat)} (hr:Rst cs ls) (hl:ls.length=ws.length) {m:Nat} (hm:m < ls.length) {Q:FV×FV→Prop} (q:Q (.bl (itr ls (some m) ls.length).isNone,.non)):callW tb (d + 1) 5 [.tup (ls.map a1d),.int m] Q:=by
 have hn:=h.n
 refine a0l (fd:=fd5) rfl rfl ?_
 simp [fd5,bd5]
 rw [a6a hm]
 refine ⟨a0i (by lia) (by lia),?_⟩
 refine a1h (I:=fun j L=>∃ a,L=[some (.tup (ls.map a1d)),some (.int m),some (a1d (itr ls (some m) (j + 1))),a]∧(itr ls (some m) j).isSome=true) ls.length 0 _ ⟨_,rfl,rfl⟩ ?_ ?_
 ·rintro j L K - hj ⟨a,rfl,hs⟩ k
  cases e:itr ls (some m) (j + 1) with
  | none =>
   have:=a4s e ls.length (by lia)
   rw [this] at q
   simpa [a1d] using q
  | some p =>
   have hp:=b9d h hr hl hm _ p e
   simp [a1d]
   rw [a6a hp]
   refine k _ ⟨some (.int j),?_,by rw [e]; rfl⟩
   rw [itr,e]; rfl
 ·rintro L ⟨a,rfl,hs⟩
  rw [Nat.zero_add] at hs
  rw [Option.isNone_eq_false_iff.mpr hs] at q
  simpa using q
theorem a5o (d:Nat) (x:D) (Q:FV×FV→Prop):callW tb (d + 1) 2 [dF x] Q↔Q (.bl (match x with | .int _=>true | _=>false),.non):=by
 rw [b0i (fd:=fd2) rfl rfl]
 cases x <;> simp [fd2,bd2,dF]
theorem c5t (d:Nat) (x:D) (n:Nat) (Q:FV×FV→Prop):callW tb (d + 1) 3 [dF x,.int n] Q↔Q (.bl (match x with | .tup xs=>decide (xs.length=n) | _=>false),.non):=by
 rw [b0i (fd:=fd3) rfl rfl]
 have e:∀ a b:Nat,((a:Int) == (b:Int))=decide (a=b):=fun a b=>by
  rw [Bool.eq_iff_iff,beq_iff_eq,decide_eq_true_eq]; lia
 cases x <;> simp [fd3,bd3,dF,a3l,e]
theorem d1l {cs:List Chg} {xs:List FV} {ds r:List (Nat×FV)} {p:Nat×FV} (e:(List.range xs.length).zip xs=ds++p :: r) (h:okc cs p.1 p.2=false):a5n cs xs=false:=by
 rw [a5n,e,List.all_eq_false]
 exact ⟨p,by simp,by rw [h]; exact Γk⟩
theorem c4c (ds:List D):a3w (upF 0 (ds.map dF).length) (ds.map dF)=((List.range ds.length).zip ds).map fun p:Nat×D=>FV.tup [.int p.1,dF p.2]:=by
 rw [a3c,a3q,List.length_map]
theorem a8u (ds:List D):(List.range (ds.map dF).length).zip (ds.map dF)=((List.range ds.length).zip ds).map fun p=>(p.1,dF p.2):=by
 rw [List.length_map]
 apply List.ext_getElem
 ·simp
 ·intro i h1 h2; simp
theorem d1z (d:Nat) {ws:List Int} {cs:List Chg} (h:Gs ws cs) (x:D) {Q:FV×FV→Prop} (q:Q (.bl (c7v ws.length cs (dF x)),.non)):callW tb (d + 2) 4 [a2w ws cs,dF x] Q:=by
 have hn:=h.n
 refine a0l (fd:=fd4) rfl rfl ?_
 simp [fd4,bd4,a1o]
 rw [c5t]
 cases x with
 | tup ds =>
  simp
  by_cases hl:ds.length=ws.length
  ·simp [hl]
   refine b0t d h ?_
   simp [dF,a3l]
   rw [← List.length_map (f:=dF),c4c]
   have qq:∀ b,b=c7v ws.length cs (dF (.tup ds))→Q (.bl b,.non):=fun b e=>by rw [e]; exact q
   simp only [dF,a3l,c7v,List.length_map,hl,decide_true,Bool.true_and] at qq
   refine a3f (f:=fun p:Nat×D=>FV.tup [.int p.1,dF p.2]) (I:=fun e L=>(∀ p∈e,okc cs p.1 (dF p.2)=true)∧∃ a b,L=[some (a2w ws cs),some (.tup (ds.map dF)),some (.int ws.length),some (.dct (cs.map keyH) (cs.map fun c=>.int c.2.2)),a,b]) ((List.range ds.length).zip ds) ((List.range ds.length).zip ds) [] _ rfl ⟨by simp,_,_,rfl⟩ ?_ ?_
   ·rintro e ⟨m,x⟩ r L K ez ⟨he,a,b,rfl⟩ k
    have no:okc cs m (dF x)=false→Q (.bl false,.non):=fun hf=>by
     refine qq _ ?_
     rw [d1l (cs:=cs) (xs:=ds.map dF) (ds:=e.map fun p=>(p.1,dF p.2)) (r:=r.map fun p=>(p.1,dF p.2)) (p:=(m,dF x)) (by rw [a8u,ez]; simp) hf]; rfl
    have yes:okc cs m (dF x)=true→K [some (a2w ws cs),some (.tup (ds.map dF)),some (.int ws.length),some (.dct (cs.map keyH) (cs.map fun c=>.int c.2.2)),some (.int m),some (dF x)]:=fun ht=>k _ ⟨fun p hp=>by
     rcases List.mem_append.mp hp with hp | hp
     ·exact he p hp
     ·simp at hp; rw [hp]; exact ht,_,_,rfl⟩
    cases x with
    | non=>simp [dF] at yes ⊢; exact yes rfl
    | int i =>
     by_cases hk:[i,(m:Int)]∈cs.map keyH
     ·have y:=yes (decide_eq_true hk)
      have nb:=a5o d (.int i)
      simp only [dF] at y nb ⊢
      simp [nb,big,hk]
      exact y
     ·have y:=no (decide_eq_false hk)
      have nb:=a5o d (.int i)
      simp only [dF] at nb ⊢
      simp [nb,big,hk]
      exact y
    | bl b =>
     have y:=no rfl
     have nb:=a5o d (.bl b)
     simp only [dF] at nb ⊢
     simp [nb]
     exact y
    | str b =>
     have y:=no rfl
     have nb:=a5o d (.str b)
     simp only [dF] at nb ⊢
     simp [nb]
     exact y
    | tup b =>
     have y:=no rfl
     have nb:=a5o d (.tup b)
     simp only [dF] at nb ⊢
     simp [nb]
     exact y
    | lst b =>
     have y:=no rfl
     have nb:=a5o d (.lst b)
     simp only [dF] at nb ⊢
     simp [nb]
     exact y
   ·rintro L ⟨he,a,b,rfl⟩
    have ok:a5n cs (ds.map dF)=true:=by
     rw [a5n,a8u,List.all_eq_true]
     intro p hp
     obtain ⟨q,hq,rfl⟩:=List.mem_map.mp hp
     exact he q hq
    obtain ⟨e1,hr⟩:=b4a ok
    rw [ok,Bool.true_and] at qq
    generalize (ds.map dF).map toO=ls at e1 hr qq
    have hll:ls.length=ws.length:=by rw [← hl,← List.length_map (f:=dF) (as:=ds),e1,List.length_map]
    rw [e1]
    simp
    refine ⟨a0i (by lia) (by lia),?_⟩
    rw [a3c]
    refine ⟨by simp [big]; lia,?_⟩
    refine a1a (f:=fun i:Nat=>FV.int i) (g:=fun m=>.bl (itr ls (some m) ls.length).isNone) (List.range ws.length) [] (fun i hi K k=>?_) ?_
    ·have hi:=List.mem_range.mp hi
     simp
     exact c3t d h hr hll (by lia) k
    rw [List.nil_append]
    simp [a3n]
    exact qq _ (by rw [a7f,hll])
  ·simp [hl]
   have:c7v ws.length cs (dF (.tup ds))=false:=by simp [dF,a3l,c7v,hl]
   rw [this] at q; exact q
 | _=>simp; exact q
theorem a5l {α:Type}:∀ (ps:List (List Int×α)) (ks:List (List Int)) (vs:List α),(ks++ps.map (·.1)).Nodup→a1l ps ks vs=(ks++ps.map (·.1),vs++ps.map (·.2))
 | [],ks,vs,_=>by simp [a1l]
 | p :: r,ks,vs,h=>by
  have hp:p.1 ∉ ks:=fun z=>by
   rw [List.nodup_append] at h
   exact h.2.2 p.1 z p.1 (by simp) rfl
  have e:a2o ks vs p.1 p.2=(ks++[p.1],vs++[p.2]):=by rw [a2o,if_neg hp]
  rw [a1l,e,a5l r _ _ (by simpa using h)]
  simp
theorem a6t:∀ cs:List Chg,a8e (cs.map fun c=>FV.tup [.tup [.int c.1,.int c.2.1],.int c.2.2])=some (cs.map fun c=>(keyH c,FV.int c.2.2))
 | []=>rfl
 | c :: r=>by
  rw [List.map_cons,a8e,a6t r]; rfl
theorem a6y (d:Nat) {ws:List Int} {cs:List Chg} (h:Gs ws cs) {Q:FV×FV→Prop} (q:Q (.dct (cs.map keyH) (cs.map fun c=>.int c.2.2),.non)):callW tb (d + 1) 20 [a2w ws cs] Q:=by
 have hc:=h.l
 refine a0l (fd:=d8z) rfl rfl ?_
 simp [d8z,d4o,a1o]
 refine ⟨by simp [big]; lia,?_⟩
 refine a1a (f:=a3a) (g:=fun c=>FV.tup [.tup [.int c.1,.int c.2.1],.int c.2.2]) cs [] (fun x hx K k=>?_) ?_
 ·simp [a3a,big]
  exact k
 ·rw [List.nil_append,a6t,a5g,a5l _ [] [] (by simpa [List.map_map,Function.comp_def] using h.keys)]
  simpa [List.map_map,Function.comp_def] using q
theorem c7p (d:Nat) {ws:List Int} {cs:List Chg} (h:Gs ws cs) (ds:List D) (hl:ds.length=ws.length) (hk:∀ x∈ds,x=.non ∨ ∃ i,x=.int i) {Q:FV×FV→Prop} (q:Q (.bl (a5n cs (ds.map dF) && a7f ((ds.map dF).map toO)),.non)):callW tb (d + 2) 24 [a2w ws cs,.tup (ds.map dF)] Q:=by
 have hn:=h.n
 refine a0l (fd:=d8v) rfl rfl ?_
 simp [d8v,e0m]
 refine a6y d h ?_
 simp
 rw [← List.length_map (f:=dF),c4c]
 refine ⟨by simp [big]; lia,?_⟩
 refine a1a (f:=fun p:Nat×D=>FV.tup [.int p.1,dF p.2]) (g:=fun p=>.bl (!okc cs p.1 (dF p.2))) ((List.range ds.length).zip ds) [] (fun p hp K k=>?_) ?_
 ·obtain ⟨m,x⟩:=p
  rcases hk x (List.of_mem_zip hp).2 with rfl | ⟨i,rfl⟩
  ·simpa [dF,okc] using k
  ·simpa [dF,okc,big] using k
 rw [List.nil_append]
 simp [a3n]
 have e0:a5n cs (ds.map dF)=((List.range ds.length).zip ds).all fun p=>okc cs p.1 (dF p.2):=by
  rw [a5n,a8u,List.all_map]; rfl
 by_cases ok:a5n cs (ds.map dF)=true
 ·rw [if_neg (by
   intro hm
   obtain ⟨p,hp,hf⟩:=List.mem_map.mp hm
   rw [e0,List.all_eq_true] at ok
   have:=ok p hp
   rw [this] at hf; cases hf)]
  obtain ⟨e1,hr⟩:=b4a ok
  rw [ok,Bool.true_and] at q
  generalize (ds.map dF).map toO=ls at e1 hr q
  have hll:ls.length=ws.length:=by rw [← hl,← List.length_map (f:=dF) (as:=ds),e1,List.length_map]
  have hdl:ds.length=ls.length:=by lia
  rw [e1,hdl]
  refine ⟨a0i (by lia) (by lia),?_⟩
  refine a1h (I:=fun j L=>(∀ m,m < j→(itr ls (some m) ls.length).isNone=true)∧∃ a b c,L=[some (a2w ws cs),some (.tup (ls.map a1d)),some (.dct (cs.map keyH) (cs.map fun c=>.int c.2.2)),a,b,c]) ls.length 0 _ ⟨by lia,_,_,_,rfl⟩ ?_ ?_
  ·rintro m L K - hm ⟨hd,a,b,c,rfl⟩ k
   simp
   refine ⟨a0i (by lia) (by lia),?_⟩
   refine a1h (I:=fun j L=>∃ c,L=[some (a2w ws cs),some (.tup (ls.map a1d)),some (.dct (cs.map keyH) (cs.map fun c=>.int c.2.2)),some (.int m),some (a1d (itr ls (some m) j)),c]) ls.length 0 _ ⟨_,rfl⟩ ?_ ?_
   ·rintro j L K2 - hj ⟨c,rfl⟩ k2
    cases e:itr ls (some m) j with
    | none =>
     simp [a1d]
     exact k2 _ ⟨_,by rw [itr,e]; rfl⟩
    | some p =>
     have hp:=b9d h hr hll (by lia) _ p e
     simp [a1d]
     rw [a6a hp]
     exact k2 _ ⟨_,by rw [itr,e]; rfl⟩
   ·rintro L ⟨c,rfl⟩
    rw [Nat.zero_add]
    cases e:itr ls (some m) ls.length with
    | none =>
     simp [a1d]
     refine k _ ⟨fun m' hm'=>?_,_,_,_,rfl⟩
     by_cases z:m'=m
     ·subst z; rw [e]; rfl
     ·exact hd m' (by lia)
    | some p =>
     have:a7f ls=false:=by
      rw [a7f,List.all_eq_false]
      exact ⟨m,List.mem_range.mpr (by lia),by rw [e]; exact Γk⟩
     rw [this] at q
     simp [a1d]
     exact q
  ·rintro L ⟨hd,a,b,c,rfl⟩
   have:a7f ls=true:=by
    rw [a7f,List.all_eq_true]
    intro m hm
    exact hd m (by have:=List.mem_range.mp hm; lia)
   rw [this] at q
   simpa using q
 ·rw [if_pos (by
   rw [e0,← Bool.not_eq_false,Classical.not_not] at ok
   obtain ⟨p,hp,hf⟩:=List.all_eq_false.mp ok
   exact List.mem_map.mpr ⟨p,hp,by simpa using hf⟩)]
  rw [Bool.eq_false_iff.mpr ok,Bool.false_and] at q
  exact q
theorem a1x (ls:List (Option Nat)) (o:Option Nat):∀ k,itr ls o (k + 1)=itr ls (stp ls o) k
 | 0=>rfl
 | k + 1=>by rw [itr,a1x ls o k]; rfl
theorem b9c (ls:List (Option Nat)):∀ k,itr ls none k=none
 | 0=>rfl
 | k + 1=>by rw [itr,b9c ls k]; rfl
theorem c7y {α β:Type} (f:α→β) (xs:List α) (k:Nat) (y:α):b5u (xs.map f) k (f y)=(b5u xs k y).map f:=by simp [b5u,List.map_take,List.map_drop]
theorem c3b {α:Type} (xs:List α) (k:Nat) (y:α):(b5u xs k y).Perm (y :: xs):=by
 have:=List.perm_middle (a:=y) (l₁:=xs.take k) (l₂:=xs.drop k)
 rwa [List.take_append_drop] at this
inductive Way (ls:List (Option Nat)):Nat→List Nat→Prop
 | root {m:Nat}:ls.getD m none=none→Way ls m [m]
 | step {m a:Nat} {l:List Nat}:ls.getD m none=some a→Way ls a l→Way ls m (l++[m])
theorem Way.uniq {ls:List (Option Nat)} {m:Nat} {l l':List Nat} (h:Way ls m l) (h':Way ls m l'):l=l':=by
 induction h generalizing l' with
 | root e=>cases h' with
  | root _=>rfl
  | step e' _=>rw [e] at e'; cases e'
 | step e _ ih=>cases h' with
  | root e'=>rw [e] at e'; cases e'
  | step e' t=>rw [e] at e'; cases e'; rw [ih t]
theorem Way.ne {ls:List (Option Nat)} {m:Nat} {l:List Nat} (h:Way ls m l):l≠[]:=by
 cases h with
 | root _=>simp
 | step _ _=>simp
theorem Way.pos {ls:List (Option Nat)} {m:Nat} {l:List Nat} (h:Way ls m l):1≤l.length:=by
 have:=h.ne
 cases l with
 | nil=>exact absurd rfl this
 | cons x r=>simp
theorem b6u {ls:List (Option Nat)}:∀ (k m:Nat),itr ls (some m) k=none→∃ l,Way ls m l∧l.length≤k
 | 0,m,h=>by cases h
 | k + 1,m,h=>by
  rw [a1x] at h
  cases e:ls.getD m none with
  | none=>exact ⟨[m],.root e,by simp⟩
  | some a =>
   have h:itr ls (ls.getD m none) k=none:=h
   rw [e] at h
   obtain ⟨l,w,hl⟩:=b6u k a h
   exact ⟨l++[m],.step e w,by simp; lia⟩
theorem c3f {ls:List (Option Nat)} (h:a7f ls=true) {m:Nat} (hm:m < ls.length):∃ l,Way ls m l∧l.length≤ls.length:=by
 have:=List.all_eq_true.mp h m (List.mem_range.mpr hm)
 exact b6u _ m (Option.isNone_iff_eq_none.mp this)
theorem Way.lt {ws:List Int} {cs:List Chg} (h:Gs ws cs) {ls:List (Option Nat)} (hr:Rst cs ls) (hl:ls.length=ws.length) {m:Nat} {l:List Nat} (w:Way ls m l) (hm:m < ls.length):∀ i∈l,i < ls.length:=by
 induction w with
 | root _=>intro i hi; simp at hi; lia
 | @step m a l e _ ih =>
  have ha:a < ls.length:=by
   rw [List.getD,List.getElem?_eq_getElem hm] at e
   have:=h.rst hr (m:=m) (a:=a) (by rw [List.getElem?_eq_getElem hm]; exact congrArg some e)
   lia
  intro i hi
  rcases List.mem_append.mp hi with hi | hi
  ·exact ih ha i hi
  ·simp at hi; lia
theorem Way.head {ls:List (Option Nat)} {m:Nat} {l:List Nat} (w:Way ls m l):∃ r t,l=r :: t∧ls.getD r none=none∧(r=m→t=[]):=by
 induction w with
 | root e=>exact ⟨_,[],rfl,e,fun _=>rfl⟩
 | @step m a l e _ ih =>
  obtain ⟨r,t,rfl,h1,h2⟩:=ih
  exact ⟨r,t++[m],rfl,h1,fun z=>by rw [z,e] at h1; cases h1⟩
noncomputable def b6m (l:List Nat):List FV:=l.map fun i:Nat=>FV.int i
theorem c5m (d:Nat) {ws:List Int} {cs:List Chg} (h:Gs ws cs) {ls:List (Option Nat)} (hr:Rst cs ls) (hl:ls.length=ws.length) {m:Nat} {l:List Nat} (w:Way ls m l) (hm:m < ls.length) (hb:l.length≤12) {Q:FV×FV→Prop} (q:Q (.tup (b6m l),.non)):callW tb (d + 1) 9 [.tup (ls.map a1d),.int m] Q:=by
 refine a0l (fd:=fd9) rfl rfl ?_
 simp [fd9,bd9,big]
 rw [a6a hm]
 refine while_by (I:=fun t L=>∃ (o:Option Nat) (out:List Nat),L=[some (.tup (ls.map a1d)),some (.int m),some (.lst (out.map fun i:Nat=>.int i)),some (a1d o)]∧out.length + t≤12∧(match o with | none=>l=out.reverse | some p=>p < ls.length∧∃ l',Way ls p l'∧t=l'.length∧l=l'++out.reverse)) ?_ (m:=l.length - 1) ⟨ls.getD m none,[m],rfl,by have:=w.pos; simp; lia,?_⟩
 ·rintro t L K ⟨o,out,eL,hol,ho⟩ k
  subst eL
  cases o with
  | none =>
   dsimp only at ho
   simp [a1d]
   simpa [b6m,ho] using q
  | some p =>
   obtain ⟨hp,l',w',ht,hw⟩:=ho
   have hpos:=w'.pos
   simp [a1d,big]
   refine ⟨by lia,?_⟩
   rw [a6a hp]
   refine k (t - 1) _ (by lia) ⟨ls.getD p none,out++[p],by simp,by simp; lia,?_⟩
   cases w' with
   | root e =>
    rw [e]
    show l=_
    rw [hw]; simp
   | @step _ a l2 e w2 =>
    rw [e]
    refine ⟨?_,l2,w2,by simp at ht; lia,by rw [hw]; simp⟩
    rw [List.getD,List.getElem?_eq_getElem hp] at e
    have:=h.rst hr (m:=p) (a:=a) (by rw [List.getElem?_eq_getElem hp]; exact congrArg some e)
    lia
 ·cases w with
  | root e=>rw [e]; rfl
  | @step _ a l2 e w2 =>
   rw [e]
   refine ⟨?_,l2,w2,by simp,by simp⟩
   rw [List.getD,List.getElem?_eq_getElem hm] at e
   have:=h.rst hr (m:=m) (a:=a) (by rw [List.getElem?_eq_getElem hm]; exact congrArg some e)
   lia
theorem c7o (d:Nat) {ws:List Int} {cs:List Chg} (h:Gs ws cs) {ls:List (Option Nat)} (hr:Rst cs ls) (hl:ls.length=ws.length) {m:Nat} {l:List Nat} (w:Way ls m l) (hm:m < ls.length) (hb:l.length≤12) {Q:FV×FV→Prop} (q:Q (.lst (b6m l),.non)):callW tb (d + 1) 21 [.tup (ls.map a1d),.int m] Q:=by
 refine a0l (fd:=d8y) rfl rfl ?_
 simp [d8y,e0p,big]
 refine while_by (I:=fun t L=>∃ (p:Nat) (r l':List Nat),L=[some (.tup (ls.map a1d)),some (.int m),some (.lst ((p :: r).map fun i:Nat=>.int i))]∧p < ls.length∧Way ls p l'∧t=l'.length∧l=l'++r) ?_ (m:=l.length) ⟨m,[],l,rfl,hm,w,rfl,by simp⟩
 rintro t L K ⟨p,r,l',eL,hp,w',ht,hw⟩ k
 subst eL
 simp
 rw [a6a hp]
 cases w' with
 | root e =>
  rw [e]
  simp [a1d]
  simpa [b6m,hw] using q
 | @step _ a l2 e w2 =>
  rw [e]
  have hle:r.length≤12:=by rw [hw] at hb; simp at hb; lia
  simp [a1d]
  rw [a6a hp,e]
  simp [a1d,big]
  refine And.intro (by lia) ?_
  refine k l2.length _ (by rw [ht]; simp) ⟨a,p :: r,l2,by simp [b5u],?_,w2,rfl,by rw [hw]; simp⟩
  rw [List.getD,List.getElem?_eq_getElem hp] at e
  have:=h.rst hr (m:=p) (a:=a) (by rw [List.getElem?_eq_getElem hp]; exact congrArg some e)
  lia
noncomputable def a2t (cs:List Chg) (m:Nat):List (Option Nat):=none :: (cs.filter fun c=>decide (c.2.1=m)).map fun c=>some c.1
noncomputable def c3c (b:List (Option Nat)) (o:Option Nat):Prop:=∃ k,itr b o k=some b.length
noncomputable def ends (b:List (Option Nat)) (o:Option Nat):Prop:=∃ k,itr b o k=none
noncomputable def acy (b:List (Option Nat)):Prop:=∀ i,i < b.length→ends b (some i)
noncomputable def clB (b:List (Option Nat)) (o:Option Nat):Bool:=open Classical in decide (c3c b o)
noncomputable def acB (b:List (Option Nat)):Bool:=open Classical in decide (acy b)
noncomputable def a5x (cs:List Chg):Nat→List (List (Option Nat))
 | 0=>[[]]
 | m + 1=>(a5x cs m).flatMap fun b=>((a2t cs m).filter fun o=>!clB b o).map fun o=>b++[o]
noncomputable def a4b (ch:Nat→List (Option Nat)):Nat→List (List (Option Nat))
 | 0=>[[]]
 | m + 1=>(a4b ch m).flatMap fun b=>(ch m).map fun o=>b++[o]
theorem a3p (b:List (Option Nat)) (o:Option Nat):∀ x,(x≠some b.length→stp (b++[o]) x=stp b x)∧stp (b++[o]) (some b.length)=o∧stp b (some b.length)=none:=by
 intro x
 refine ⟨fun h=>?_,by simp [stp],by simp [stp]⟩
 cases x with
 | none=>rfl
 | some a =>
  have ha:a≠b.length:=fun z=>h (by rw [z])
  simp only [stp,List.getD]
  by_cases hl:a < b.length
  ·rw [List.getElem?_append_left hl]
  ·rw [List.getElem?_append_right (by lia),List.getElem?_eq_none (by simp; lia),List.getElem?_eq_none (by lia)]
theorem a9x (b:List (Option Nat)) (o x:Option Nat):∀ k,itr b x k=itr (b++[o]) x k ∨ itr b x k=none
 | 0=>.inl rfl
 | k + 1=>by
  rw [itr,itr]
  rcases a9x b o x k with h | h
  ·rw [← h]
   by_cases z:itr b x k=some b.length
   ·rw [z]; exact .inr (a3p b o none).2.2
   ·exact .inl ((a3p b o _).1 z).symm
  ·rw [h]; exact .inr rfl
theorem b3b (b:List (Option Nat)) (x:Option Nat) (j:Nat):∀ k,itr b x (j + k)=itr b (itr b x j) k
 | 0=>rfl
 | k + 1=>by rw [← Nat.add_assoc,itr,b3b b x j k]; rfl
theorem b8h {b:List (Option Nat)} {o x:Option Nat} (h:∀ k,itr b x k≠some b.length):∀ k,itr (b++[o]) x k=itr b x k
 | 0=>rfl
 | k + 1=>by rw [itr,itr,b8h h k,(a3p b o _).1 (h k)]
theorem b4r {b:List (Option Nat)} (h:acy b) {o:Option Nat}:ends b o:=by
 cases o with
 | none=>exact ⟨0,rfl⟩
 | some a =>
  by_cases ha:a < b.length
  ·exact h a ha
  ·refine ⟨1,?_⟩
   simp only [itr,stp,List.getD]
   rw [List.getElem?_eq_none (by lia)]; rfl
theorem c3y (b:List (Option Nat)) (o:Option Nat):acy (b++[o])↔acy b∧¬ c3c b o:=by
 have hl:(b++[o]).length=b.length + 1:=by simp
 constructor
 ·intro h
  refine ⟨fun i hi=>?_,fun ⟨k,hk⟩=>?_⟩
  ·obtain ⟨k,hk⟩:=h i (by lia)
   refine ⟨k,?_⟩
   rcases a9x b o (some i) k with e | e
   ·rw [e,hk]
   ·exact e
  ·have h1:itr (b++[o]) o k=some b.length:=by
    rcases a9x b o o k with e | e
    ·rw [← e,hk]
    ·rw [e] at hk; cases hk
   have h2:itr (b++[o]) (some b.length) (k + 1)=some b.length:=by
    rw [a1x,(a3p b o none).2.1,h1]
   have h3:∀ j,itr (b++[o]) (some b.length) (j * (k + 1))=some b.length:=by
    intro j
    induction j with
    | zero=>rw [Nat.zero_mul]; rfl
    | succ j ih=>rw [Nat.add_mul,Nat.one_mul,b3b,ih,h2]
   obtain ⟨n,hn⟩:=h b.length (by lia)
   have:=a4s hn (n * (k + 1)) (Nat.le_mul_of_pos_right n (Nat.succ_pos k))
   rw [h3] at this; cases this
 ·rintro ⟨h,hh⟩
  have hh':∀ k,itr b o k≠some b.length:=fun k z=>hh ⟨k,z⟩
  have ho:∃ t,itr (b++[o]) o t=none:=by
   obtain ⟨t,ht⟩:=b4r h (o:=o)
   exact ⟨t,by rw [b8h hh' t,ht]⟩
  obtain ⟨t,ht⟩:=ho
  have hm:itr (b++[o]) (some b.length) (t + 1)=none:=by rw [a1x,(a3p b o none).2.1,ht]
  intro i hi
  by_cases him:i=b.length
  ·rw [him]; exact ⟨_,hm⟩
  ·by_cases z:∃ j,itr (b++[o]) (some i) j=some b.length
   ·obtain ⟨j,hj⟩:=z
    exact ⟨j + (t + 1),by rw [b3b,hj,hm]⟩
   ·have z':∀ k,itr (b++[o]) (some i) k=itr b (some i) k:=by
     intro k
     induction k with
     | zero=>rfl
     | succ k ih =>
      rw [itr,itr,ih,(a3p b o _).1]
      intro y; exact z ⟨k,by rw [ih,y]⟩
    obtain ⟨k,hk⟩:=h i (by lia)
    exact ⟨k,by rw [z',hk]⟩
theorem b5d (b:List (Option Nat)) (o:Option Nat):acB (b++[o])=(acB b && !clB b o):=by
 have:=c3y b o
 unfold acB clB
 by_cases h1:acy b <;> by_cases h2:c3c b o <;> simp [this,h1,h2]
theorem a4d {α β:Type} (p:α→Bool) (g:α→List β):∀ l:List α,(l.filter p).flatMap g=l.flatMap fun b=>if p b=true then g b else []
 | []=>rfl
 | x :: r=>by
  by_cases h:p x=true
  ·rw [List.filter_cons_of_pos h,List.flatMap_cons,List.flatMap_cons,a4d p g r,if_pos h]
  ·rw [List.filter_cons_of_neg h,List.flatMap_cons,a4d p g r,if_neg h]; rfl
theorem a7i {α β:Type} (p:β→Bool) (g:α→List β):∀ l:List α,(l.flatMap g).filter p=l.flatMap fun b=>(g b).filter p
 | []=>rfl
 | x :: r=>by rw [List.flatMap_cons,List.flatMap_cons,List.filter_append,a7i p g r]
theorem a9v (cs:List Chg):∀ m,a5x cs m=(a4b (a2t cs) m).filter acB
 | 0=>by
  have:acB []=true:=by unfold acB; simp [acy]
  simp [a5x,a4b,this]
 | m + 1=>by
  rw [a5x,a4b,a9v cs m,a4d,a7i]
  congr 1
  funext b
  rw [List.filter_map]
  by_cases h:acB b=true
  ·rw [if_pos h]
   congr 1
   apply List.filter_congr
   intro o _
   simp [Function.comp,b5d,h]
  ·rw [if_neg h]
   have:((a2t cs m).filter (acB ∘ fun o=>b++[o]))=[]:=by
    rw [List.filter_eq_nil_iff]
    intro o _
    simp [Function.comp,b5d,h]
   rw [this]; rfl
theorem a5c (ch:Nat→List (Option Nat)):∀ (m:Nat) (b:List (Option Nat)),b∈a4b ch m→b.length=m∧∀ i o,b[i]?=some o→o∈ch i
 | 0,b,h=>by
  have:b=[]:=by simpa [a4b] using h
  subst this; simp
 | m + 1,b,h=>by
  rw [a4b] at h
  obtain ⟨b',h1,h2⟩:=List.mem_flatMap.mp h
  obtain ⟨o,h3,rfl⟩:=List.mem_map.mp h2
  obtain ⟨g1,g2⟩:=a5c ch m b' h1
  refine ⟨by simp [g1],fun i o' e=>?_⟩
  by_cases hi:i < b'.length
  ·rw [List.getElem?_append_left hi] at e; exact g2 i o' e
  ·rw [List.getElem?_append_right (by lia)] at e
   have:i - b'.length=0:=by
    have:=(List.getElem?_eq_some_iff.mp e).1
    simp at this; lia
   rw [this] at e
   simp at e; subst e
   rw [show i=m by lia]; exact h3
theorem Way.itr {ls:List (Option Nat)} {m:Nat} {l:List Nat} (w:Way ls m l):Kq.itr ls (some m) l.length=none:=by
 induction w with
 | @root m e=>simp [Kq.itr,stp,List.getD] at e ⊢; exact e
 | @step m a l e w ih =>
  rw [List.length_append]
  show Kq.itr ls (some m) (l.length + 1)=none
  rw [a1x,show stp ls (some m)=some a from e,ih]
theorem Way.part {ls:List (Option Nat)} {m:Nat} {l:List Nat} (w:Way ls m l):∀ a∈l,∃ l1,Way ls a l1∧l1.length≤l.length:=by
 induction w with
 | @root m e=>intro a ha; simp at ha; subst ha; exact ⟨_,.root e,Γi _⟩
 | @step m b l e w ih =>
  intro a ha
  rcases List.mem_append.mp ha with ha | ha
  ·obtain ⟨l1,h1,h2⟩:=ih a ha
   exact ⟨l1,h1,by simp; lia⟩
  ·simp at ha; subst ha; exact ⟨_,.step e w,Γi _⟩
theorem Way.nodup {ls:List (Option Nat)} {m:Nat} {l:List Nat} (w:Way ls m l):l.Nodup:=by
 induction w with
 | root e=>simp
 | @step m a l e w ih =>
  rw [List.nodup_append]
  refine ⟨ih,by simp,fun x hx y hy=>?_⟩
  simp at hy; subst hy
  intro z; subst z
  obtain ⟨l1,h1,h2⟩:=w.part x hx
  have:=congrArg List.length (h1.uniq (.step e w))
  simp at this; lia
theorem a4o:∀ (n:Nat) (l:List Nat),l.Nodup→(∀ i∈l,i < n)→l.length≤n
 | 0,l,_,h=>by
  cases l with
  | nil=>simp
  | cons a r=>have:=h a (by simp); lia
 | n + 1,l,hn,h=>by
  have h1:=a4o n (l.erase n) (hn.erase n) (fun i hi=>by
   have h2:=(List.Nodup.mem_erase_iff hn).mp hi
   have:=h i h2.2
   lia)
  by_cases hm:n∈l
  ·rw [List.length_erase_of_mem hm] at h1; lia
  ·rw [List.erase_of_not_mem hm] at h1; lia
theorem c3z {ls:List (Option Nat)} (h:∀ i a:Nat,ls[i]?=some (some a)→a < ls.length):acB ls=a7f ls:=by
 have:acy ls↔a7f ls=true:=by
  constructor
  ·intro h2
   rw [a7f,List.all_eq_true]
   intro m hm
   obtain ⟨k,hk⟩:=h2 m (List.mem_range.mp hm)
   obtain ⟨l,w,-⟩:=b6u k m hk
   have hlt:∀ i∈l,i < ls.length:=by
    clear hk
    induction w with
    | root _=>intro i hi; simp at hi hm; lia
    | @step m a l e w ih =>
     have hm:=List.mem_range.mp hm
     have ha:a < ls.length:=by
      refine h m a ?_
      rw [List.getD] at e
      cases e2:ls[m]? with
      | none=>rw [e2] at e; cases e
      | some o=>rw [e2] at e; simp at e; rw [e]
     intro i hi
     rcases List.mem_append.mp hi with hi | hi
     ·exact ih (List.mem_range.mpr ha) i hi
     ·simp at hi; lia
   have:=a4o _ l w.nodup hlt
   rw [a4s w.itr _ this]; rfl
  ·intro h2 m hm
   exact ⟨_,Option.isNone_iff_eq_none.mp (List.all_eq_true.mp h2 m (List.mem_range.mpr hm))⟩
 unfold acB
 by_cases h1:a7f ls=true
 ·rw [h1]; simp [this.mpr h1]
 ·have:¬ acy ls:=fun z=>h1 (this.mp z)
  rw [Bool.eq_false_iff.mpr h1]; simp [this]
theorem a7b {n:Nat} {cs:List Chg} (h:∀ c∈cs,c.1 < n):a5x cs n=(a4b (a2t cs) n).filter a7f:=by
 rw [a9v]
 apply List.filter_congr
 intro b hb
 obtain ⟨h1,h2⟩:=a5c _ n b hb
 refine c3z fun i a e=>?_
 have:=h2 i _ e
 rw [a2t] at this
 rcases List.mem_cons.mp this with z | z
 ·cases z
 ·obtain ⟨c,hc,z⟩:=List.mem_map.mp z
  have:=h c (List.mem_filter.mp hc).1
  cases z
  lia
noncomputable def kvK (ps:List Chg):List (List Int):=ps.map keyH
noncomputable def kvV (ps:List Chg):List FV:=ps.map fun c=>.int c.2.2
theorem a6h {c d:Chg} (h:keyH c=keyH d):c.1=d.1∧c.2.1=d.2.1:=by
 simp [keyH] at h; lia
theorem c4a {α β γ δ:Type} (f:β→γ→δ) (g:α→β) (h:α→γ):∀ l:List α,List.zipWith f (l.map g) (l.map h)=l.map fun x=>f (g x) (h x)
 | []=>rfl
 | x :: r=>by simp [c4a f g h r]
noncomputable def c2e (ps:List Chg) (a b:Nat) (s:Int):List Chg:=if [(a:Int),(b:Int)]∈kvK ps then ps.map fun c=>if keyH c=[(a:Int),(b:Int)] then (c.1,c.2.1,s) else c else ps++[(a,b,s)]
theorem d0l (ps:List Chg) (a b:Nat) (s:Int):a2o (kvK ps) (kvV ps) [(a:Int),(b:Int)] (.int s)=(kvK (c2e ps a b s),kvV (c2e ps a b s)):=by
 unfold a2o c2e
 by_cases h:[(a:Int),(b:Int)]∈kvK ps
 ·rw [if_pos h,if_pos h]
  refine Prod.ext ?_ ?_
  ·show kvK ps=kvK _
   unfold kvK
   rw [List.map_map]
   apply List.map_congr_left
   intro c _
   simp only [Function.comp]
   split <;> rfl
  ·show List.zipWith _ (kvK ps) (kvV ps)=kvV _
   unfold kvK kvV
   rw [c4a,List.map_map]
   apply List.map_congr_left
   intro c _
   simp only [Function.comp]
   split <;> rfl
 ·rw [if_neg h,if_neg h]
  simp [kvK,kvV,keyH]
theorem b3x {ps:List Chg} {a b:Nat} {s:Int} {c:Chg} (h:c∈c2e ps a b s):c=(a,b,s) ∨ c∈ps:=by
 unfold c2e at h
 split at h
 ·obtain ⟨x,hx,e⟩:=List.mem_map.mp h
  split at e
  ·rename_i hk
   have:=a6h (c:=x) (d:=(a,b,s)) hk
   refine .inl ?_
   rw [← e,this.1,this.2]
  ·subst e; exact .inr hx
 ·rcases List.mem_append.mp h with h | h
  ·exact .inr h
  ·exact .inl (by simpa using h)
theorem a8d {ps:List Chg} (a b:Nat) (s:Int) (h:(kvK ps).Nodup):(kvK (c2e ps a b s)).Nodup:=by
 unfold c2e
 split
 ·have:kvK (ps.map fun c=>if keyH c=[(a:Int),(b:Int)] then (c.1,c.2.1,s) else c)=kvK ps:=by
   unfold kvK
   rw [List.map_map]
   apply List.map_congr_left
   intro c _
   simp only [Function.comp]
   split <;> rfl
  rw [this]; exact h
 ·rename_i hn
  unfold kvK at *
  rw [List.map_append,List.nodup_append]
  refine ⟨h,by simp,?_⟩
  intro x hx y hy e
  simp [keyH] at hy
  subst hy; subst e
  exact hn hx
theorem c8b {ps:List Chg} (h:(kvK ps).Nodup) {c:Chg} (hc:c∈ps):a2z (kvK ps) (kvV ps) (keyH c)=some (.int c.2.2):=by
 induction ps with
 | nil=>simp at hc
 | cons x r ih =>
  simp only [kvK,kvV,List.map_cons,List.nodup_cons] at h ⊢
  rw [a2z]
  by_cases e:keyH x=keyH c
  ·rw [if_pos e]
   rcases List.mem_cons.mp hc with rfl | hc
   ·rfl
   ·exact absurd (by rw [e]; exact List.mem_map_of_mem hc) h.1
  ·rw [if_neg e]
   rcases List.mem_cons.mp hc with rfl | hc
   ·exact absurd rfl e
   ·exact ih h.2 hc
theorem a9o {ps:List Chg} (h:(kvK ps).Nodup) (hb:∀ c∈ps,c.1 < 12∧c.2.1 < 12):ps.length≤144:=by
 have h1:(ps.map fun c=>c.1 * 12 + c.2.1).Nodup:=by
  unfold kvK at h
  rw [List.nodup_iff_pairwise_ne,List.pairwise_map] at h ⊢
  refine List.Pairwise.imp_of_mem (fun {x y} hx hy hxy e=>hxy ?_) h
  have:=hb x hx
  have:=hb y hy
  have:x.1=y.1∧x.2.1=y.2.1:=by lia
  simp [keyH,this.1,this.2]
 have:=a4o 144 _ h1 (fun i hi=>by
  obtain ⟨c,hc,rfl⟩:=List.mem_map.mp hi
  have:=hb c hc
  lia)
 simpa using this
noncomputable def Evn (cs:List Chg):Prop:=∀ c∈cs,((c.2.1,c.1,c.2.2):Chg)∈cs
theorem b6y:∀ cs:List Chg,a2q (cs.map a3a)=true
 | []=>rfl
 | c :: r=>by
  rw [List.map_cons]
  show ((match a0o [FV.int c.1,FV.int c.2.1,FV.int c.2.2] with | some (_ :: _)=>true | _=>false) && a2q (r.map a3a))=true
  rw [b6y r]; rfl
theorem b4n {cs:List Chg} (h:(kvK cs).Nodup):(cs.map fun c=>(c.1,c.2.1)).Nodup:=by
 unfold kvK at h
 rw [List.nodup_iff_pairwise_ne,List.pairwise_map] at h ⊢
 refine h.imp fun {x y} hxy e=>hxy ?_
 simp at e
 simp [keyH,e.1,e.2]
theorem c4o {cs:List Chg} (hn:(kvK cs).Nodup) (h:cs.Pairwise fun x y=>lexLt [(y.1:Int),(y.2.1:Int),y.2.2] [(x.1:Int),(x.2.1:Int),x.2.2]=false):Ris cs:=by
 unfold kvK at hn
 rw [List.nodup_iff_pairwise_ne,List.pairwise_map] at hn
 refine (hn.and h).imp fun {x y} hh=>?_
 obtain ⟨h1,h2⟩:=hh
 have ne:¬ (x.1=y.1∧x.2.1=y.2.1):=fun z=>h1 (by simp [keyH,z.1,z.2])
 simp only [lexLt] at h2
 by_cases e1:(y.1:Int)=x.1
 ·rw [if_pos e1] at h2
  by_cases e2:(y.2.1:Int)=x.2.1
  ·lia
  ·rw [if_neg e2] at h2
   simp only [decide_eq_false_iff_not] at h2
   lia
 ·rw [if_neg e1] at h2
  simp only [decide_eq_false_iff_not] at h2
  lia
theorem b1a {ps:List Chg} (h:(kvK ps).Nodup) (hb:∀ c∈ps,c.1 < 5∧c.2.1 < 5):ps.length≤25:=by
 have h1:(ps.map fun c=>c.1 * 5 + c.2.1).Nodup:=by
  unfold kvK at h
  rw [List.nodup_iff_pairwise_ne,List.pairwise_map] at h ⊢
  refine List.Pairwise.imp_of_mem (fun {x y} hx hy hxy e=>hxy ?_) h
  have:=hb x hx
  have:=hb y hy
  have:x.1=y.1∧x.2.1=y.2.1:=by lia
  simp [keyH,this.1,this.2]
 have:=a4o 25 _ h1 (fun i hi=>by
  obtain ⟨c,hc,rfl⟩:=List.mem_map.mp hi
  have:=hb c hc
  lia)
 simpa using this
noncomputable def evL (ps:List Chg):List Chg:=ps++ps.map fun c=>(c.2.1,c.1,c.2.2)
theorem b9u {ps:List Chg} (h:(kvK ps).Nodup) (hp:∀ c∈ps,c.1 < c.2.1):(kvK (evL ps)).Nodup:=by
 unfold kvK evL at *
 rw [List.map_append,List.nodup_append]
 refine ⟨h,?_,?_⟩
 ·rw [List.map_map]
  rw [List.nodup_iff_pairwise_ne,List.pairwise_map] at h ⊢
  refine h.imp fun {x y} hxy e=>hxy ?_
  simp [keyH] at e
  simp [keyH,e.1,e.2]
 ·intro x hx y hy e
  obtain ⟨a,ha,rfl⟩:=List.mem_map.mp hx
  obtain ⟨b,hb,rfl⟩:=List.mem_map.mp hy
  obtain ⟨c,hc,rfl⟩:=List.mem_map.mp hb
  have:=a6h e
  have:=hp a ha
  have:=hp c hc
  dsimp only at *
  lia
theorem c8j (d:Nat) {n:Int} {v:FV} {m:Nat} {Q:FV×FV→Prop} (hs:Lf n v) (h0:0≤n) (hn:n < 10000) (hm:m≤5) (q:∀ (ws:List Int) (cs:List Chg) v',GsB 1000000100 ws cs→Ris cs→Evn cs→ws.length=m→Lf (n + 700) v'→Q (a2w ws cs,v')):callW tb (d + 5) 18 [v,.int m] Q:=by
 refine a0l (fd:=d9b) rfl rfl ?_
 simp [d9b,e0r,big]
 refine a6x d hs h0 hn (by lia) fun ws cs v1 hG _ hl l1=>?_
 simp [a2w]
 have P0:∀ c∈cs,c.1 < m∧c.2.1 < m∧c.1≠c.2.1∧1≤c.2.2∧c.2.2 < 1000000100:=by rw [← hl]; exact hG.c
 refine a3f (f:=a3a) (I:=fun ds L=>∃ y1 y2 y3,∃ ps:List Chg,L=[some v1,some (.int m),some (.tup [.tup (ws.map .int),.tup (cs.map a3a)]),some (.dct (kvK ps) (kvV ps)),y1,y2,y3,none]∧(kvK ps).Nodup∧∀ c∈ps,c.1 < c.2.1∧c.2.1 < m∧1≤c.2.2∧c.2.2 < 1000000100) cs cs [] _ rfl ⟨_,_,_,[],rfl,by simp [kvK],by simp⟩ ?_ ?_
 ·rintro ds c r L K e ⟨y1,y2,y3,ps,rfl,hd,hp⟩ kk
  have hc:=P0 c (by rw [e]; simp)
  have hpl:=a9o hd fun c hc=>by have:=hp c hc; lia
  obtain ⟨a,b,sz⟩:=c
  dsimp only at hc
  simp [a3a,big]
  refine ⟨by simp [kvK]; lia,?_⟩
  have e1:(if b < a then (b:Int) else a)=((min a b:Nat):Int):=by split <;> lia
  have e2:(if a < b then (b:Int) else a)=((max a b:Nat):Int):=by split <;> lia
  rw [e1,e2,d0l]
  refine kk _ ⟨_,_,_,c2e ps (min a b) (max a b) sz,rfl,a8d _ _ _ hd,fun c hc'=>?_⟩
  rcases b3x hc' with rfl | hc'
  ·dsimp only; lia
  ·exact hp c hc'
 ·rintro L ⟨y1,y2,y3,ps,rfl,hd,hp⟩
  have hpl:=b1a hd fun c hc=>by have:=hp c hc; lia
  have hkl:(kvK ps).length=ps.length:=by simp [kvK]
  have km:List.map c1d (kvK ps)=ps.map fun c=>FV.tup [.int c.1,.int c.2.1]:=by rw [kvK,List.map_map]; rfl
  simp
  intro o
  refine ⟨by lia,?_⟩
  rw [km]
  refine a1a (f:=fun c:Chg=>FV.tup [.int c.1,.int c.2.1]) (g:=a3a) ps [] (fun c hc K k=>?_) ?_
  ·have:=hp c hc
   simp [a3a,big]
   have g:=c8b hd hc
   simp only [keyH] at g
   rw [g]
   simpa [a3a,big] using k
  rw [List.nil_append]
  simp
  refine ⟨by lia,?_⟩
  rw [km]
  refine a1a (f:=fun c:Chg=>FV.tup [.int c.1,.int c.2.1]) (g:=fun c=>a3a (c.2.1,c.1,c.2.2)) ps [] (fun c hc K k=>?_) ?_
  ·have:=hp c hc
   simp [a3a,big]
   have g:=c8b hd hc
   simp only [keyH] at g
   rw [g]
   simpa [a3a,big] using k
  rw [List.nil_append]
  simp
  have em:List.map a3a ps++List.map (fun c:Chg=>a3a (c.2.1,c.1,c.2.2)) ps=(evL ps).map a3a:=by simp [evL,List.map_map,Function.comp_def]
  rw [em]
  refine ⟨by lia,b6y _,by lia,fun ys hy ho=>?_⟩
  obtain ⟨cs2,h2,rfl⟩:=a2s hy _ rfl
  rw [List.pairwise_map] at ho
  have hm:∀ c,c∈cs2↔c∈evL ps:=fun c=>h2.mem_iff
  have hk:(kvK cs2).Nodup:=(h2.map keyH).nodup_iff.mpr (b9u hd fun c hc=>(hp c hc).1)
  have hb:∀ c∈cs2,c.1 < m∧c.2.1 < m∧c.1≠c.2.1∧1≤c.2.2∧c.2.2 < 1000000100:=fun c hc=>by
   rcases List.mem_append.mp ((hm c).mp hc) with hc | hc
   ·have:=hp c hc; lia
   ·obtain ⟨x,hx,rfl⟩:=List.mem_map.mp hc
    have:=hp x hx
    dsimp only; lia
  refine q ws cs2 v1 ⟨hG.n,hG.w,by rw [hl]; exact hb,a9o hk fun c hc=>by have:=hb c hc; lia,b4n hk⟩ (c4o hk ho) ?_ hl l1
  intro c hc
  rw [hm] at hc ⊢
  rcases List.mem_append.mp hc with hc | hc
  ·exact List.mem_append_right _ (List.mem_map.mpr ⟨c,hc,rfl⟩)
  ·obtain ⟨x,hx,rfl⟩:=List.mem_map.mp hc
   exact List.mem_append_left _ hx
noncomputable def szc (cs:List Chg) (a m:Nat):Int:=((cs.find? fun c=>decide (c.1=a∧c.2.1=m)).map fun c=>c.2.2).getD 0
theorem b1l (a m:Nat):∀ cs:List Chg,a2z (cs.map keyH) (cs.map fun c=>FV.int c.2.2) [(a:Int),(m:Int)]=(cs.find? fun c=>decide (c.1=a∧c.2.1=m)).map fun c=>FV.int c.2.2
 | []=>rfl
 | c :: r=>by
  show (if keyH c=[(a:Int),(m:Int)] then some (FV.int c.2.2) else a2z (r.map keyH) (r.map fun c=>FV.int c.2.2) [(a:Int),(m:Int)])=_
  by_cases e:c.1=a∧c.2.1=m
  ·rw [if_pos (by simp [keyH,e.1,e.2]),List.find?_cons_of_pos (by simpa using e)]; rfl
  ·rw [if_neg (by simp only [keyH,List.cons.injEq]; intro z; exact e ⟨by lia,by lia⟩),List.find?_cons_of_neg (by simpa using e)]
   exact b1l a m r
theorem b0c {cs:List Chg} {a m:Nat} (h:[(a:Int),(m:Int)]∈cs.map keyH):a2z (cs.map keyH) (cs.map fun c=>FV.int c.2.2) [(a:Int),(m:Int)]=some (.int (szc cs a m)):=by
 rw [b1l]
 cases e:cs.find? fun c=>decide (c.1=a∧c.2.1=m) with
 | none =>
  obtain ⟨c,hc,e2⟩:=List.mem_map.mp h
  have:=List.find?_eq_none.mp e c hc
  simp only [keyH,List.cons.injEq] at e2
  exact absurd (decide_eq_true (show c.1=a∧c.2.1=m from ⟨by lia,by lia⟩)) this
 | some c=>rw [szc,e]; rfl
theorem c4j {ws:List Int} {cs:List Chg} (h:Gs ws cs) (a m:Nat):0≤szc cs a m∧szc cs a m < 2000000000:=by
 unfold szc
 cases e:cs.find? fun c=>decide (c.1=a∧c.2.1=m) with
 | none=>simp
 | some c =>
  have:=h.c c (List.mem_of_find?_eq_some e)
  show 0≤c.2.2∧c.2.2 < _
  lia
noncomputable def kpL (ws:List Int) (cs:List Chg) (ls:List (Option Nat)) (m:Nat):Int:=match ls.getD m none with
 | none=>ws.getD m 0
 | some a=>szc cs a m
theorem c5d {ws:List Int} {cs:List Chg} (h:Gs ws cs) (ls:List (Option Nat)) (m:Nat):0≤kpL ws cs ls m∧kpL ws cs ls m < 2000000000:=by
 unfold kpL
 cases ls.getD m none with
 | none =>
  show 0≤ws.getD m 0∧_
  rw [List.getD]
  cases e:ws[m]? with
  | none=>simp
  | some x =>
   have:=h.w x (List.mem_of_getElem? e)
   show 0≤x∧x < _
   lia
 | some a=>exact c4j h a m
theorem b7c {xs:List Int} (hl:xs.length≤1000) (h:∀ x∈xs,0≤x∧x < 2000000000) {Q:Int→Prop} (q:Q xs.sum):wp (c9c (xs.map .int)) Q:=by
 simp only [c9c,a1f,b0b,a5g]
 rw [a3h]
 refine ⟨⟨by simp only [big]; lia,?_⟩,q⟩
 rw [List.all_eq_true]
 intro x hx
 have:=h x hx
 simp only [a9c,decide_eq_true_eq]; lia
theorem a3o {xs:List Int} {i:Nat} (h:i < xs.length) (Q:FV→Prop):wp (atF (xs.map .int) (i:Int)) Q↔Q (.int (xs.getD i 0)) :=
 a2d rfl (by rw [List.getElem?_map,List.getElem?_eq_getElem h]; simp [List.getD,h])
theorem c4b (ls:List (Option Nat)):a3w (upF 0 (ls.map a1d).length) (ls.map a1d)=(List.range ls.length).map fun m:Nat=>FV.tup [.int (m:Int),a1d (ls.getD m none)]:=by
 rw [a3c,a3q,List.length_map]
 apply List.ext_getElem
 ·simp
 ·intro i h1 h2
  have:i < ls.length:=by simpa using h2
  simp [List.getD,this]
theorem b0v {cs:List Chg} {ls:List (Option Nat)} (hr:Rst cs ls) {m a:Nat} (hm:m < ls.length) (e:ls.getD m none=some a):[(a:Int),(m:Int)]∈cs.map keyH:=by
 rw [List.getD,List.getElem?_eq_getElem hm] at e
 exact hr m a (by rw [List.getElem?_eq_getElem hm]; exact congrArg some e)
theorem b8v (d:Nat) {ws:List Int} {cs:List Chg} (h:Gs ws cs) {ls:List (Option Nat)} (hr:Rst cs ls) (hl:ls.length=ws.length) {Q:FV×FV→Prop} (q:Q (.lst (((List.range ls.length).map (kpL ws cs ls)).map .int),.non)):callW tb (d + 2) 7 [a2w ws cs,.tup (ls.map a1d)] Q:=by
 have hn:=h.n
 refine a0l (fd:=fd7) rfl rfl ?_
 simp [fd7,bd7]
 refine b0t d h ?_
 simp [a1o]
 rw [← List.length_map (f:=a1d),c4b]
 refine ⟨by simp [big]; lia,?_⟩
 refine a1a (f:=fun m:Nat=>FV.tup [.int (m:Int),a1d (ls.getD m none)]) (g:=fun m=>.int (kpL ws cs ls m)) (List.range ls.length) [] (fun m hm K k=>?_) ?_
 ·have hm:=List.mem_range.mp hm
  unfold kpL at k
  cases e:ls.getD m none with
  | none =>
   rw [e] at k
   simp [a1d,a1o]
   rw [a3o (by lia)]
   exact k
  | some a =>
   rw [e] at k
   simp [a1d,big]
   rw [b0c (b0v hr hm e)]
   exact k
 ·simpa [List.map_map,Function.comp_def] using q
theorem c1z (d:Nat) {ws:List Int} {cs:List Chg} (h:Gs ws cs) {ls:List (Option Nat)} (hr:Rst cs ls) (hl:ls.length=ws.length) {Q:FV×FV→Prop} (q:Q (.int ((List.range ls.length).map (kpL ws cs ls)).sum,.non)):callW tb (d + 3) 8 [a2w ws cs,.tup (ls.map a1d)] Q:=by
 have hn:=h.n
 refine a0l (fd:=fd8) rfl rfl ?_
 simp [fd8,bd8]
 refine b8v d h hr hl ?_
 simp only [sq_l]
 refine b7c (by simp; lia) ?_ q
 intro x hx
 obtain ⟨m,hm,rfl⟩:=List.mem_map.mp hx
 exact c5d h ls m
noncomputable def a5u (ls:List (Option Nat)) (m:Nat):List Nat:=open Classical in if h:∃ l,Way ls m l then Classical.choose h else []
theorem a5i {ls:List (Option Nat)} (hg:a7f ls=true) {m:Nat} (hm:m < ls.length):Way ls m (a5u ls m)∧(a5u ls m).length≤ls.length:=by
 obtain ⟨l,w,hl⟩:=c3f hg hm
 have hx:∃ l,Way ls m l:=⟨l,w⟩
 have e:a5u ls m=Classical.choose hx:=by unfold a5u; rw [dif_pos hx]
 have w2:Way ls m (a5u ls m):=by rw [e]; exact Classical.choose_spec hx
 exact ⟨w2,by rw [w2.uniq w]; exact hl⟩
noncomputable def rdL (ws:List Int) (cs:List Chg) (ls:List (Option Nat)) (m:Nat):Int:=((a5u ls m).map (kpL ws cs ls)).sum
theorem b7m (d:Nat) {ws:List Int} {cs:List Chg} (h:Gs ws cs) {ls:List (Option Nat)} (hr:Rst cs ls) (hg:a7f ls=true) (hl:ls.length=ws.length) {Q:FV×FV→Prop} (q:Q (.tup (((List.range ls.length).map (rdL ws cs ls)).map .int),.non)):callW tb (d + 3) 10 [a2w ws cs,.tup (ls.map a1d)] Q:=by
 have hn:=h.n
 refine a0l (fd:=d9i) rfl rfl ?_
 simp [d9i,e0y]
 refine b8v d h hr hl ?_
 simp
 refine ⟨a0i (by lia) (by lia),?_⟩
 rw [a3c]
 refine ⟨by simp [big]; lia,?_⟩
 refine a1a (f:=fun i:Nat=>FV.int i) (g:=fun m=>.int (rdL ws cs ls m)) (List.range ls.length) [] (fun m hm K k=>?_) ?_
 ·have hm:=List.mem_range.mp hm
  obtain ⟨w,hwl⟩:=a5i hg hm
  simp
  refine c5m (d + 1) h hr hl w hm (by lia) ?_
  simp [b6m]
  refine ⟨by simp [big]; lia,?_⟩
  refine a1a (f:=fun i:Nat=>FV.int i) (g:=fun i=>.int (kpL ws cs ls i)) (a5u ls m) [] (fun i hi K k=>?_) ?_
  ·have hi:=w.lt h hr hl hm i hi
   simp
   rw [a2d rfl (show ((List.range ls.length).map (FV.int ∘ kpL ws cs ls))[i]?=some (.int (kpL ws cs ls i)) by simp [hi])]
   exact k
  ·have e:((a5u ls m).map fun i=>FV.int (kpL ws cs ls i))=((a5u ls m).map (kpL ws cs ls)).map .int:=by simp
   rw [List.nil_append,e]
   refine b7c (by simp; lia) ?_ k
   intro x hx
   obtain ⟨i,hi,rfl⟩:=List.mem_map.mp hx
   exact c5d h ls i
 ·simpa [List.map_map,Function.comp_def] using q
theorem b8n (d:Nat) {ws:List Int} {cs:List Chg} (h:Gs ws cs) {ls:List (Option Nat)} (hr:Rst cs ls) (hl:ls.length=ws.length) {Q:FV×FV→Prop} (q:Q (.int ((List.range ls.length).map (kpL ws cs ls)).sum,.non)):callW tb (d + 2) 23 [a2w ws cs,.tup (ls.map a1d)] Q:=by
 have hn:=h.n
 refine a0l (fd:=d8w) rfl rfl ?_
 simp [d8w,e0n]
 refine a6y d h ?_
 simp
 rw [← List.length_map (f:=a1d),c4b]
 refine a3f (f:=fun m:Nat=>FV.tup [.int (m:Int),a1d (ls.getD m none)]) (I:=fun e L=>∃ a b,L=[some (a2w ws cs),some (.tup (ls.map a1d)),some (.dct (cs.map keyH) (cs.map fun c=>.int c.2.2)),some (.int (e.map (kpL ws cs ls)).sum),a,b]) (List.range ls.length) (List.range ls.length) [] _ rfl ⟨_,_,rfl⟩ ?_ ?_
 ·rintro e m r L K ez ⟨a,b,eL⟩ k
  subst eL
  have hm:m < ls.length:=List.mem_range.mp (by rw [ez]; simp)
  have kk:∀ v,v=kpL ws cs ls m→K [some (a2w ws cs),some (.tup (ls.map a1d)),some (.dct (cs.map keyH) (cs.map fun c=>.int c.2.2)),some (.int ((e.map (kpL ws cs ls)).sum + v)),some (.int m),some (a1d (ls.getD m none))]:=fun v ev=>by
   subst ev
   exact k _ ⟨_,_,by simp; exact ⟨rfl,rfl⟩⟩
  unfold kpL at kk
  cases eo:ls.getD m none with
  | none =>
   rw [eo] at kk
   simp [a1d,a1o]
   rw [a3o (by lia)]
   simp
   exact kk _ rfl
  | some a =>
   rw [eo] at kk
   simp [a1d,big]
   rw [b0c (b0v hr hm eo)]
   simp
   exact kk _ rfl
 ·rintro L ⟨a,b,eL⟩
  subst eL
  simpa using q
theorem a8t {α:Type} (a m:α):∀ (l:List α),(l++[a]++[m]).zip ((l++[a]++[m]).drop 1)=(l++[a]).zip ((l++[a]).drop 1)++[(a,m)]
 | []=>rfl
 | [x]=>rfl
 | x :: y :: r=>by
  have:=a8t a m (y :: r)
  simp only [List.cons_append,List.drop_succ_cons,List.drop_zero,List.zip_cons_cons] at this ⊢
  rw [this]
theorem Way.last {ls:List (Option Nat)} {m:Nat} {l:List Nat} (w:Way ls m l):∃ r,l=r++[m]:=by
 cases w with
 | root _=>exact ⟨[],rfl⟩
 | step _ _=>exact ⟨_,rfl⟩
theorem c5n (ws:List Int) (cs:List Chg) {ls:List (Option Nat)} {m:Nat} {l:List Nat} (w:Way ls m l):(l.map (kpL ws cs ls)).sum=ws.getD (l.headD 0) 0 + ((l.zip (l.drop 1)).map fun p=>szc cs p.1 p.2).sum:=by
 induction w with
 | @root m e =>
  have e2:kpL ws cs ls m=ws.getD m 0:=by rw [kpL,e]
  simp [e2]
 | @step m a l e w ih =>
  obtain ⟨r,rfl⟩:=w.last
  rw [a8t,List.map_append (l₁:=r++[a]),List.map_append (l₁:=(r++[a]).zip _),List.sum_append,List.sum_append,ih]
  have:(r++[a]++[m]).headD 0=(r++[a]).headD 0:=by cases r <;> rfl
  rw [this]
  have e2:kpL ws cs ls m=szc cs a m:=by rw [kpL,e]
  simp only [List.map_cons,List.map_nil,List.sum_cons,List.sum_nil,e2]
  lia
theorem b6t {ls:List (Option Nat)} {m:Nat} {l:List Nat} (w:Way ls m l):∀ p∈l.zip (l.drop 1),ls.getD p.2 none=some p.1:=by
 induction w with
 | root e=>intro p hp; simp at hp
 | @step m a l e w ih =>
  obtain ⟨r,rfl⟩:=w.last
  rw [a8t]
  intro p hp
  rcases List.mem_append.mp hp with hp | hp
  ·exact ih p hp
  ·simp at hp; subst hp; exact e
theorem b5p (d:Nat) {ws:List Int} {cs:List Chg} (h:Gs ws cs) {ls:List (Option Nat)} (hr:Rst cs ls) (hg:a7f ls=true) (hl:ls.length=ws.length) {Q:FV×FV→Prop} (q:Q (.tup (((List.range ls.length).map (rdL ws cs ls)).map .int),.non)):callW tb (d + 2) 22 [a2w ws cs,.tup (ls.map a1d)] Q:=by
 have hn:=h.n
 refine a0l (fd:=d8x) rfl rfl ?_
 simp [d8x,e0o]
 refine a6y d h ?_
 simp
 refine ⟨a0i (by lia) (by lia),?_⟩
 refine a1h (I:=fun j L=>∃ a b,L=[some (a2w ws cs),some (.tup (ls.map a1d)),some (.dct (cs.map keyH) (cs.map fun c=>.int c.2.2)),some (.lst (((List.range j).map (rdL ws cs ls)).map .int)),a,b]) ls.length 0 _ ⟨_,_,rfl⟩ ?_ ?_
 ·rintro m L K - hm ⟨a,b,eL⟩ k
  subst eL
  have hm:m < ls.length:=by lia
  obtain ⟨w,hwl⟩:=a5i hg hm
  obtain ⟨r,t,ht,h0,-⟩:=w.head
  have hrl:r < ls.length:=w.lt h hr hl hm r (by rw [ht]; simp)
  simp
  refine c7o (d + 0) h hr hl w hm (by lia) ?_
  have kk:∀ v,v=rdL ws cs ls m→K [some (a2w ws cs),some (.tup (ls.map a1d)),some (.dct (cs.map keyH) (cs.map fun c=>.int c.2.2)),some (.lst (((List.range m).map (rdL ws cs ls)).map .int++[.int v])),some (.int m),some (.lst (b6m (a5u ls m)))]:=fun v ev=>by
   subst ev
   exact k _ ⟨_,_,by simp [List.range_succ]; exact ⟨rfl,rfl⟩⟩
  have e0:b6m (a5u ls m)=FV.int r :: b6m t:=by rw [ht]; rfl
  have c1:∀ xs:List FV,b2f xs (some 1) none=xs.drop 1:=fun xs=>by simpa using b0g xs 1
  have ez:a3w (b6m (a5u ls m)) (b2f (b6m (a5u ls m)) (some 1) none)=((a5u ls m).zip ((a5u ls m).drop 1)).map fun p=>FV.tup [.int p.1,.int p.2]:=by
   rw [c1,b6m,← List.map_drop,a3q]
  have a0:∀ Q:FV→Prop,wp (atF (b6m (a5u ls m)) 0) Q↔Q (.int r):=fun Q=>by rw [e0]; exact at_0 _ _ _
  have hzl:((a5u ls m).zip ((a5u ls m).drop 1)).length≤12:=by simp; lia
  simp [a1o]
  rw [a0,ez]
  simp only [d7a,sq_t]
  rw [a3o (by lia)]
  refine ⟨by rw [List.length_map]; simp only [big]; lia,?_⟩
  refine a1a (f:=fun p:Nat×Nat=>FV.tup [.int p.1,.int p.2]) (g:=fun p=>.int (szc cs p.1 p.2)) ((a5u ls m).zip ((a5u ls m).drop 1)) [] (fun p hp K k=>?_) ?_
  ·have hp2:p.2 < ls.length:=by
    refine w.lt h hr hl hm p.2 ?_
    exact List.mem_of_mem_drop (List.of_mem_zip hp).2
   simp
   rw [b0c (b0v hr hp2 (b6t w p hp))]
   exact k
  ·have e:(((a5u ls m).zip ((a5u ls m).drop 1)).map fun p=>FV.int (szc cs p.1 p.2))=(((a5u ls m).zip ((a5u ls m).drop 1)).map fun p=>szc cs p.1 p.2).map .int:=by simp
   rw [List.nil_append,e]
   refine b7c (by rw [List.length_map]; lia) ?_ ?_
   ·intro x hx
    obtain ⟨p,hp,rfl⟩:=List.mem_map.mp hx
    exact c4j h _ _
   ·have:=kk (ws.getD r 0 + (((a5u ls m).zip ((a5u ls m).drop 1)).map fun p=>szc cs p.1 p.2).sum) (by rw [rdL,c5n ws cs w,ht]; rfl)
    simp [big]
    refine ⟨by lia,?_⟩
    simpa using this
 ·rintro L ⟨a,b,eL⟩
  subst eL
  simpa using q
theorem c6e {cs:List Chg} (hn:(kvK cs).Nodup) (h:cs.Pairwise fun x y=>lexLt (keyH y) (keyH x)=false):Ris cs:=by
 unfold kvK at hn
 rw [List.nodup_iff_pairwise_ne,List.pairwise_map] at hn
 refine (hn.and h).imp fun {x y} hh=>?_
 obtain ⟨h1,h2⟩:=hh
 have ne:¬ (x.1=y.1∧x.2.1=y.2.1):=fun z=>h1 (by simp [keyH,z.1,z.2])
 simp only [keyH,lexLt] at h2
 by_cases e1:(y.1:Int)=x.1
 ·rw [if_pos e1] at h2
  by_cases e2:(y.2.1:Int)=x.2.1
  ·lia
  ·rw [if_neg e2] at h2
   simp only [decide_eq_false_iff_not] at h2
   lia
 ·rw [if_neg e1] at h2
  simp only [decide_eq_false_iff_not] at h2
  lia
theorem c5l {os:List Nat} {p:Nat×Nat} (h:p∈os.zip (os.drop 1)):∃ j,os[j]?=some p.1∧os[j + 1]?=some p.2:=by
 obtain ⟨j,hj⟩:=List.mem_iff_getElem?.mp h
 obtain ⟨h1,h2⟩:=List.getElem?_zip_eq_some.mp hj
 rw [List.getElem?_drop] at h2
 exact ⟨j,h1,by rwa [Nat.add_comm] at h2⟩
theorem c9g:∀ (a b:List Nat),((a.zip b).map Prod.fst).Sublist a
 | [],_=>by simp
 | x :: a,[]=>by simp
 | x :: a,y :: b=>by simpa using c9g a b
theorem c3u (d:Nat) {n:Int} {v:FV} {m:Nat} {Q:FV×FV→Prop} (hs:Lf n v) (h0:0≤n) (hn:n < 10000) (hm:m≤5) (hm1:1≤m) (q:∀ (ws:List Int) (cs:List Chg) v',GsB 1000000100 ws cs→Ris cs→ws.length=m→Lf (n + 700) v'→Q (a2w ws cs,v')):callW tb (d + 5) 19 [v,.int m] Q:=by
 refine a0l (fd:=d9a) rfl rfl ?_
 simp [d9a,e0q,big]
 refine ⟨a0i (by lia) (by lia),?_⟩
 refine a1h (I:=fun k L=>∃ v' x,∃ os:List Nat,L=[some v',some (.int m),some (.lst (os.map fun i:Nat=>.int i)),x,none,none,none,none,none,none,none]∧os.Perm (List.range k)∧Lf (n + k) v') m 0 _ ⟨v,_,[],rfl,by simp,hs.mono (by lia)⟩ ?_ ?_
 ·rintro k L K - hk ⟨v',x,os,rfl,hp,lf⟩ kk
  simp
  refine a0v _ lf (by lia) (by lia) (by lia) fun u v1 u0 u1 l1=>?_
  have hol:os.length≤12:=by rw [hp.length_eq,List.length_range]; lia
  simp [big]
  have a1:u < 4611686018427387904:=by lia
  have a2:os.length < 100000:=by lia
  refine And.intro (And.intro u0 (And.intro a1 a2)) ?_
  generalize hu:u.toNat=ut
  apply kk
  refine ⟨v1,some (.int k),b5u os ut k,?_,?_,l1.mono (by lia)⟩
  ·rw [c7y (fun i:Nat=>FV.int i)]
  ·rw [List.range_succ]
   exact (c3b os ut k).trans ((hp.cons k).trans (List.perm_append_comm (l₁:=[k])))
 rintro L ⟨v1,x,os,rfl,hp,l1⟩
 rw [Nat.zero_add] at hp l1
 have hol:os.length=m:=by rw [hp.length_eq,List.length_range]
 have nd:os.Nodup:=hp.nodup_iff.mpr List.nodup_range
 simp
 refine a0v _ l1 (by lia) (by lia) (by lia) fun ne v2 ne0 ne1 l2=>?_
 simp
 refine a0v _ l2 (by lia) (by lia) (by lia) fun de v3 de0 de1 l3=>?_
 have c1:∀ xs:List FV,b2f xs (some 1) none=xs.drop 1:=fun xs=>by simpa using b0g xs 1
 have ez:a3w (os.map fun i:Nat=>FV.int i) (b2f (os.map fun i:Nat=>FV.int i) (some 1) none)=(os.zip (os.drop 1)).map fun p=>FV.tup [.int p.1,.int p.2]:=by
  rw [c1,← List.map_drop,a3q]
 have hzl:(os.zip (os.drop 1)).length=m - 1:=by rw [List.length_zip,List.length_drop]; lia
 have hzm:∀ p∈os.zip (os.drop 1),p.1 < m∧p.2 < m∧p.1≠p.2:=by
  intro p hp'
  obtain ⟨j,h1,h2⟩:=c5l hp'
  refine ⟨List.mem_range.mp (hp.mem_iff.mp (List.mem_of_getElem? h1)),List.mem_range.mp (hp.mem_iff.mp (List.mem_of_getElem? h2)),fun e=>?_⟩
  obtain ⟨a1,b1⟩:=List.getElem?_eq_some_iff.mp h1
  obtain ⟨a2,b2⟩:=List.getElem?_eq_some_iff.mp h2
  have:=(List.getElem_inj nd).mp (b1.trans (e.trans b2.symm))
  lia
 have hzn:(os.zip (os.drop 1)).Nodup:=by
  have h:=c9g os (os.drop 1)
  have h:=h.nodup nd
  rw [List.nodup_iff_pairwise_ne,List.pairwise_map] at h
  rw [List.nodup_iff_pairwise_ne]
  exact h.imp fun {x y} h e=>h (by rw [e])
 simp
 rw [ez]
 refine ⟨by rw [List.length_map,hzl]; lia,?_⟩
 refine a5a (f:=fun p:Nat×Nat=>FV.tup [.int p.1,.int p.2]) (I:=fun ds acc L=>∃ v',∃ ys:List Chg,L=[some v',some (.int m),some (.lst (os.map fun i:Nat=>.int i)),x,some (.int (1 + ne)),some (.int (9 + de)),none,none,none,none,none]∧acc=ys.map (fun c=>FV.tup [.tup [.int c.1,.int c.2.1],.int c.2.2])∧ys.map (fun c=>(c.1,c.2.1))=ds∧(∀ x∈ys,1≤x.2.2∧x.2.2 < 1000000000)∧Lf (n + 14 + ds.length) v') (os.zip (os.drop 1)) (os.zip (os.drop 1)) [] [] _ rfl ⟨v3,[],rfl,rfl,rfl,by simp,l3.mono (by simp; lia)⟩ ?_ ?_
 ·rintro ds p r acc L K e ⟨v',ys,rfl,rfl,hk,hy,lf⟩ k
  have hd:ds.length < m:=by have:=congrArg List.length e; simp at this; lia
  simp [big]
  refine a0v _ lf (by lia) (by lia) (by lia) fun s v4 s0 s1 l4=>?_
  simp [big]
  refine k _ _ ⟨v4,ys++[(p.1,p.2,1 + s)],rfl,by simp,by simp [hk],?_,l4.mono (by simp; lia)⟩
  intro y hy'
  rcases List.mem_append.mp hy' with hy' | hy'
  ·exact hy y hy'
  ·simp at hy'; subst hy'
   dsimp only; lia
 rintro zs L ⟨v4,ps0,rfl,rfl,hk,hy,l4⟩
 have hn0:(kvK ps0).Nodup:=by
  rw [← hk,List.nodup_iff_pairwise_ne,List.pairwise_map] at hzn
  unfold kvK
  rw [List.nodup_iff_pairwise_ne,List.pairwise_map]
  refine hzn.imp fun {x y} h e=>h ?_
  have:=a6h e
  rw [this.1,this.2]
 have ep:a1l (ps0.map fun c=>(keyH c,FV.int c.2.2)) [] []=(kvK ps0,kvV ps0):=by
  rw [a5l _ [] [] (by simpa [List.map_map,Function.comp_def,kvK] using hn0)]
  simp [kvK,kvV,List.map_map,Function.comp_def]
 have hb0:∀ c∈ps0,c.1 < m∧c.2.1 < m∧c.1≠c.2.1∧1≤c.2.2∧c.2.2 < 1000000100:=fun c hc=>by
  have h1:=hzm (c.1,c.2.1) (by rw [← hk]; exact List.mem_map.mpr ⟨c,hc,rfl⟩)
  have h2:=hy c hc
  dsimp only at h1
  lia
 rw [a6t,a5g,ep]
 simp
 refine a0v _ l4 (by lia) (by lia) (by lia) fun tu v5 tu0 tu1 l5=>?_
 simp
 refine ⟨a0i (by lia) (by lia),?_⟩
 generalize ht:tu.toNat=tn
 have htn:tn≤12:=by lia
 refine a1h (I:=fun k L=>∃ v' y1 y2 y3,∃ ps:List Chg,L=[some v',some (.int m),some (.lst (os.map fun i:Nat=>.int i)),x,some (.int (1 + ne)),some (.int (9 + de)),some (.dct (kvK ps) (kvV ps)),y1,y2,y3,none]∧(kvK ps).Nodup∧(∀ c∈ps,c.1 < m∧c.2.1 < m∧c.1≠c.2.1∧1≤c.2.2∧c.2.2 < 1000000100)∧Lf (n + 40 + 3 * k) v') tn 0 _ ⟨v5,_,_,_,ps0,rfl,hn0,hb0,l5.mono (by lia)⟩ ?_ ?_
 ·rintro k L K - hk ⟨v',y1,y2,y3,ps,rfl,hd,hp',lf⟩ kk
  have hpl:=a9o hd fun c hc=>by have:=hp' c hc; lia
  simp [big]
  refine a0v _ lf (by lia) (by lia) (by lia) fun a v6 a0 a1 l6=>?_
  simp [big]
  refine a0v _ l6 (by lia) (by lia) (by lia) fun b v7 b0 b1 l7=>?_
  simp [big]
  obtain ⟨a',rfl⟩:=Int.eq_ofNat_of_zero_le a0
  obtain ⟨b',rfl⟩:=Int.eq_ofNat_of_zero_le b0
  refine ite2 (fun h1=>?_) (fun h1=>?_)
  ·exact kk _ ⟨_,_,_,_,ps,rfl,hd,hp',l7.mono (by lia)⟩
  ·refine a0v _ l7 (by lia) (by lia) (by lia) fun s v8 s0 s1 l8=>?_
   simp [big]
   refine ⟨by simp [kvK]; lia,?_⟩
   rw [d0l]
   refine kk _ ⟨_,_,_,_,c2e ps a' b' (1 + s),rfl,a8d _ _ _ hd,fun c hc'=>?_,l8.mono (by lia)⟩
   rcases b3x hc' with rfl | hc'
   ·dsimp only; lia
   ·exact hp' c hc'
 rintro L ⟨v6,y1,y2,y3,ps,rfl,hd,hp',l6⟩
 have hpl:=b1a hd fun c hc=>by have:=hp' c hc; lia
 simp
 refine ⟨a0i (by lia) (by lia),by simp [a3c]; lia,?_⟩
 rw [a3c]
 refine a5a (f:=fun i:Nat=>FV.int i) (I:=fun ds acc L=>∃ v',∃ xs:List Int,L=[some v',some (.int m),some (.lst (os.map fun i:Nat=>FV.int i)),x,some (.int (1 + ne)),some (.int (9 + de)),some (.dct (kvK ps) (kvV ps)),y1,y2,y3,none]∧acc=xs.map .int∧xs.length=ds.length∧(∀ x∈xs,1≤x∧x < 1000000100)∧Lf (n + 80 + ds.length) v') (List.range m) (List.range m) [] [] _ rfl ⟨v6,[],rfl,rfl,rfl,by simp,l6.mono (by simp; lia)⟩ ?_ ?_
 ·rintro ds p r acc L K e ⟨v',xs,rfl,rfl,hk,hy,lf⟩ k
  have hd:ds.length < m:=by have:=congrArg List.length e; simp at this; lia
  simp [big]
  refine a0v _ lf (by lia) (by lia) (by lia) fun s v4 s0 s1 l4=>?_
  simp [big]
  refine k _ _ ⟨v4,xs++[1 + s],rfl,by simp,by simp [hk],?_,l4.mono (by simp; lia)⟩
  intro y hy'
  rcases List.mem_append.mp hy' with hy' | hy'
  ·exact hy y hy'
  ·simp at hy'; subst hy'
   lia
 rintro zs L ⟨v7,ws,rfl,rfl,hwl,hw,l7⟩
 simp at hwl
 simp
 refine ⟨by simp [kvK]; lia,fun k hk=>?_,fun ks2 hks ho=>?_⟩
 ·obtain ⟨c,_,rfl⟩:=List.mem_map.mp hk
  simp [keyH]
 obtain ⟨cs,hcp,rfl⟩:=a2s hks ps rfl
 rw [List.pairwise_map] at ho
 have hcl:=hcp.length_eq
 refine ⟨by simp; lia,?_⟩
 have km:List.map c1d (List.map keyH cs)=cs.map fun c=>FV.tup [.int c.1,.int c.2.1]:=by rw [List.map_map]; rfl
 rw [km]
 refine a1a (f:=fun c:Chg=>FV.tup [.int c.1,.int c.2.1]) (g:=a3a) cs [] (fun c hc K k=>?_) ?_
 ·simp [a3a,big]
  have g:=c8b hd (hcp.mem_iff.mp hc)
  simp only [keyH] at g
  rw [g]
  simpa [a3a,big] using k
 rw [List.nil_append]
 simp
 have hk2:(kvK cs).Nodup:=(hcp.map keyH).nodup_iff.mpr hd
 refine q ws cs v7 ⟨by lia,hw,fun c hc=>?_,by lia,b4n hk2⟩ (c6e hk2 ho) hwl (l7.mono (by simp; lia))
 have:=hp' c (hcp.mem_iff.mp hc)
 lia
noncomputable def a7r (l:List Int) (c:Chg):List Int:=l.set c.2.1 (if l.getD c.1 0 + c.2.2 < l.getD c.2.1 0 then l.getD c.1 0 + c.2.2 else l.getD c.2.1 0)
noncomputable def b2n (cs:List Chg) (l:List Int):List Int:=cs.foldl a7r l
noncomputable def a1j (cs:List Chg) (ws:List Int):Nat→List Int
 | 0=>ws
 | k + 1=>b2n cs (a1j cs ws k)
structure Stk (n:Nat) (ws:List Int) (cs:List Chg):Prop where
 len:ws.length=n
 pos:∀ w∈ws,1≤w
 rng:∀ c∈cs,c.1 < n∧c.2.1 < n∧1≤c.2.2
 ris:cs.Pairwise fun c d=>c.1≤d.1
theorem a9j (l:List Int) (c:Chg):(a7r l c).length=l.length:=by simp [a7r]
theorem b3w (cs:List Chg):∀ l:List Int,(b2n cs l).length=l.length:=by
 induction cs with
 | nil=>intro l; rfl
 | cons c cs ih=>intro l; show (b2n cs (a7r l c)).length=_; rw [ih,a9j]
theorem a2r (cs:List Chg) (ws:List Int):∀ k,(a1j cs ws k).length=ws.length
 | 0=>rfl
 | k + 1=>by rw [a1j,b3w,a2r cs ws k]
theorem a4t (l:List Int) (i j:Nat) (v:Int):(l.set i v).getD j 0=if i=j∧i < l.length then v else l.getD j 0:=by
 simp only [List.getD_eq_getElem?_getD,List.getElem?_set]
 by_cases h:i=j
 ·subst h
  by_cases h2:i < l.length
  ·simp [h2]
  ·simp [h2,List.getElem?_eq_none (by lia:l.length≤i)]
 ·simp [h]
theorem a9k (l:List Int) (c:Chg) (b:Nat):(a7r l c).getD b 0≤l.getD b 0:=by
 unfold a7r
 rw [a4t]
 split
 ·rename_i h; obtain ⟨h,_⟩:=h; subst h; split <;> lia
 ·lia
theorem c6i (l:List Int) (c:Chg) (h:c.2.1 < l.length):(a7r l c).getD c.2.1 0≤l.getD c.1 0 + c.2.2:=by
 unfold a7r
 rw [a4t,if_pos ⟨rfl,h⟩]
 split <;> lia
theorem b7k (cs:List Chg):∀ (l:List Int) (b:Nat),(b2n cs l).getD b 0≤l.getD b 0:=by
 induction cs with
 | nil=>intro l b; exact Int.le_refl _
 | cons c cs ih=>intro l b; exact Int.le_trans (ih (a7r l c) b) (a9k l c b)
theorem c6g (cs:List Chg):∀ (l:List Int) (c:Chg),c∈cs→c.2.1 < l.length→(b2n cs l).getD c.2.1 0≤l.getD c.1 0 + c.2.2:=by
 induction cs with
 | nil=>intro l c h; cases h
 | cons d cs ih =>
  intro l c h hl
  rcases List.mem_cons.mp h with e | h
  ·subst e
   exact Int.le_trans (b7k cs (a7r l c) _) (c6i l c hl)
  ·have:=ih (a7r l d) c h (by rw [a9j]; exact hl)
   have h2:=a9k l d c.1
   show (b2n cs (a7r l d)).getD c.2.1 0≤_
   lia
theorem a6q (cs:List Chg) (ws:List Int) (b:Nat):∀ j k,(a1j cs ws (j + k)).getD b 0≤(a1j cs ws j).getD b 0
 | j,0=>Int.le_refl _
 | j,k + 1=>Int.le_trans (b7k cs _ b) (a6q cs ws b j k)
inductive Walk (n:Nat) (ws:List Int) (cs:List Chg):Nat→Nat→Int→Prop where
 | whole {b}:b < n→Walk n ws cs 0 b (ws.getD b 0)
 | step {k v} {c:Chg}:Walk n ws cs k c.1 v→c∈cs→Walk n ws cs (k + 1) c.2.1 (v + c.2.2)
section
variable {n:Nat} {ws:List Int} {cs:List Chg}
theorem Walk.le (S:Stk n ws cs) {k b v} (h:Walk n ws cs k b v):∀ j,k≤j→(a1j cs ws j).getD b 0≤v:=by
 induction h with
 | @whole b hb=>intro j _; have:=a6q cs ws b 0 j; rw [Nat.zero_add] at this; exact this
 | @step k v c _ hc ih =>
  intro j hj
  obtain ⟨j',rfl⟩:∃ j',j=j' + 1:=⟨j - 1,by lia⟩
  have h1:=ih j' (by lia)
  have h2:=c6g cs (a1j cs ws j') c hc (by rw [a2r,S.len]; exact (S.rng c hc).2.1)
  show (b2n cs (a1j cs ws j')).getD c.2.1 0≤v + c.2.2
  lia
noncomputable def Sup (n:Nat) (ws:List Int) (cs:List Chg) (l:List Int):Prop:=l.length=n∧(∀ b,b < n→1≤l.getD b 0)∧∀ b,b < n→l.getD b 0=ws.getD b 0 ∨ ∃ c∈cs,c.2.1=b∧l.getD c.1 0 + c.2.2≤l.getD b 0
theorem c1p (S:Stk n ws cs) {l:List Int} {c:Chg} (hc:c∈cs) (h:Sup n ws cs l):Sup n ws cs (a7r l c):=by
 obtain ⟨h0,h1,h2⟩:=h
 obtain ⟨ca,cb,cp⟩:=S.rng c hc
 have pa:=h1 _ ca
 refine ⟨by rw [a9j,h0],fun b hb=>?_,fun b hb=>?_⟩
 ·unfold a7r
  rw [a4t]
  split
  ·rename_i e; obtain ⟨e,_⟩:=e; subst e; have:=h1 _ hb; split <;> lia
  ·exact h1 b hb
 ·by_cases hup:c.2.1=b∧l.getD c.1 0 + c.2.2 < l.getD b 0
  ·obtain ⟨e,hlt⟩:=hup
   right
   refine ⟨c,hc,e,?_⟩
   have hle:=a9k l c c.1
   have:(a7r l c).getD b 0=l.getD c.1 0 + c.2.2:=by
    unfold a7r
    rw [a4t,if_pos ⟨e,by rw [h0]; exact cb⟩,if_pos (by rw [e]; exact hlt)]
   lia
  ·have hsame:(a7r l c).getD b 0=l.getD b 0:=by
    unfold a7r
    rw [a4t]
    split
    ·rename_i e; obtain ⟨e,_⟩:=e
     subst e
     rw [if_neg (fun z=>hup ⟨rfl,z⟩)]
    ·rfl
   rw [hsame]
   rcases h2 b hb with h | ⟨d,hd,e,h⟩
   ·exact .inl h
   ·refine .inr ⟨d,hd,e,?_⟩
    have:=a9k l c d.1
    lia
theorem b3q (S:Stk n ws cs):∀ (ds:List Chg) {l:List Int},(∀ d∈ds,d∈cs)→Sup n ws cs l→Sup n ws cs (b2n ds l)
 | [],l,_,h=>h
 | d :: ds,l,hd,h=>b3q S ds (fun x hx=>hd x (Γh _ hx)) (c1p S (hd d Γn) h)
theorem a6c (S:Stk n ws cs):∀ k,Sup n ws cs (a1j cs ws k)
 | 0=>⟨S.len,fun b hb=>by
   have hb':b < ws.length:=by rw [S.len]; exact hb
   have:=S.pos ws[b] (List.getElem_mem hb')
   show 1≤ws.getD b 0
   rw [List.getD_eq_getElem?_getD,List.getElem?_eq_getElem hb']
   exact this,fun b _=>.inl rfl⟩
 | k + 1=>b3q S cs (fun _ h=>h) (a6c S k)
theorem a7o {α:Type} (p q:α→Bool) (h:∀ x,p x=true→q x=true):∀ (xs:List α) (y:α),y∈xs→q y=true→p y=false→xs.countP p < xs.countP q:=by
 intro xs
 induction xs with
 | nil=>intro y hy; cases hy
 | cons x xs ih =>
  intro y hy hq hp
  have hle:xs.countP p≤xs.countP q:=List.countP_mono_left (fun z _=>h z)
  rcases List.mem_cons.mp hy with e | hy
  ·subst e
   simp only [List.countP_cons,hq,hp]
   simp; lia
  ·have:=ih y hy hq hp
   simp only [List.countP_cons]
   have hx:(if p x=true then 1 else 0)≤(if q x=true then 1 else 0):=by
    by_cases hpx:p x=true
    ·simp [hpx,h x hpx]
    ·simp [hpx]
   lia
noncomputable def b2o (n:Nat) (l:List Int) (b:Nat):Nat:=(List.range n).countP fun x=>decide (l.getD x 0 < l.getD b 0)
theorem b7n {l:List Int} {b:Nat} (hb:b < n):b2o n l b < n:=by
 have:b2o n l b < (List.range n).countP (fun _=>true):=a7o _ _ (fun _ _=>rfl) _ b (List.mem_range.mpr hb) rfl (by simp)
 simpa using this
theorem c5o (S:Stk n ws cs) {l:List Int} (h:Sup n ws cs l):∀ (r b:Nat),b < n→b2o n l b≤r→∃ k v,k≤b2o n l b∧v≤l.getD b 0∧Walk n ws cs k b v:=by
 intro r
 induction r with
 | zero =>
  intro b hb hr
  rcases h.2.2 b hb with e | ⟨c,hc,e,hle⟩
  ·exact ⟨0,_,Nat.zero_le _,by rw [e]; exact Int.le_refl _,.whole hb⟩
  ·obtain ⟨ca,cb,cp⟩:=S.rng c hc
   have:0 < b2o n l b:=by
    unfold b2o
    rw [List.countP_pos_iff]
    exact ⟨c.1,List.mem_range.mpr ca,by simp only [decide_eq_true_eq]; lia⟩
   lia
 | succ r ih =>
  intro b hb hr
  rcases h.2.2 b hb with e | ⟨c,hc,e,hle⟩
  ·exact ⟨0,_,Nat.zero_le _,by rw [e]; exact Int.le_refl _,.whole hb⟩
  ·obtain ⟨ca,cb,cp⟩:=S.rng c hc
   have hlt:b2o n l c.1 < b2o n l b:=by
    unfold b2o
    refine a7o _ _ (fun x hx=>?_) _ c.1 (List.mem_range.mpr ca) ?_ ?_
    ·simp only [decide_eq_true_eq] at hx ⊢; lia
    ·simp only [decide_eq_true_eq]; lia
    ·simp
   obtain ⟨k,v,hk,hv,hw⟩:=ih c.1 ca (by lia)
   subst e
   exact ⟨k + 1,v + c.2.2,by lia,by lia,.step hw hc⟩
theorem d7u (S:Stk n ws cs) {c:Chg} (hc:c∈cs):(a1j cs ws n).getD c.2.1 0≤(a1j cs ws n).getD c.1 0 + c.2.2:=by
 obtain ⟨ca,cb,cp⟩:=S.rng c hc
 obtain ⟨k,v,hk,hv,hw⟩:=c5o S (a6c S n) _ c.1 ca (Γi _)
 have h1:=b7n (l:=a1j cs ws n) ca
 have:=(Walk.step hw hc).le S n (by lia)
 lia
theorem d4v (S:Stk n ws cs) {b:Nat} (hb:b < n):(a1j cs ws n).getD b 0=ws.getD b 0 ∨ ∃ c∈cs,c.2.1=b∧(a1j cs ws n).getD c.1 0 + c.2.2=(a1j cs ws n).getD b 0:=by
 rcases (a6c S n).2.2 b hb with h | ⟨c,hc,e,h⟩
 ·exact .inl h
 ·refine .inr ⟨c,hc,e,?_⟩
  have:=d7u S hc
  rw [e] at this
  lia
theorem c2w (b k:Nat):(a1j cs ws k).getD b 0≤ws.getD b 0:=by have:=a6q cs ws b 0 k; rw [Nat.zero_add] at this; exact this
end
noncomputable def b3a (l:List Int) (b:Nat) (c:Chg):Bool:=decide (c.2.1=b∧l.getD c.1 0 + c.2.2=l.getD b 0)
noncomputable def a6p (o:Option Nat×Int) (c:Chg):Option Nat×Int:=if c.2.2 < o.2 then (some c.1,c.2.2) else o
noncomputable def sel (w:Int) (l:List Int) (b:Nat) (cs:List Chg):Option Nat×Int:=(cs.filter (b3a l b)).foldl a6p (none,w)
theorem a8b {n:Nat} {ws:List Int} {cs:List Chg} (S:Stk n ws cs) {b a:Nat} (h:(sel (ws.getD b 0) (a1j cs ws n) b cs).1=some a):a < n∧(a1j cs ws n).getD a 0 < (a1j cs ws n).getD b 0:=by
 have gen:∀ (fs:List Chg) (o:Option Nat×Int),(∀ c∈fs,c∈cs∧b3a (a1j cs ws n) b c=true)→(fs.foldl a6p o).1=some a→o.1=some a ∨ ∃ c∈fs,c.1=a:=by
  intro fs
  induction fs with
  | nil=>intro o _ h; exact .inl h
  | cons f fs ih =>
   intro o hf h
   rw [List.foldl_cons] at h
   rcases ih (a6p o f) (fun c hc=>hf c (Γh _ hc)) h with h | ⟨c,hc,e⟩
   ·unfold a6p at h
    split at h
    ·right; exact ⟨f,Γn,by simpa using h⟩
    ·exact .inl h
   ·exact .inr ⟨c,Γh _ hc,e⟩
 unfold sel at h
 rcases gen _ _ (fun c hc=>List.mem_filter.mp hc) h with h | ⟨c,hc,e⟩
 ·cases h
 ·obtain ⟨h1,h2⟩:=List.mem_filter.mp hc
  simp only [b3a,decide_eq_true_eq] at h2
  obtain ⟨ca,cb,cp⟩:=S.rng c h1
  subst e
  exact ⟨ca,by lia⟩
theorem c4q (d:Nat) {ws:List Int} {cs:List Chg} (h:GsB 1000000100 ws cs) {Q:FV×FV→Prop} (q:Q (.tup ((a1j cs ws ws.length).map .int),.non)):callW tb (d + 1) 0 [a2w ws cs] Q:=by
 have hw:=h.n
 have hc:=h.l
 refine a0l (fd:=fd0) rfl rfl ?_
 simp [fd0,bd0,a2w]
 refine ⟨a0i (by lia) (by lia),?_⟩
 refine a1h (I:=fun k L=>∃ y1 y2 y3 y4,L=[some (FV.tup [FV.tup (List.map FV.int ws),FV.tup (List.map a3a cs)]),some (FV.tup (List.map FV.int ws)),some (FV.tup (List.map a3a cs)),some (FV.lst ((a1j cs ws k).map .int)),y1,y2,y3,y4]) ws.length 0 _ ⟨_,_,_,_,rfl⟩ ?_ ?_
 ·rintro k L K - hk ⟨y1,y2,y3,y4,rfl⟩ kk
  simp
  refine a3f (f:=a3a) (I:=fun ds L=>∃ y2 y3 y4,L=[some (FV.tup [FV.tup (List.map FV.int ws),FV.tup (List.map a3a cs)]),some (FV.tup (List.map FV.int ws)),some (FV.tup (List.map a3a cs)),some (FV.lst ((b2n ds (a1j cs ws k)).map .int)),some (.int k),y2,y3,y4]) cs cs [] _ rfl ⟨_,_,_,rfl⟩ ?_ ?_
  ·rintro ds c r L K e ⟨y2,y3,y4,rfl⟩ kk
   have hc1:=h.c c (by rw [e]; simp)
   have hl:(b2n ds (a1j cs ws k)).length=ws.length:=by rw [b3w,a2r]
   have e1:b2n (ds++[c]) (a1j cs ws k)=a7r (b2n ds (a1j cs ws k)) c:=by simp [b2n]
   generalize b2n ds (a1j cs ws k)=ns at hl e1
   simp [a3a,big]
   rw [a3o (by lia),a3o (by lia)]
   simp
   rw [b9a rfl (by lia),← List.map_set]
   exact kk _ ⟨_,_,_,by rw [e1]; rfl⟩
  ·rintro L ⟨y2,y3,y4,rfl⟩
   exact kk _ ⟨_,_,_,_,rfl⟩
 ·rintro L ⟨y1,y2,y3,y4,rfl⟩
  simpa using q
noncomputable def b4l (n:Nat) (ws l:List Int) (ds:List Chg):List (Option Nat):=(List.range n).map fun b=>(sel (ws.getD b 0) l b ds).1
noncomputable def b2i (n:Nat) (ws l:List Int) (ds:List Chg):List Int:=(List.range n).map fun b=>(sel (ws.getD b 0) l b ds).2
theorem a9h (w:Int) (l:List Int) (b:Nat) (ds:List Chg) (c:Chg):sel w l b (ds++[c])=if b3a l b c=true then a6p (sel w l b ds) c else sel w l b ds:=by
 unfold sel
 rw [List.filter_append]
 by_cases h:b3a l b c=true
 ·rw [List.filter_cons_of_pos h,if_pos h]; simp
 ·rw [List.filter_cons_of_neg h,if_neg h]; simp
theorem a4q {α:Type} {n b:Nat} {f g:Nat→α} (hb:b < n) (h:∀ i,i≠b→g i=f i):(List.range n).map g=((List.range n).map f).set b (g b):=by
 apply List.ext_getElem
 ·simp
 ·intro i h1 h2
  simp only [List.getElem_map,List.getElem_range,List.getElem_set]
  by_cases hi:b=i
  ·subst hi; simp
  ·simp [hi,h i (fun z=>hi z.symm)]
theorem a4a {α:Type} {n:Nat} {f g:Nat→α} (h:∀ i,g i=f i):(List.range n).map g=(List.range n).map f:=by
 congr 1; funext i; exact h i
theorem b4k {n:Nat} {ws l:List Int} {ds:List Chg}:(b4l n ws l ds).length=n:=by simp [b4l]
theorem c1n {n:Nat} {ws l:List Int} {ds:List Chg}:(b2i n ws l ds).length=n:=by simp [b2i]
theorem c1o {n:Nat} {ws l:List Int} {ds:List Chg} {b:Nat} (h:b < n):(b2i n ws l ds).getD b 0=(sel (ws.getD b 0) l b ds).2:=by simp [b2i,h]
theorem c2x {n:Nat} {ws l:List Int} {ds:List Chg} {c:Chg} (hb:c.2.1 < n) :
  (l.getD c.1 0 + c.2.2=l.getD c.2.1 0∧c.2.2 < (b2i n ws l ds).getD c.2.1 0→b4l n ws l (ds++[c])=(b4l n ws l ds).set c.2.1 (some c.1)∧b2i n ws l (ds++[c])=(b2i n ws l ds).set c.2.1 c.2.2) ∧
  (¬ (l.getD c.1 0 + c.2.2=l.getD c.2.1 0∧c.2.2 < (b2i n ws l ds).getD c.2.1 0)→b4l n ws l (ds++[c])=b4l n ws l ds∧b2i n ws l (ds++[c])=b2i n ws l ds):=by
 have other:∀ i,i≠c.2.1→∀ w,sel w l i (ds++[c])=sel w l i ds:=fun i hi w=>by
  rw [a9h,if_neg]
  simp only [b3a,decide_eq_true_eq]
  exact fun z=>hi z.1.symm
 rw [c1o hb]
 constructor
 ·rintro ⟨h1,h2⟩
  have e:∀ w,w=ws.getD c.2.1 0→sel w l c.2.1 (ds++[c])=(some c.1,c.2.2):=fun w hw=>by
   subst hw
   rw [a9h,if_pos (by simp [b3a]; simpa using h1)]
   simp only [a6p]
   rw [if_pos h2]
  constructor
  ·unfold b4l
   rw [a4q (f:=fun b=>(sel (ws.getD b 0) l b ds).1) hb (fun i hi=>by rw [other i hi]),e _ rfl]
  ·unfold b2i
   rw [a4q (f:=fun b=>(sel (ws.getD b 0) l b ds).2) hb (fun i hi=>by rw [other i hi]),e _ rfl]
 ·intro h
  have e:∀ i,sel (ws.getD i 0) l i (ds++[c])=sel (ws.getD i 0) l i ds:=fun i=>by
   by_cases hi:i=c.2.1
   ·subst hi
    rw [a9h]
    split
    ·rename_i hl
     simp only [b3a,decide_eq_true_eq,true_and] at hl
     simp only [a6p]
     rw [if_neg (fun z=>h ⟨hl,z⟩)]
    ·rfl
   ·exact other i hi _
  exact ⟨a4a fun i=>by rw [e i],a4a fun i=>by rw [e i]⟩
theorem c7u {n:Nat} {ws l:List Int}:b4l n ws l []=Γj n none:=by
 unfold b4l sel
 simp only [List.filter_nil,List.foldl_nil]
 apply List.ext_getElem <;> simp
theorem c5x {n:Nat} {ws l:List Int} (h:ws.length=n):b2i n ws l []=ws:=by
 unfold b2i sel
 simp only [List.filter_nil,List.foldl_nil]
 apply List.ext_getElem
 ·simp [h]
 ·intro i h1 h2
  simp [h2]
theorem a7z {B:Int} {ws:List Int} {cs:List Chg} (h:GsB B ws cs) (hr:Ris cs):Stk ws.length ws cs :=
 ⟨rfl,fun w hw=>(h.w w hw).1,fun c hc=>⟨(h.c c hc).1,(h.c c hc).2.1,(h.c c hc).2.2.2.1⟩,hr.imp fun h=>by lia⟩
noncomputable def soL (ws:List Int) (cs:List Chg):List (Option Nat):=b4l ws.length ws (a1j cs ws ws.length) cs
theorem c2i (d:Nat) {ws:List Int} {cs:List Chg} (h:GsB 1000000100 ws cs) {Q:FV×FV→Prop} (q:Q (.tup ((soL ws cs).map a1d),.non)):callW tb (d + 2) 1 [a2w ws cs] Q:=by
 have hw:=h.n
 have hc:=h.l
 refine a0l (fd:=fd1) rfl rfl ?_
 simp [fd1,bd1]
 simp [a2w]
 rw [show (FV.tup [FV.tup (List.map FV.int ws),FV.tup (List.map a3a cs)])=a2w ws cs from rfl]
 refine c4q d h ?_
 have hL:(a1j cs ws ws.length).length=ws.length:=by rw [a2r]
 simp [big]
 refine ⟨⟨by lia,by lia⟩,?_⟩
 rw [show Γj ws.length FV.non=(b4l ws.length ws (a1j cs ws ws.length) []).map a1d by rw [c7u,List.map_replicate]; rfl]
 refine a3f (f:=a3a) (I:=fun ds L=>∃ x y z,L=[some (a2w ws cs),some (FV.tup (List.map FV.int ws)),some (FV.tup (List.map a3a cs)),some (FV.tup (List.map FV.int (a1j cs ws ws.length))),some (FV.lst ((b4l ws.length ws (a1j cs ws ws.length) ds).map a1d)),some (FV.lst ((b2i ws.length ws (a1j cs ws ws.length) ds).map .int)),x,y,z]) cs cs [] _ rfl ⟨_,_,_,by rw [c5x rfl]⟩ ?_ ?_
 ·rintro ds c r L K e ⟨x,y,z,rfl⟩ kk
  have hc1:=h.c c (by rw [e]; simp)
  have hs:(b2i ws.length ws (a1j cs ws ws.length) ds).length=ws.length:=c1n
  have hl:(b4l ws.length ws (a1j cs ws ws.length) ds).length=ws.length:=b4k
  obtain ⟨st1,st2⟩:=c2x (ws:=ws) (l:=a1j cs ws ws.length) (ds:=ds) hc1.2.1
  simp [a3a]
  rw [a3o (by lia)]
  simp
  rw [a3o (by lia)]
  simp
  refine ite2 (fun h1=>?_) (fun h1=>?_)
  ·rw [a3o (by lia)]
   simp
   refine ite2 (fun h2=>?_) (fun h2=>?_)
   ·obtain ⟨e1,e2⟩:=st1 ⟨by simpa using h1,by simpa using h2⟩
    rw [hl,b9a rfl (by lia),hs,b9a rfl (by lia)]
    rw [e1,e2] at kk
    refine kk _ ⟨some (.int c.1),some (.int c.2.1),some (.int c.2.2),?_⟩
    simp [List.map_set,a1d]
   ·obtain ⟨e1,e2⟩:=st2 (fun z=>h2 (by simpa using z.2))
    exact kk _ ⟨_,_,_,by rw [e1,e2]⟩
  ·obtain ⟨e1,e2⟩:=st2 (fun z=>h1 (by simpa using z.1))
   exact kk _ ⟨_,_,_,by rw [e1,e2]⟩
 ·rintro L ⟨x,y,z,rfl⟩
  rw [soL] at q
  simpa using q
noncomputable def tInt (t:List Int):FV:=.tup (t.map .int)
theorem a9g {n:Nat} {ws:List Int} {cs:List Chg} {l:List Int} {w:Int} {b a:Nat} (h:(sel w l b cs).1=some a):∃ c∈cs,c.1=a∧c.2.1=b∧l.getD a 0 + c.2.2=l.getD b 0∧(sel w l b cs).2=c.2.2:=by
 have gen:∀ (fs:List Chg) (o:Option Nat×Int),(fs.foldl a6p o).1=some a→(fs.foldl a6p o=o∧o.1=some a) ∨ ∃ c∈fs,c.1=a∧(fs.foldl a6p o).2=c.2.2:=by
  intro fs
  induction fs with
  | nil=>intro o h; exact .inl ⟨rfl,h⟩
  | cons f fs ih =>
   intro o h
   rw [List.foldl_cons] at h ⊢
   rcases ih (a6p o f) h with ⟨h1,h2⟩ | ⟨c,hc,e⟩
   ·rw [h1]
    unfold a6p at h2 ⊢
    split at h2
    ·rename_i hh
     rw [if_pos hh]
     right; exact ⟨f,Γn,by simpa using h2,rfl⟩
    ·rename_i hh
     rw [if_neg hh]
     exact .inl ⟨rfl,h2⟩
   ·exact .inr ⟨c,Γh _ hc,e⟩
 unfold sel at h ⊢
 rcases gen _ _ h with ⟨_,h⟩ | ⟨c,hc,e,e2⟩
 ·cases h
 ·obtain ⟨h1,h2⟩:=List.mem_filter.mp hc
  simp only [b3a,decide_eq_true_eq] at h2
  subst e
  exact ⟨c,h1,rfl,h2.1,h2.2,e2⟩
theorem b0u {fs:List Chg}:∀ {o:Option Nat×Int},o.1≠none→(fs.foldl a6p o).1≠none:=by
 induction fs with
 | nil=>intro o h; exact h
 | cons f fs ih =>
  intro o h
  rw [List.foldl_cons]
  refine ih ?_
  unfold a6p
  split
  ·simp
  ·exact h
theorem c1x {n:Nat} {ws:List Int} {cs:List Chg} (S:Stk n ws cs) {b:Nat} (hb:b < n) (h:(sel (ws.getD b 0) (a1j cs ws n) b cs).1=none):(a1j cs ws n).getD b 0=ws.getD b 0:=by
 rcases d4v S hb with e | ⟨c,hc,e,e2⟩
 ·exact e
 ·exfalso
  have hm:c∈cs.filter (b3a (a1j cs ws n) b):=List.mem_filter.mpr ⟨hc,by simp only [b3a,decide_eq_true_eq]; exact ⟨e,e2⟩⟩
  have hlt:∀ c∈cs.filter (b3a (a1j cs ws n) b),c.2.2 < ws.getD b 0:=fun c hc=>by
   obtain ⟨h1,h2⟩:=List.mem_filter.mp hc
   simp only [b3a,decide_eq_true_eq] at h2
   have p:=(a6c S n).2.1 c.1 (S.rng c h1).1
   have q:=c2w (ws:=ws) (cs:=cs) b n
   lia
  unfold sel at h
  generalize cs.filter (b3a (a1j cs ws n) b)=fs at hm hlt h
  cases fs with
  | nil=>cases hm
  | cons f fs =>
   have hf:=hlt f Γn
   have e1:a6p (none,ws.getD b 0) f=(some f.1,f.2.2):=by simp only [a6p]; rw [if_pos hf]
   rw [List.foldl_cons,e1] at h
   exact b0u (by simp) h
theorem a2u (ws:List Int) (cs:List Chg):(soL ws cs).length=ws.length:=b4k
theorem a6o {ws:List Int} {cs:List Chg} {b:Nat} (hb:b < ws.length):(soL ws cs).getD b none=(sel (ws.getD b 0) (a1j cs ws ws.length) b cs).1:=by simp [soL,b4l,hb]
theorem a9b (ws:List Int) (cs:List Chg):Rst cs (soL ws cs):=by
 intro m a e
 have hm:m < ws.length:=by have:=(List.getElem?_eq_some_iff.mp e).1; rwa [a2u] at this
 have e2:(soL ws cs).getD m none=some a:=by rw [List.getD,e]; rfl
 rw [a6o hm] at e2
 obtain ⟨c,hc,h1,h2,-⟩:=a9g (n:=ws.length) (ws:=ws) e2
 exact List.mem_map.mpr ⟨c,hc,by simp [keyH,h1,h2]⟩
theorem c6b {ws:List Int} {cs:List Chg} (S:Stk ws.length ws cs):∀ (r b:Nat),b < ws.length→b2o ws.length (a1j cs ws ws.length) b≤r→itr (soL ws cs) (some b) (r + 1)=none:=by
 intro r
 induction r with
 | zero =>
  intro b hb hr
  rw [a1x]
  show itr _ ((soL ws cs).getD b none) 0=none
  rw [a6o hb]
  cases e:(sel (ws.getD b 0) (a1j cs ws ws.length) b cs).1 with
  | none=>rfl
  | some a =>
   exfalso
   obtain ⟨h1,h2⟩:=a8b S e
   have:0 < b2o ws.length (a1j cs ws ws.length) b:=by
    unfold b2o
    rw [List.countP_pos_iff]
    exact ⟨a,List.mem_range.mpr h1,by simp only [decide_eq_true_eq]; lia⟩
   lia
 | succ r ih =>
  intro b hb hr
  rw [a1x]
  show itr _ ((soL ws cs).getD b none) (r + 1)=none
  rw [a6o hb]
  cases e:(sel (ws.getD b 0) (a1j cs ws ws.length) b cs).1 with
  | none=>exact b9c _ _
  | some a =>
   obtain ⟨h1,h2⟩:=a8b S e
   refine ih a h1 ?_
   have hlt:b2o ws.length (a1j cs ws ws.length) a < b2o ws.length (a1j cs ws ws.length) b:=by
    unfold b2o
    refine a7o _ _ (fun x hx=>?_) _ a (List.mem_range.mpr h1) ?_ ?_
    ·simp only [decide_eq_true_eq] at hx ⊢; lia
    ·simp only [decide_eq_true_eq]; lia
    ·simp
   lia
theorem a6e {ws:List Int} {cs:List Chg} (S:Stk ws.length ws cs):a7f (soL ws cs)=true:=by
 rw [a7f,List.all_eq_true]
 intro m hm
 rw [a2u] at hm ⊢
 have hm:=List.mem_range.mp hm
 rw [a4s (c6b S _ m hm (Γi _)) ws.length (b7n hm)]; rfl
theorem a9a {cs:List Chg} (hd:(cs.map fun c=>(c.1,c.2.1)).Nodup) {c:Chg} (hc:c∈cs):szc cs c.1 c.2.1=c.2.2:=by
 unfold szc
 induction cs with
 | nil=>cases hc
 | cons x r ih =>
  rw [List.map_cons,List.nodup_cons] at hd
  rw [List.find?_cons]
  by_cases e:x.1=c.1∧x.2.1=c.2.1
  ·rw [decide_eq_true e]
   rcases List.mem_cons.mp hc with rfl | hc
   ·rfl
   ·exact absurd (List.mem_map.mpr ⟨c,hc,by rw [e.1,e.2]⟩) hd.1
  ·rw [decide_eq_false e]
   rcases List.mem_cons.mp hc with rfl | hc
   ·exact absurd ⟨rfl,rfl⟩ e
   ·exact ih hd.2 hc
theorem b7e {B:Int} {ws:List Int} {cs:List Chg} (h:GsB B ws cs) (hr:Ris cs) {m:Nat} {l:List Nat} (w:Way (soL ws cs) m l):m < ws.length→(l.map (kpL ws cs (soL ws cs))).sum=(a1j cs ws ws.length).getD m 0:=by
 have S:=a7z h hr
 induction w with
 | @root m e =>
  intro hm
  rw [a6o hm] at e
  have e2:=c1x S hm e
  rw [e2]
  simp only [List.map_cons,List.map_nil,List.sum_cons,List.sum_nil,kpL,a6o hm,e]
  lia
 | @step m a l e w ih =>
  intro hm
  have e0:=e
  rw [a6o hm] at e
  obtain ⟨c,hc,h1,h2,h3,-⟩:=a9g (n:=ws.length) (ws:=ws) e
  have ha:a < ws.length:=h1 ▸ (h.c c hc).1
  have hz:=a9a h.d hc
  rw [h1,h2] at hz
  rw [List.map_append,List.sum_append,ih ha]
  simp only [List.map_cons,List.map_nil,List.sum_cons,List.sum_nil,kpL,e0,hz]
  lia
theorem c4k {B:Int} {ws:List Int} {cs:List Chg} (h:GsB B ws cs) (hr:Ris cs):(List.range (soL ws cs).length).map (rdL ws cs (soL ws cs))=a1j cs ws ws.length:=by
 apply List.ext_getElem
 ·simp [a2u,a2r]
 ·intro i h1 h2
  have hi:i < ws.length:=by simpa [a2u] using h1
  have:=b7e h hr (a5i (a6e (a7z h hr)) (by rw [a2u]; exact hi)).1 hi
  simp only [List.getElem_map,List.getElem_range,rdL,this]
  simp [List.getD,h2]
theorem c6h {ns:List Int} {c:Chg} (hc:1≤c.2.2) (h1:c.1 < ns.length) (h2:c.2.1 < ns.length) (h:∀ x∈ns,1≤x∧x < 1000000100):∀ x∈a7r ns c,1≤x∧x < 1000000100:=by
 intro x hx
 rcases List.mem_or_eq_of_mem_set hx with hx | rfl
 ·exact h x hx
 ·have a1:=h (ns.getD c.2.1 0) (by simp [List.getD,h2])
  have a2:=h (ns.getD c.1 0) (by simp [List.getD,h1])
  lia
theorem b7l {N:Nat}:∀ (cs:List Chg) (ns:List Int),(∀ c∈cs,c.1 < N∧c.2.1 < N∧1≤c.2.2)→ns.length=N→(∀ x∈ns,1≤x∧x < 1000000100)→∀ x∈b2n cs ns,1≤x∧x < 1000000100
 | [],ns,_,_,h=>h
 | c :: r,ns,hc,hl,h=>by
  have h1:=hc c (by simp)
  refine b7l r (a7r ns c) (fun c' h'=>hc c' (Γh _ h')) (by simp [a7r,hl]) (c6h h1.2.2 (by lia) (by lia) h)
theorem b7j {ws:List Int} {cs:List Chg} (h:GsB 1000000100 ws cs):∀ k,∀ x∈a1j cs ws k,1≤x∧x < 1000000100
 | 0=>h.w
 | k + 1=>b7l (N:=ws.length) cs _ (fun c hc=>⟨(h.c c hc).1,(h.c c hc).2.1,(h.c c hc).2.2.2.1⟩) (a2r cs ws k) (b7j h k)
theorem d6w {ws:List Int} {cs:List Chg} (h:GsB 1000000100 ws cs):Vl (12 * 42) 1 (.tup ((a1j cs ws ws.length).map .int)):=by
 refine Vl.tup (fun x hx=>?_) (by rw [List.length_map,a2r]; exact h.n)
 obtain ⟨i,hi,rfl⟩:=List.mem_map.mp hx
 have:=b7j h _ i hi
 exact Vl.int (by lia) (by lia)
noncomputable def a3r (b:List (Option Nat)):FV:=.tup (b.map a1d)
theorem b1j {b:List (Option Nat)} {x:Option Nat} (h:x≠some b.length):c3c b x↔c3c b (stp b x):=by
 constructor
 ·rintro ⟨k,hk⟩
  cases k with
  | zero=>exact absurd hk h
  | succ k=>rw [a1x] at hk; exact ⟨k,hk⟩
 ·rintro ⟨k,hk⟩
  exact ⟨k + 1,by rw [a1x]; exact hk⟩
theorem c4u {b:List (Option Nat)}:¬ c3c b none:=by
 rintro ⟨k,hk⟩
 rw [b9c] at hk; cases hk
theorem c8i {b:List (Option Nat)} {a:Nat} (h:b.length≤a):c3c b (some a)↔a=b.length:=by
 constructor
 ·intro hh
  by_cases z:a=b.length
  ·exact z
  ·rw [b1j (by simpa using z)] at hh
   have:stp b (some a)=none:=by simp only [stp,List.getD]; rw [List.getElem?_eq_none (by lia)]; rfl
   rw [this] at hh
   exact absurd hh c4u
 ·rintro rfl; exact ⟨0,rfl⟩
theorem c0s (d:Nat) {b:List (Option Nat)} (h:acy b) (hb:b.length≤12) {o:Option Nat} {Q:FV×FV→Prop} (q:Q (.bl (clB b o),.non)):callW tb (d + 1) 12 [a3r b,a1d o] Q:=by
 refine a0l (fd:=d9g) rfl rfl ?_
 simp [d9g,e0w,a3r]
 obtain ⟨k0,hk0⟩:=b4r h (o:=o)
 refine while_by (I:=fun k L=>∃ x,L=[some (.tup (b.map a1d)),some (a1d x),some (.int b.length)]∧itr b x k=none∧(c3c b x↔c3c b o)) ?_ (m:=k0) ⟨o,rfl,hk0,Iff.rfl⟩
 rintro k L K ⟨x,rfl,hk,hh⟩ kk
 cases x with
 | none =>
  simp [a1d]
  have:clB b o=false:=by unfold clB; simp [← hh,c4u]
  rw [this] at q; exact q
 | some a =>
  simp [a1d]
  refine ite2 (fun ha=>?_) (fun ha=>?_)
  ·rw [a6a ha]
   cases k with
   | zero=>cases hk
   | succ k =>
    rw [a1x] at hk
    refine kk k _ (by lia) ⟨b.getD a none,rfl,hk,?_⟩
    rw [← hh,b1j (x:=some a) (by simp; lia)]; rfl
  ·have h1:clB b o=decide (a=b.length):=by
    unfold clB
    rw [decide_eq_decide,← hh]
    exact c8i (by lia)
   have h2:((a:Int) == (b.length:Int))=decide (a=b.length):=by
    rw [Bool.eq_iff_iff,beq_iff_eq,decide_eq_true_eq]; lia
   rw [h2,← h1]; exact q
theorem b4j {cs:List Chg} {m:Nat} {b:List (Option Nat)} (h:b∈a5x cs m):b.length=m∧acy b∧∀ i o,b[i]?=some o→o∈a2t cs i:=by
 rw [a9v] at h
 obtain ⟨h1,h2⟩:=List.mem_filter.mp h
 obtain ⟨g1,g2⟩:=a5c _ m b h1
 exact ⟨g1,by unfold acB at h2; simpa using h2,g2⟩
theorem b8u (cs:List Chg) (m:Nat):(a5x cs m).length≤(a4b (a2t cs) m).length:=by
 rw [a9v]; exact List.length_filter_le _ _
noncomputable def b1k (cs:List Chg) (m:Nat) (b:List (Option Nat)):List (List (Option Nat)):=((a2t cs m).filter fun o=>!clB b o).map fun o=>b++[o]
theorem b4s (cs:List Chg) (m:Nat):(a2t cs m).map a1d=.non :: (cs.filter fun c=>decide (c.2.1=m)).map fun c=>FV.int c.1:=by
 simp [a2t,a1d,Function.comp_def]
theorem b9q {α β:Type} (g:α→List β) {all d r:List α} {x:α} (e:all=d++x :: r):(d.flatMap g).length + (g x).length≤(all.flatMap g).length:=by
 subst e; simp
theorem c8w (d:Nat) {ws:List Int} {cs:List Chg} (h:Gs ws cs) (hA:∀ m,m≤ws.length→(a4b (a2t cs) m).length≤10000) {Q:FV×FV→Prop} (q:Q (.lst ((a5x cs ws.length).map a3r),.non)):callW tb (d + 2) 11 [a2w ws cs] Q:=by
 have hn:=h.n
 have hcl:=h.l
 refine a0l (fd:=d9h) rfl rfl ?_
 simp [d9h,e0x,a1o,big]
 refine ⟨a0i (by lia) (by lia),?_⟩
 refine a1h (I:=fun m L=>∃ y z,L=[some (a2w ws cs),some (.lst ((a5x cs m).map a3r)),y,z]) _ 0 _ ⟨_,_,rfl⟩ ?_ ?_
 ·rintro m L K - hm ⟨y,z,rfl⟩ kk
  simp [a1o]
  refine ⟨by simp only [big]; lia,by simp only [big]; lia,?_⟩
  refine a1w (f:=a3a) (g:=fun c=>FV.int c.1) (p:=fun c=>decide (c.2.1=m)) cs [] (fun c hc K N k1 k2=>?_) ?_
  ·simp [a3a]
   refine ite2 (fun hc2=>?_) (fun hc2=>?_)
   ·exact k1 (by simp; lia)
   ·exact k2 (by simp; lia)
  ·simp
   have hcl2:=List.length_filter_le (fun c:Chg=>decide (c.2.1=m)) cs
   refine ⟨by simp only [big]; lia,?_⟩
   rw [← b4s]
   have hAm:=hA (m + 1) (by lia)
   have hLe:=b8u cs (m + 1)
   have hCl:(a2t cs m).length≤145:=by simp [a2t]; lia
   refine a8q (f:=a3r) (I:=fun ds acc L=>L=[some (a2w ws cs),some (.lst ((a5x cs m).map a3r)),some (.int m),some (.lst ((a2t cs m).map a1d))]∧acc=(ds.flatMap (b1k cs m)).map a3r) (a5x cs m) _ [] [] _ rfl ⟨rfl,rfl⟩ ?_ ?_
   ·rintro ds b r acc L K e ⟨rfl,rfl⟩ k
    obtain ⟨hb,ha,-⟩:=b4j (cs:=cs) (m:=m) (b:=b) (by rw [e]; simp)
    have hlen:(ds.flatMap (b1k cs m)).length≤10000:=by
     have:=b9q (b1k cs m) e
     have h2:(a5x cs m).flatMap (b1k cs m)=a5x cs (m + 1):=rfl
     rw [h2] at this; lia
    have kk2:∀ acc L',acc=(ds.flatMap (b1k cs m)).map a3r++(b1k cs m b).map a3r→L'=[some (a2w ws cs),some (.lst ((a5x cs m).map a3r)),some (.int m),some (.lst ((a2t cs m).map a1d))]→K acc L':=fun acc L' e1 e2=>k _ _ ⟨e2,by rw [e1,List.flatMap_append,List.map_append]; simp⟩
    clear k
    generalize hA0:(ds.flatMap (b1k cs m)).map a3r=A0 at kk2 ⊢
    have hA1:A0.length≤10000:=by rw [← hA0,List.length_map]; exact hlen
    simp
    refine ⟨by simp only [big]; lia,?_⟩
    refine b9m (f:=a1d) (I:=fun es acc L=>∃ y,L=[some (a2w ws cs),some (.lst ((a5x cs m).map a3r)),some (.int m),some (.lst ((a2t cs m).map a1d)),some (a3r b),y]∧acc=A0++((es.filter fun o=>!clB b o).map fun o=>b++[o]).map a3r) (a2t cs m) _ [] _ _ rfl ⟨_,rfl,by simp⟩ ?_ ?_
    ·rintro es o r' acc L K2 e2 ⟨y,rfl,rfl⟩ k2
     simp
     refine c0s d ha (by lia) ?_
     simp
     refine ite2 (fun hc=>?_) (fun hc=>?_)
     ·refine k2 _ _ ⟨_,rfl,?_⟩
      rw [List.filter_append]
      simp [hc]
     ·simp only [a3r]
      simp [big]
      refine ⟨by lia,?_⟩
      refine k2 _ _ ⟨_,rfl,?_⟩
      rw [List.filter_append]
      simp [hc,a3r]
    ·rintro ys L ⟨y,rfl,rfl⟩
     simp
     exact kk2 _ _ (by simp [b1k]) rfl
   ·rintro ys L ⟨rfl,rfl⟩
    simp
    exact kk _ ⟨_,_,rfl⟩
 ·rintro L ⟨y,z,rfl⟩
  simp
  simpa using q
theorem c2v (d:Nat) {ws:List Int} {cs:List Chg} (h:Gs ws cs) {b:List (Option Nat)} (hl:b.length=ws.length) (hr:Rst cs b) {Q:FV×FV→Prop} (q:Q (.bl (a7f b),.non)):callW tb (d + 2) 24 [a2w ws cs,a3r b] Q:=by
 have e:b.map a1d=(b.map fun o=>match o with | none=>D.non | some a=>D.int (a:Int)).map dF:=by
  rw [List.map_map]
  apply List.map_congr_left
  intro o _
  cases o <;> rfl
 have hk:=c4n hr
 have hm:=b8m b
 rw [a3r,e]
 refine c7p d h _ (by simp [hl]) ?_ ?_
 ·intro x hx
  obtain ⟨o,-,rfl⟩:=List.mem_map.mp hx
  cases o with
  | none=>exact .inl rfl
  | some a=>exact .inr ⟨_,rfl⟩
 ·rw [← e,hk,hm]; exact q
theorem c0u {cs:List Chg} {b:List (Option Nat)} (h:∀ i o,b[i]?=some o→o∈a2t cs i):Rst cs b:=by
 intro m a e
 rcases List.mem_cons.mp (h m _ e) with z | z
 ·cases z
 ·obtain ⟨c,hc,z⟩:=List.mem_map.mp z
  obtain ⟨h1,h2⟩:=List.mem_filter.mp hc
  cases z
  refine List.mem_map.mpr ⟨c,h1,?_⟩
  simp at h2
  simp [keyH,h2]
noncomputable def Few (ws:List Int) (cs:List Chg):Prop:=ws.length≤4 ∨ ws.length≤5∧cs.length≤8
theorem b5b {ch:Nat→List (Option Nat)} {k:Nat}:∀ m,(∀ i,i < m→(ch i).length≤k)→(a4b ch m).length≤k ^ m
 | 0,_=>by simp [a4b]
 | m + 1,h=>by
  have ih:=b5b m fun i hi=>h i (by lia)
  rw [a4b,List.length_flatMap]
  have:((a4b ch m).map fun b=>((ch m).map fun o=>b++[o]).length).sum=(a4b ch m).length * (ch m).length:=by
   generalize a4b ch m=l
   induction l with
   | nil=>simp
   | cons x r ih=>rw [List.map_cons,List.sum_cons,ih,List.length_map,List.length_cons,Nat.add_mul]; lia
  rw [this,Nat.pow_succ]
  exact Nat.mul_le_mul ih (h m (by lia))
theorem b5a (cs:List Chg):∀ m,(a4b (a2t cs) m).length≤2 ^ (cs.countP fun c=>decide (c.2.1 < m))
 | 0=>by simp [a4b]
 | m + 1=>by
  have ih:=b5a cs m
  rw [a4b,List.length_flatMap]
  have:((a4b (a2t cs) m).map fun b=>((a2t cs m).map fun o=>b++[o]).length).sum=(a4b (a2t cs) m).length * (a2t cs m).length:=by
   generalize a4b (a2t cs) m=l
   induction l with
   | nil=>simp
   | cons x r ih=>rw [List.map_cons,List.sum_cons,ih,List.length_map,List.length_cons,Nat.add_mul]; lia
  have h2:(cs.countP fun c=>decide (c.2.1 < m + 1))=(cs.countP fun c=>decide (c.2.1 < m)) + (cs.countP fun c=>decide (c.2.1=m)):=by
   clear ih this
   induction cs with
   | nil=>rfl
   | cons c r ih =>
    simp only [List.countP_cons,ih]
    by_cases h1:c.2.1 < m
    ·simp [h1,show c.2.1 < m + 1 by lia,show ¬ c.2.1=m by lia]; lia
    ·by_cases h3:c.2.1=m
     ·simp [h3]; lia
     ·simp [h1,h3,show ¬ c.2.1 < m + 1 by lia]
  have h3:(a2t cs m).length≤2 ^ (cs.countP fun c=>decide (c.2.1=m)):=by
   rw [a2t,List.length_cons,List.length_map,← List.countP_eq_length_filter]
   exact Nat.lt_two_pow_self
  rw [this,h2,Nat.pow_add]
  exact Nat.mul_le_mul ih h3
theorem c8p {B:Int} {ws:List Int} {cs:List Chg} (h:GsB B ws cs) (m:Nat) (hm:m < ws.length):(a2t cs m).length≤ws.length:=by
 rw [a2t,List.length_cons,List.length_map]
 have h1:((cs.filter fun c=>decide (c.2.1=m)).map fun c=>c.1).Nodup:=by
  have hd:=h.d
  rw [List.nodup_iff_pairwise_ne,List.pairwise_map] at hd ⊢
  rw [List.pairwise_filter]
  refine hd.imp fun {x y} hxy h1 h2 e=>hxy ?_
  simp at h1 h2
  rw [e,h1,h2]
 have h2:(m :: ((cs.filter fun c=>decide (c.2.1=m)).map fun c=>c.1)).Nodup:=by
  rw [List.nodup_cons]
  refine ⟨fun z=>?_,h1⟩
  obtain ⟨c,hc,e⟩:=List.mem_map.mp z
  obtain ⟨hc,e2⟩:=List.mem_filter.mp hc
  have:=(h.c c hc).2.2.1
  simp at e2; lia
 have:=a4o ws.length _ h2 (fun i hi=>by
  rcases List.mem_cons.mp hi with rfl | hi
  ·exact hm
  ·obtain ⟨c,hc,rfl⟩:=List.mem_map.mp hi
   exact (h.c c (List.mem_filter.mp hc).1).1)
 simpa using this
theorem c8h {B:Int} {ws:List Int} {cs:List Chg} (h:GsB B ws cs) (hf:Few ws cs):∀ m,m≤ws.length→(a4b (a2t cs) m).length≤256:=by
 intro m hm
 rcases hf with hf | ⟨-,hf⟩
 ·refine Nat.le_trans (b5b (k:=4) m fun i hi=>?_) ?_
  ·have:=c8p h i (by lia); lia
  ·exact Nat.le_trans (Nat.pow_le_pow_right (by decide) (show m≤4 by lia)) (by decide)
 ·refine Nat.le_trans (b5a cs m) (Nat.le_trans (Nat.pow_le_pow_right (by decide) (Nat.le_trans List.countP_le_length hf)) (by decide))
theorem c7n {xs:List Int} {x:Int} {r:List Int} (h:xs=x :: r) (Q:FV→Prop):wp (d3u (xs.map .int)) Q↔Q (.int (a1p x r)):=by
 subst h
 simp only [d3u,b0b,Option.bind_some]; rfl
theorem c2n {ws:List Int} {cs cs2:List Chg} (h:GsB 1000000100 ws cs) (t:Nat) (h2:cs2.Perm ((cs.drop t++cs.take t).take 8)):GsB 1000000100 ws cs2∧(kvK cs2).Nodup∧cs2.length≤8:=by
 have sub:∀ c∈cs2,c∈cs:=fun c hc=>by
  have:=List.mem_of_mem_take (h2.mem_iff.mp hc)
  rcases List.mem_append.mp this with z | z
  ·exact List.mem_of_mem_drop z
  ·exact List.mem_of_mem_take z
 have hl:cs2.length≤8:=by rw [h2.length_eq,List.length_take]; lia
 have pr:(cs.drop t++cs.take t).Perm cs:=by
  have:=(List.perm_append_comm (l₁:=cs.drop t) (l₂:=cs.take t))
  rwa [List.take_append_drop] at this
 have nd:(cs2.map fun c=>(c.1,c.2.1)).Nodup:=by
  have h3:((cs.drop t++cs.take t).map fun c=>(c.1,c.2.1)).Nodup:=(pr.map _).nodup_iff.mpr h.d
  exact (h2.map _).nodup_iff.mpr (h3.sublist ((List.take_sublist _ _).map _))
 have nk:(kvK cs2).Nodup:=by
  unfold kvK
  rw [List.nodup_iff_pairwise_ne,List.pairwise_map] at nd ⊢
  refine nd.imp fun {a b} hab e=>hab ?_
  have:=a6h e
  rw [this.1,this.2]
 exact ⟨⟨h.n,h.w,fun c hc=>h.c c (sub c hc),by have:=h.l; lia,nd⟩,nk,hl⟩
theorem d2l (d:Nat) {n:Int} {v:FV} {Q:FV×FV→Prop} (hs:Lf n v) (h0:0≤n) (hn:n < 5000) (q:∀ (ws:List Int) (cs:List Chg) v',GsB 1000000100 ws cs→Ris cs→Few ws cs→Lf (n + 900) v'→Q (a2w ws cs,v')):callW tb (d + 6) 26 [v] Q:=by
 refine a0l (fd:=d8t) rfl rfl ?_
 simp [d8t,e0k,big]
 refine a0v (d + 3) hs (by lia) (by decide) (by decide) fun u v1 u0 u1 l1=>?_
 simp
 refine ite2 (fun hu=>?_) (fun hu=>?_)
 ·refine a6x (m:=5) (d + 1) l1 (by lia) (by lia) (by lia) fun ws cs v2 hG hR hl l2=>?_
  have hcl:=hG.l
  simp [a1o]
  refine a0v (d + 3) l2 (by lia) (by lia) (by lia) fun t v3 t0 t1 l3=>?_
  obtain ⟨t,rfl⟩:=Int.eq_ofNat_of_zero_le t0
  simp [a1o]
  rw [b0g,c5h,show (8:Int)=((8:Nat):Int) from rfl,c5h,← List.map_drop,← List.map_take,← List.map_append,← List.map_take]
  have ht:t≤cs.length:=by lia
  refine ⟨by simp; simp only [big]; lia,?_⟩
  have hlt:((cs.drop t++cs.take t).take 8).length≤8:=by rw [List.length_take]; lia
  refine ⟨b6y _,by simp; lia,fun ys hy ho=>?_⟩
  obtain ⟨cs2,h2,rfl⟩:=a2s hy _ rfl
  rw [List.pairwise_map] at ho
  obtain ⟨g1,g2,g3⟩:=c2n hG t h2
  exact q ws cs2 v3 g1 (c4o g2 ho) (.inr ⟨by lia,g3⟩) (l3.mono (by lia))
 ·refine a0v (d + 3) l1 (by lia) (by decide) (by decide) fun m v2 m0 m1 l2=>?_
  obtain ⟨m,rfl⟩:=Int.eq_ofNat_of_zero_le m0
  obtain ⟨k,hk,hat⟩:∃ k:Nat,k≤4∧∀ Q:FV→Prop,wp (atF [FV.int 0,FV.int 1,FV.int 2,FV.int 3,FV.int 4,FV.int 3,FV.int 4,FV.int 4] (m:Int)) Q↔Q (.int (k:Nat)):=by
   rcases (by lia:m=0 ∨ m=1 ∨ m=2 ∨ m=3 ∨ m=4 ∨ m=5 ∨ m=6 ∨ m=7) with rfl | rfl | rfl | rfl | rfl | rfl | rfl | rfl
   ·exact ⟨0,by decide,fun Q=>a2d (n:=0) rfl rfl⟩
   ·exact ⟨1,by decide,fun Q=>a2d (n:=1) rfl rfl⟩
   ·exact ⟨2,by decide,fun Q=>a2d (n:=2) rfl rfl⟩
   ·exact ⟨3,by decide,fun Q=>a2d (n:=3) rfl rfl⟩
   ·exact ⟨4,by decide,fun Q=>a2d (n:=4) rfl rfl⟩
   ·exact ⟨3,by decide,fun Q=>a2d (n:=5) rfl rfl⟩
   ·exact ⟨4,by decide,fun Q=>a2d (n:=6) rfl rfl⟩
   ·exact ⟨4,by decide,fun Q=>a2d (n:=7) rfl rfl⟩
  simp
  rw [hat]
  refine a0v (d + 3) l2 (by lia) (by decide) (by decide) fun u2 v3 u20 u21 l3=>?_
  simp
  have fin:∀ (ws:List Int) (cs:List Chg) v',GsB 1000000100 ws cs→Ris cs→ws.length=k→Lf (n + 1 + 1 + 1 + 700) v'→Q (a2w ws cs,v'):=fun ws cs v' g1 g2 g3 g4=>q ws cs v' g1 g2 (.inl (by lia)) (g4.mono (by lia))
  have rest:(if u2=1 then callW tb (d + 5) 18 [v3,.int k] fun z=>Q (z.1,z.2) else callW tb (d + 5) 17 [v3,.int k] fun z=>Q (z.1,z.2)):=by
   refine ite2 (fun h1=>?_) (fun h1=>?_)
   ·exact c8j d l3 (by lia) (by lia) (by lia) fun ws cs v' g1 g2 _ g3 g4=>fin ws cs v' g1 g2 g3 g4
   ·exact a6x (d + 1) l3 (by lia) (by lia) (by lia) fin
  refine ite2 (fun h1=>ite2 (fun h2=>?_) (fun h2=>?_)) (fun h1=>rest)
  ·exact c3u d l3 (by lia) (by lia) (by lia) (by lia) fin
  ·exact rest
theorem c3n (d:Nat) {ws:List Int} {cs:List Chg} (h:Gs ws cs) (hA:∀ m,m≤ws.length→(a4b (a2t cs) m).length≤10000) {Q:FV×FV→Prop} (q:Q (.lst ((a5x cs ws.length).map a3r),.non)):callW tb (d + 3) 25 [a2w ws cs] Q:=by
 have hn:=h.n
 have hcl:=h.l
 refine a0l (fd:=d8u) rfl rfl ?_
 simp [d8u,e0l,a1o,big]
 refine ⟨a0i (by lia) (by lia),?_⟩
 refine a1h (I:=fun m L=>∃ y z w u,L=[some (a2w ws cs),some (.lst ((a4b (a2t cs) m).map a3r)),y,z,w,u]) _ 0 _ ⟨_,_,_,_,rfl⟩ ?_ ?_
 ·rintro m L K - hm ⟨y,z,w,u,rfl⟩ kk
  simp [a1o]
  refine ⟨by simp only [big]; lia,by simp only [big]; lia,?_⟩
  refine a1w (f:=a3a) (g:=fun c=>FV.int c.1) (p:=fun c=>decide (c.2.1=m)) cs [] (fun c hc K N k1 k2=>?_) ?_
  ·simp [a3a]
   refine ite2 (fun hc2=>?_) (fun hc2=>?_)
   ·exact k1 (by simp; lia)
   ·exact k2 (by simp; lia)
  ·simp
   have hcl2:=List.length_filter_le (fun c:Chg=>decide (c.2.1=m)) cs
   refine ⟨by simp only [big]; lia,?_⟩
   rw [← b4s]
   have hAm:=hA (m + 1) (by lia)
   have hCl:(a2t cs m).length≤145:=by simp [a2t]; lia
   refine a3f (f:=a3r) (I:=fun ds L=>∃ y,L=[some (a2w ws cs),some (.lst ((a4b (a2t cs) m).map a3r)),some (.int m),some (.lst ((a2t cs m).map a1d)),some (.lst ((ds.flatMap fun b=>(a2t cs m).map fun o=>b++[o]).map a3r)),y]) (a4b (a2t cs) m) _ [] _ rfl ⟨_,rfl⟩ ?_ ?_
   ·rintro ds b r L K2 e ⟨y,rfl⟩ k2
    have hlen:=b9q (fun b=>(a2t cs m).map fun o=>b++[o]) e
    rw [show ((a4b (a2t cs) m).flatMap fun b=>(a2t cs m).map fun o=>b++[o])=a4b (a2t cs) (m + 1) from rfl,List.length_map] at hlen
    have hb:=(a5c _ m b (by rw [e]; simp)).1
    have k2':=fun y=>k2 _ ⟨y,rfl⟩
    rw [List.flatMap_append,List.map_append,List.flatMap_cons,List.flatMap_nil,List.append_nil] at k2'
    clear k2
    generalize hA0:(ds.flatMap fun b=>(a2t cs m).map fun o=>b++[o]).map a3r=A0 at k2' ⊢
    have hA1:A0.length + (a2t cs m).length≤10000:=by rw [← hA0,List.length_map]; lia
    simp
    refine ⟨by simp only [big]; lia,?_⟩
    refine a1a (f:=a1d) (g:=fun o=>a3r (b++[o])) (a2t cs m) [] (fun o ho K k=>?_) ?_
    ·simp [a3r,big]
     refine ⟨by lia,?_⟩
     simpa [a3r] using k
    ·simp
     refine ⟨by simp only [big]; lia,?_⟩
     have:=k2' (some (a3r b))
     simpa [Function.comp_def] using this
   ·rintro L ⟨y,rfl⟩
    simp
    exact kk _ ⟨_,_,_,_,rfl⟩
 ·rintro L ⟨y,z,w,u,rfl⟩
  simp
  have hAm:=hA ws.length (Γi _)
  refine ⟨by lia,?_⟩
  refine a1w (f:=a3r) (g:=a3r) (p:=a7f) _ [] (fun b hb K N k1 k2=>?_) ?_
  ·obtain ⟨h1,h2⟩:=a5c _ _ b hb
   simp
   refine c2v d h h1 (c0u h2) ?_
   simp
   refine ite2 (fun hg=>?_) (fun hg=>?_)
   ·exact k1 hg
   ·exact k2 (by simpa using hg)
  ·rw [← a7b fun c hc=>(h.c c hc).1]
   simpa using q
theorem c1h {B:Int} {ws:List Int} {cs:List Chg} (h:GsB B ws cs) {ls:List (Option Nat)} (hr:Rst cs ls) (hl:ls.length=ws.length) {m:Nat} {l:List Nat} (w:Way ls m l):m < ws.length→Walk ws.length ws cs (l.length - 1) m ((l.map (kpL ws cs ls)).sum):=by
 induction w with
 | @root m e =>
  intro hm
  have:(([m].map (kpL ws cs ls)).sum)=ws.getD m 0:=by simp only [List.map_cons,List.map_nil,List.sum_cons,List.sum_nil,kpL,e]; lia
  rw [this]
  exact .whole hm
 | @step m a l e w ih =>
  intro hm
  obtain ⟨c,hc,e2⟩:=List.mem_map.mp (b0v hr (by lia) e)
  simp [keyH] at e2
  have h1:c.1=a:=by lia
  have h2:c.2.1=m:=by lia
  have ha:a < ws.length:=h1 ▸ (h.c c hc).1
  have hz:=a9a h.d hc
  rw [h1,h2] at hz
  have hs:((l++[m]).map (kpL ws cs ls)).sum=(l.map (kpL ws cs ls)).sum + c.2.2:=by
   rw [List.map_append,List.sum_append]
   simp only [List.map_cons,List.map_nil,List.sum_cons,List.sum_nil,kpL,e,hz]
   lia
  rw [hs,List.length_append,List.length_singleton,Nat.add_sub_cancel]
  have ih:=ih ha
  have hp:=w.pos
  have:l.length=l.length - 1 + 1:=by lia
  rw [this,← h2]
  exact .step (h1 ▸ ih) hc
theorem d5u {B:Int} {ws:List Int} {cs:List Chg} (h:GsB B ws cs) (hR:Ris cs) {ls:List (Option Nat)} (hr:Rst cs ls) (hg:a7f ls=true) (hl:ls.length=ws.length) {m:Nat} (hm:m < ws.length):(a1j cs ws ws.length).getD m 0≤rdL ws cs ls m:=by
 obtain ⟨w,hw⟩:=a5i hg (show m < ls.length by lia)
 exact (c1h h hr hl w hm).le (a7z h hR) ws.length (by lia)
theorem b2m:∀ (fs:List Chg) (o:Option Nat×Int),(fs.foldl a6p o).2≤o.2∧(∀ c∈fs,(fs.foldl a6p o).2≤c.2.2)∧((fs.foldl a6p o).1=none→(fs.foldl a6p o).2=o.2)
 | [],o=>⟨Int.le_refl _,fun c hc=>(nomatch hc),fun _=>rfl⟩
 | c :: r,o=>by
  obtain ⟨h1,h2,h3⟩:=b2m r (a6p o c)
  rw [List.foldl_cons]
  by_cases hc:c.2.2 < o.2
  ·have e:a6p o c=(some c.1,c.2.2):=if_pos hc
   rw [e] at h1 h2 h3 ⊢
   refine ⟨by dsimp only at h1; lia,fun x hx=>?_,fun z=>absurd z (b0u (by simp))⟩
   rcases List.mem_cons.mp hx with rfl | hx
   ·exact h1
   ·exact h2 x hx
  ·have e:a6p o c=o:=if_neg hc
   rw [e] at h1 h2 h3 ⊢
   refine ⟨h1,fun x hx=>?_,h3⟩
   rcases List.mem_cons.mp hx with rfl | hx
   ·lia
   ·exact h2 x hx
theorem d6y {B:Int} {ws:List Int} {cs:List Chg} (h:GsB B ws cs) (hR:Ris cs) {ls:List (Option Nat)} (hr:Rst cs ls) (hg:a7f ls=true) (hl:ls.length=ws.length) (he:∀ m,m < ws.length→rdL ws cs ls m=(a1j cs ws ws.length).getD m 0) {m:Nat} (hm:m < ws.length):kpL ws cs (soL ws cs) m≤kpL ws cs ls m:=by
 have ks:kpL ws cs (soL ws cs) m=(sel (ws.getD m 0) (a1j cs ws ws.length) m cs).2:=by
  unfold kpL
  rw [a6o hm]
  cases e:(sel (ws.getD m 0) (a1j cs ws ws.length) m cs).1 with
  | none=>exact ((b2m _ _).2.2 e).symm
  | some a =>
   obtain ⟨c,hc,h1,h2,_,h3⟩:=a9g (n:=ws.length) (ws:=ws) e
   have hz:=a9a h.d hc
   rw [h1,h2] at hz
   rw [h3,← hz]
 rw [ks]
 obtain ⟨s1,s2,_⟩:=b2m (cs.filter (b3a (a1j cs ws ws.length) m)) (none,ws.getD m 0)
 unfold kpL
 cases e:ls.getD m none with
 | none=>exact s1
 | some a =>
  obtain ⟨c,hc,e2⟩:=List.mem_map.mp (b0v hr (by lia) e)
  simp [keyH] at e2
  have h1:c.1=a:=by lia
  have h2:c.2.1=m:=by lia
  have ha:a < ws.length:=h1 ▸ (h.c c hc).1
  have hz:=a9a h.d hc
  rw [h1,h2] at hz
  obtain ⟨w,_⟩:=a5i hg (show a < ls.length by lia)
  obtain ⟨w',_⟩:=a5i hg (show m < ls.length by lia)
  have ew:=(Way.step e w).uniq w'
  have hrd:rdL ws cs ls m=rdL ws cs ls a + c.2.2:=by
   unfold rdL
   rw [← ew,List.map_append,List.sum_append]
   simp only [List.map_cons,List.map_nil,List.sum_cons,List.sum_nil,kpL,e,hz]
   lia
  rw [he m hm,he a ha] at hrd
  show _≤szc cs a m
  rw [hz]
  refine s2 c (List.mem_filter.mpr ⟨hc,decide_eq_true ⟨h2,?_⟩⟩)
  rw [h1]; lia
theorem b3r {f g:Nat→Int}:∀ l:List Nat,(∀ x∈l,f x≤g x)→(l.map f).sum≤(l.map g).sum
 | [],_=>Int.le_refl _
 | x :: r,h=>by
  have h1:=h x Γn
  have h2:=b3r r fun y hy=>h y (Γh _ hy)
  simp only [List.map_cons,List.sum_cons]; lia
theorem b5c (ch:Nat→List (Option Nat)):∀ (m:Nat) (b:List (Option Nat)),b.length=m→(∀ i o,b[i]?=some o→o∈ch i)→b∈a4b ch m
 | 0,b,hl,_=>by
  cases b with
  | nil=>simp [a4b]
  | cons x r=>simp at hl
 | m + 1,b,hl,h=>by
  obtain ⟨r,o,rfl⟩:∃ r o,b=r++[o]:=⟨b.dropLast,b.getLast (by intro z; simp [z] at hl),(List.dropLast_concat_getLast _).symm⟩
  have hrl:r.length=m:=by simpa using hl
  have ih:=b5c ch m r hrl fun i o' e=>h i o' (by rw [List.getElem?_append_left (List.getElem?_eq_some_iff.mp e).1]; exact e)
  rw [a4b]
  exact List.mem_flatMap.mpr ⟨r,ih,List.mem_map.mpr ⟨o,h m o (by rw [← hrl]; simp),rfl⟩⟩
theorem b7f {ws:List Int} {cs:List Chg} (h:GsB 1000000100 ws cs) (hR:Ris cs):soL ws cs∈a5x cs ws.length:=by
 rw [a7b fun c hc=>(h.c c hc).1]
 refine List.mem_filter.mpr ⟨b5c _ _ _ (a2u ws cs) fun i o e=>?_,a6e (a7z h hR)⟩
 cases o with
 | none=>exact Γn
 | some a =>
  obtain ⟨c,hc,e2⟩:=List.mem_map.mp (a9b ws cs i a e)
  simp [keyH] at e2
  refine Γh _ (List.mem_map.mpr ⟨c,List.mem_filter.mpr ⟨hc,decide_eq_true (by lia)⟩,?_⟩)
  rw [show c.1=a by lia]
theorem c3l (xs ys:List Int) (R:Bool→Prop):wp (eqF (FV.tup (xs.map .int)) (.tup (ys.map .int))) R↔R (decide (xs=ys)):=by
 have h:∀ xs:List Int,FV.tup (xs.map .int)=dF (.tup (xs.map .int)):=fun xs=>by simp [dF,a3l,Function.comp_def]
 have hd:∀ xs:List Int,b4w (xs.map D.int)=0:=fun xs=>by induction xs with | nil=>rfl | cons x r ih=>simp [b4w,dep,ih]
 have ev:∀ xs ys:List Int,D.eqvs (xs.map D.int) (ys.map D.int)=decide (xs=ys):=by
  intro xs
  induction xs with
  | nil=>intro ys; cases ys <;> simp [D.eqvs]
  | cons x r ih =>
   intro ys
   cases ys with
   | nil=>simp [D.eqvs]
   | cons y s =>
    simp only [List.map_cons,D.eqvs,D.eqv,ih]
    rw [Bool.eq_iff_iff]; simp
 rw [h,h,d2o (by simp only [dep,hd]; lia) (by simp only [dep,hd]; lia),D.eqv,ev]; exact Iff.rfl
theorem b1g:∀ (xs:List Int) (b:Int),a1p b xs∈b :: xs
 | [],b=>by simp [a1p]
 | x :: r,b=>by
  have:=b1g r (if x < b then x else b)
  show a1p (if x < b then x else b) r∈_
  split at this <;> rename_i h
  ·rw [if_pos h]; exact Γh _ this
  ·rw [if_neg h]
   rcases List.mem_cons.mp this with e | e
   ·rw [e]; simp
   ·exact Γh _ (Γh _ e)
theorem a7a:∀ (xs:List Int) (b:Int),a1p b xs≤b∧∀ x∈xs,a1p b xs≤x
 | [],b=>⟨Int.le_refl _,by simp⟩
 | x :: r,b=>by
  have:=a7a r (if x < b then x else b)
  show a1p (if x < b then x else b) r≤b∧∀ y∈x :: r,a1p (if x < b then x else b) r≤y
  refine ⟨by have:=this.1; split at this <;> lia,fun y hy=>?_⟩
  rcases List.mem_cons.mp hy with rfl | hy
  ·have:=this.1; split at this <;> lia
  ·exact this.2 y hy
noncomputable def dL:Option Nat→D
 | none=>.non
 | some a=>.int a
theorem d4n (b:List (Option Nat)):FV.tup (b.map a1d)=dF (.tup (b.map dL)):=by
 have:∀ o:Option Nat,a1d o=dF (dL o):=fun o=>by cases o <;> rfl
 simp only [dF,a3l,List.map_map]
 congr 1
 exact List.map_congr_left fun o _=>this o
theorem c0b:∀ b:List (Option Nat),b4w (b.map dL)=0
 | []=>rfl
 | o :: r=>by cases o <;> simp [b4w,dep,dL,c0b r]
theorem d2f {ls:List (Option Nat)} {L:List (List (Option Nat))} (h:ls∈L) (R:Bool→Prop):wp (inF (.tup (ls.map a1d)) (.lst (L.map a3r))) R↔R true:=by
 have e2:FV.lst (L.map a3r)=dF (.lst (L.map fun b=>.tup (b.map dL))):=by
  simp only [dF,a3l,List.map_map]
  congr 1
  exact List.map_congr_left fun b _=>d4n b
 have dp:∀ L:List (List (Option Nat)),b4w (L.map fun b=>D.tup (b.map dL))≤1:=by
  intro L
  induction L with
  | nil=>simp [b4w]
  | cons x r ih=>simp only [List.map_cons,b4w,dep,c0b]; lia
 have e:inF (.tup (ls.map a1d)) (.lst (L.map a3r))=some true:=by
  rw [d4n,e2]
  unfold inF
  rw [b9t _ _ (by simp only [dep,c0b,a1e]; lia),b9t _ _ (by have:=dp L; simp only [dep,a1e]; lia)]
  show some _=some true
  congr 1
  exact List.any_eq_true.mpr ⟨_,List.mem_map.mpr ⟨ls,h,rfl⟩,b0f _⟩
 rw [e]; exact Iff.rfl
noncomputable def rds (ws:List Int) (cs:List Chg) (b:List (Option Nat)):List Int:=(List.range b.length).map (rdL ws cs b)
noncomputable def rms (ws:List Int) (cs:List Chg) (b:List (Option Nat)):Int:=((List.range b.length).map (kpL ws cs b)).sum
theorem b8t {ws:List Int} {cs:List Chg} (h:GsB 1000000100 ws cs) {b:List (Option Nat)} (hb:b∈a5x cs ws.length):b.length=ws.length∧Rst cs b∧a7f b=true:=by
 obtain ⟨h1,_,h3⟩:=b4j hb
 rw [a7b fun c hc=>(h.c c hc).1] at hb
 exact ⟨h1,c0u h3,(List.mem_filter.mp hb).2⟩
theorem d2a (d:Nat) {ws:List Int} {cs:List Chg} (hG:GsB 1000000100 ws cs) (hR:Ris cs) {Q:FV×FV→Prop} (q:Q (.bl true,.non)):callW tb (d + 2) 4 [a2w ws cs,.tup ((soL ws cs).map a1d)] Q:=by
 rw [d4n]
 refine d1z d (hG.mono (by lia)) _ ?_
 rw [← d4n]
 have:c7v ws.length cs (.tup ((soL ws cs).map a1d))=true:=by
  simp only [c7v,List.length_map,a2u,decide_true,Bool.true_and,c4n (a9b ws cs),b8m,a6e (a7z hG hR)]
 rw [this]; exact q
theorem law_val (ns:List Int):callW tb 14 27 [.scr ns] fun z=>z.1=.bl true:=by
 refine a0l (fd:=d8s) rfl rfl ?_
 simp [d8s,e0j]
 refine ⟨by simp [a1v]; split <;> (try split) <;> lia,?_⟩
 refine a1h (I:=fun _ L=>∃ a b c d e f g,L=[some (.scr ns),a,b,c,d,e,f,g]) _ 0 _ ⟨_,_,_,_,_,_,_,rfl⟩ ?_ ?_
 ·rintro k L K - - ⟨a,b,c,d,e,f,g,rfl⟩ kk
  simp
  refine c7s 12 ns k fun v1 y l1=>?_
  simp
  refine d2l 7 l1 (by lia) (by lia) fun ws cs v2 hG hR hF l2=>?_
  have hGs:Gs ws cs:=hG.mono (by lia)
  have hfl:=c8h hG hF
  have hLN:=b8u cs ws.length
  have hLm:=hfl ws.length (Γi _)
  simp [big]
  refine c4q 12 hG ?_
  simp
  refine c2i 11 hG ?_
  simp
  refine c3n 10 hGs (fun m hm=>Nat.le_trans (hfl m hm) (by decide)) ?_
  simp
  rw [d2f (b7f hG hR)]
  refine ⟨rfl,?_⟩
  refine c8w 11 hGs (fun m hm=>Nat.le_trans (hfl m hm) (by decide)) ?_
  simp
  refine ⟨by lia,?_⟩
  refine a1a (f:=a3r) (g:=fun b=>FV.tup [.tup ((rds ws cs b).map .int),.int (rms ws cs b)]) (a5x cs ws.length) [] (fun b hb K2 k2=>?_) ?_
  ·obtain ⟨b1,b2,b3⟩:=b8t hG hb
   simp
   refine b5p 11 hGs b2 b3 b1 ?_
   simp
   refine b8n 11 hGs b2 b1 ?_
   simp [big]
   simpa only [rds,rms,List.map_map] using k2
  ·rw [List.nil_append]
   simp
   refine ⟨by lia,?_⟩
   refine a1a (f:=fun b=>FV.tup [.tup ((rds ws cs b).map .int),.int (rms ws cs b)]) (g:=fun _=>.bl false) (a5x cs ws.length) [] (fun b hb K2 k2=>?_) ?_
   ·obtain ⟨b1,b2,b3⟩:=b8t hG hb
    simp
    have hn:=hGs.n
    rw [a3q]
    refine ⟨by rw [List.length_map,List.length_zip]; simp only [rds,List.length_map,List.length_range,b1,a2r,big]; lia,?_⟩
    refine a1a (f:=fun p:Int×Int=>FV.tup [.int p.1,.int p.2]) (g:=fun p=>.bl (decide (p.1 < p.2))) ((rds ws cs b).zip (a1j cs ws ws.length)) [] (fun p hp K3 k3=>?_) ?_
    ·simp
     exact k3
    ·rw [List.nil_append,a3n,a5g]
     have:(((rds ws cs b).zip (a1j cs ws ws.length)).map fun p=>decide (p.1 < p.2)).any id=false:=by
      refine List.any_eq_false.mpr fun x hx=>?_
      obtain ⟨p,hp,rfl⟩:=List.mem_map.mp hx
      obtain ⟨j,hj⟩:=List.mem_iff_getElem?.mp hp
      obtain ⟨j1,j2⟩:=List.getElem?_zip_eq_some.mp hj
      obtain ⟨j3,_⟩:=List.getElem?_eq_some_iff.mp j1
      have j4:j < ws.length:=by simpa [rds,b1] using j3
      have j5:=d5u hG hR b2 b3 b1 j4
      simp [rds,b1,j4] at j1
      have j6:(a1j cs ws ws.length).getD j 0=p.2:=by rw [List.getD,j2]; rfl
      rw [j6] at j5
      simp; lia
     rw [this]; exact k2
   ·rw [List.nil_append,a3n (fun _=>false),a5g]
    simp
    refine b7m 10 hGs (a9b ws cs) (a6e (a7z hG hR)) (a2u ws cs) ?_
    rw [c4k hG hR]
    dsimp only
    rw [c8k (d6w hG) (by decide)]
    refine ⟨rfl,?_⟩
    refine d2a 11 hG hR ?_
    simp
    refine c1z 10 hGs (a9b ws cs) (a2u ws cs) ?_
    refine ⟨by lia,?_⟩
    refine a1w (f:=fun b=>FV.tup [.tup ((rds ws cs b).map .int),.int (rms ws cs b)]) (g:=fun b=>.int (rms ws cs b)) (p:=fun b=>decide (rds ws cs b=a1j cs ws ws.length)) (a5x cs ws.length) [] (fun b hb K2 N k1 k2=>?_) ?_
    ·simp
     rw [c3l]
     refine ite2 (fun h1=>k1 h1) (fun h1=>k2 (by simpa using h1))
    ·rw [List.nil_append]
     have hso:rms ws cs (soL ws cs)∈((a5x cs ws.length).filter fun b=>decide (rds ws cs b=a1j cs ws ws.length)).map (rms ws cs) :=
      List.mem_map.mpr ⟨soL ws cs,List.mem_filter.mpr ⟨b7f hG hR,decide_eq_true (c4k hG hR)⟩,rfl⟩
     have hall:∀ x∈((a5x cs ws.length).filter fun b=>decide (rds ws cs b=a1j cs ws ws.length)).map (rms ws cs),rms ws cs (soL ws cs)≤x:=fun x hx=>by
      obtain ⟨b,hb,rfl⟩:=List.mem_map.mp hx
      obtain ⟨h1,h2⟩:=List.mem_filter.mp hb
      obtain ⟨b1,b2,b3⟩:=b8t hG h1
      have h2:rds ws cs b=a1j cs ws ws.length:=of_decide_eq_true h2
      unfold rms
      rw [a2u,b1]
      refine b3r _ fun m hm=>?_
      have hm:=List.mem_range.mp hm
      refine d6y hG hR b2 b3 b1 (fun m hm=>?_) hm
      rw [← h2,rds,List.getD,b1]
      simp [hm]
     rw [show (((a5x cs ws.length).filter fun b=>decide (rds ws cs b=a1j cs ws ws.length)).map fun b=>FV.int (rms ws cs b))=(((a5x cs ws.length).filter fun b=>decide (rds ws cs b=a1j cs ws ws.length)).map (rms ws cs)).map .int by simp]
     cases hx:((a5x cs ws.length).filter fun b=>decide (rds ws cs b=a1j cs ws ws.length)).map (rms ws cs) with
     | nil=>rw [hx] at hso; cases hso
     | cons x r =>
      rw [hx] at hso hall
      rw [c7n rfl]
      have e1:=hall _ (b1g r x)
      have e2:a1p x r≤rms ws cs (soL ws cs):=by
       rcases List.mem_cons.mp hso with z | z
       ·rw [z]; exact (a7a r x).1
       ·exact (a7a r x).2 _ z
      have e3:a1p x r=rms ws cs (soL ws cs):=by lia
      rw [e3]
      simp [rms]
      exact kk _ ⟨_,_,_,_,_,_,_,rfl⟩
 ·rintro L ⟨a,b,c,d,e,f,g,rfl⟩
  simp
end Kq
end
set_option maxRecDepth 100000
set_option maxHeartbeats 4000000
section
namespace Kq
open PySem PySem.Spec PyProof.Rows L2 PySem.W
noncomputable def top (i:Nat):Stmt:=PySem.Challenge.pw_keepwhole_k68_whole_reads_beside_all_lay.main.body.getD i (.Pass ⟨0,0,0,0⟩)
noncomputable def d0:Df:=⟨"least_reads",top 1,["stock"],["stock","wholes","changes","least","turn","a","b","size"],[.imm,.imm,.imm,.own]⟩
noncomputable def d1:Df:=⟨"soonest",top 2,["stock"],["stock","wholes","changes","least","laying","sizes","a","b","size"],[.imm,.imm,.imm,.imm,.own,.own]⟩
noncomputable def d2:Df:=⟨"is_number",top 4,["thing"],["thing"],[]⟩
noncomputable def d3:Df:=⟨"is_tuple_of",top 5,["thing","many"],["thing","many"],[]⟩
noncomputable def d4:Df:=⟨"is_laying",top 7,["stock","thing"],["stock","thing","makes","sizes","make","on"],[]⟩
noncomputable def d5:Df:=⟨"comes_from_whole",top 8,["laying","make"],["laying","make","on","step"],[]⟩
noncomputable def d6:Df:=⟨"change_sizes",top 9,["stock"],["stock"],[]⟩
noncomputable def d7:Df:=⟨"kept_sizes",top 10,["stock","laying"],["stock","laying","sizes"],[]⟩
noncomputable def d8:Df:=⟨"room",top 11,["stock","laying"],["stock","laying"],[]⟩
noncomputable def d9:Df:=⟨"way",top 12,["laying","make"],["laying","make","makes","on"],[.imm,.imm,.own]⟩
noncomputable def d10:Df:=⟨"reads",top 13,["stock","laying"],["stock","laying","sizes"],[]⟩
noncomputable def d11:Df:=⟨"all_layings",top 15,["stock"],["stock","layings","make","choices"],[]⟩
noncomputable def d12:Df:=⟨"closes_ring",top 16,["begun","on"],["begun","on","make"],[]⟩
noncomputable def d13:Df:=⟨"_law_mix",top 18,["_law_cell","_law_k"],["_law_cell","_law_k","_law_m"],[]⟩
noncomputable def d14:Df:=⟨"_law_left",top 19,["_law_script","_law_k"],["_law_script","_law_k","_law_cell"],[]⟩
noncomputable def d15:Df:=⟨"_law_pick",top 20,["_law_left_here","_law_many"],["_law_left_here","_law_many","_law_digit"],[.own]⟩
noncomputable def d16:Df:=⟨"_law_size",top 21,["_law_left_here","_law_great"],["_law_left_here","_law_great","_law_way_drawn"],[.own]⟩
noncomputable def d17:Df:=⟨"_law_stock",top 22,["_law_left_here","_law_many"],["_law_left_here","_law_many","_law_great","_law_often","_law_wholes","_law_changes","_law_a","_law_b"],[.own,.imm,.imm,.imm,.imm,.own]⟩
noncomputable def d18:Df:=⟨"_law_even_stock",top 23,["_law_left_here","_law_many"],["_law_left_here","_law_many","_law_stock_here","_law_sizes_here","_law_a","_law_b","_law_size_here","_law_changes"],[.own,.imm,.imm,.own]⟩
noncomputable def d19:Df:=⟨"_law_chain_stock",top 24,["_law_left_here","_law_many"],["_law_left_here","_law_many","_law_row","_law_k","_law_near","_law_dear","_law_sizes_here","_law_turn","_law_a","_law_b","_law_wholes"],[.own,.imm,.own,.imm,.imm,.imm,.own]⟩
noncomputable def d20:Df:=⟨"_law_sizes",top 25,["_law_stock_here"],["_law_stock_here"],[]⟩
noncomputable def d21:Df:=⟨"_law_way",top 26,["_law_laying","_law_make"],["_law_laying","_law_make","_law_found"],[.imm,.imm,.own]⟩
noncomputable def d22:Df:=⟨"_law_reads",top 27,["_law_stock_here","_law_laying"],["_law_stock_here","_law_laying","_law_sizes_here","_law_found","_law_make","_law_own"],[.imm,.imm,.imm,.own]⟩
noncomputable def d23:Df:=⟨"_law_room",top 28,["_law_stock_here","_law_laying"],["_law_stock_here","_law_laying","_law_sizes_here","_law_total","_law_make","_law_on"],[]⟩
noncomputable def d24:Df:=⟨"_law_is_laying",top 29,["_law_stock_here","_law_laying"],["_law_stock_here","_law_laying","_law_sizes_here","_law_make","_law_here","_law_turn"],[]⟩
noncomputable def d25:Df:=⟨"_law_every_laying",top 30,["_law_stock_here"],["_law_stock_here","_law_rows","_law_make","_law_some","_law_longer","_law_row"],[.imm,.imm,.imm,.imm,.own]⟩
noncomputable def d26:Df:=⟨"_law_few",top 31,["_law_left_here"],["_law_left_here","_law_stock_here","_law_at","_law_many","_law_choice"],[.own]⟩
noncomputable def d27:Df:=⟨"law",top 32,["_law_script"],["_law_script","_law_k","_law_left_here","_law_stock_here","_law_numbers","_law_laying","_law_every","_law_far"],[.imm,.imm,.own]⟩
noncomputable def fns:List Str:=[Γe "least_reads",Γe "soonest",Γe "is_number",Γe "is_tuple_of",Γe "is_laying",Γe "comes_from_whole",Γe "change_sizes",Γe "kept_sizes",Γe "room",Γe "way",Γe "reads",Γe "all_layings",Γe "closes_ring",Γe "_law_mix",Γe "_law_left",Γe "_law_pick",Γe "_law_size",Γe "_law_stock",Γe "_law_even_stock",Γe "_law_chain_stock",Γe "_law_sizes",Γe "_law_way",Γe "_law_reads",Γe "_law_room",Γe "_law_is_laying",Γe "_law_every_laying",Γe "_law_few",Γe "law"]
abbrev DB (d:Df) (fr:Bool) (b:CW→SW):Prop:=∀ (X:Cx) (call:CW) (n:Nat),Good X (d.cc fns) n (spK tb call)→FSs X (d.cc fns) fr (a2m d.st) (b call)
local macro_rules | `(tactic| ac_rfl)=>do
 let g:=Lean.mkIdent `G
 let mut ts:Array (Lean.TSyntax ``Lean.Parser.Tactic.tacticSeq):=#[]
 for r in ("§fe_var 12210;d9l 03110;fa_nil 00010;fe_int 00010;a0p 02010;fr_var 11110;b1o 01010;d4b 12110;fs_ret 01010;fs_set 14310;fe_ix 03110;fe_tup 01010;fe_add 02010;d4i 18710;d8b 11110;d8q 16510;d8a 00010;CompOk.mk 05110;d7k 00010;fe_len 13210;d2k 11010;fs_nil 00010;fs_if 03010;d7m 14310;fe_ixN 13210;fe_bl 00010;d4d 13210;fb_eq 12010;fe_lst 01010;d7i 01010;fw_and 02010;ff_lst 01010;d9j 01010;d7p 02110;fe_mul 02010;fs_ix 15310;d7j 01010;fe_mod 02010;fb_ne 12010;d7r 01010;d7s 00010;fe_if 03010;fe_sl 03010;d8l 15310;fe_non 00010;fb_lt 12010;fe_isi 15410;fe_one 01010;fe_and 02010;fb_not 01010;fb_isN 01010;fe_app 15410;fs_whl 02010;d7l 14210;fe_dgN 13210;fe_any 13210;d8e 13210;fe_eq 12010;d8p 12010;fe_sum 13210;fe_pow 02010;fe_abs 13210;fb_gt 02010;d8n 02010;d8m 15310;d7q 15310;d4f 13210;fe_ins 15410;d8g 16510;fw_or1 01010;fw_or 02010;ff_mul 02010;fe_not 01010;fb_in2 13010;fe_all 13210;d8i 13210;d8h 13210;d7v 01010;CompOk2.mk 09210;fe_ge 02010;d4e 13210;fe_sub 02010;d4c 00010;fe_slN 13110;d8f 13210;fs_par 14210;d4g 13310;d8o 13210;d7n 12210;d4h 12010;fe_ni2 13010;d8j 01010;fe_ext 15410;d8d 13310;fb_ni2 13010;fe_lt 12010;d9k 01010;d8k 13210;fs_tup 14210;d7o 01010;fr_of 01010;fb_val 02110;fb_w 01010;d8g 16511;d8d 13311;fi_rng 13200;fi_seq 01000;d7z 13200;d7y 12200;d7w 15400;d7x 15300;fi_zip 15300;fe_int 00000;fe_bl 00000;fe_non 00000".drop 1).toString.splitOn ";" do
  let [n,c]:=r.splitOn " " | continue
  let [a,k,s,w,e]:=c.toList.map fun x=>x.toNat - 48 | continue
  let f:=Lean.mkIdent n.toName
  let mut as:Array Lean.Term:=if a=1 then #[g] else #[]
  for _ in [0:k] do as:=as.push (← `(?_))
  let mut t ← if as.isEmpty then `(tactic| exact $f) else `(tactic| refine $f $as*)
  if w=1 then t ← `(tactic| with_reducible $t:tactic)
  if e=1 then t ← `(tactic| ((with_reducible refine a2v ?_); $t:tactic))
  for _ in [0:s] do t ← `(tactic| (($t:tactic); first | decide +kernel | rfl))
  ts:=ts.push (← `(Lean.Parser.Tactic.tacticSeq| $t:tactic))
 ts:=ts.push (← `(Lean.Parser.Tactic.tacticSeq| first | decide +kernel))
 `(tactic| repeat' first $[| $ts]*)
local macro_rules | `(tactic| ac_nf)=>do
 let g:=Lean.mkIdent `G
 `(tactic| (intro _ $g:ident; ac_rfl))
local macro_rules | `(tactic| eq_refl)=>do
 let g:=Lean.mkIdent `G
 `(tactic| (intro $g:ident; ac_rfl))
local macro_rules | `(tactic| exists $e)=>`(tactic| (refine $e; ac_rfl))
local macro_rules | `(tactic| exists $e,$g:ident)=>`(tactic| (intro X call n $g:ident; refine $e; ac_rfl))
theorem db0:DB d0 false bd0:=by
 exists a0p ?_ ?_,G
 exists a1t G (md':=[.imm,.imm,.imm,.own]) ?_ ?_ ?_ ?_
 eq_refl
 exists a1t G (md':=[.imm,.imm,.imm,.own]) ?_ ?_ ?_ ?_
 eq_refl
theorem db1:DB d1 false bd1:=by
 exists a0p ?_ ?_,G
 exists a1t G (md':=[.imm,.imm,.imm,.imm,.own,.own]) ?_ ?_ ?_ ?_
 eq_refl
theorem db2:DB d2 false bd2:=by
 delta bd2
 exists b1o ?_,G
theorem db3:DB d3 false bd3:=by
 delta bd3
 exists b1o ?_,G
theorem db4:DB d4 false bd4:=by
 exists a0p ?_ ?_,G
 exists a1t G (md':=[]) ?_ ?_ ?_ ?_
 eq_refl
 exists a2v (a0x G (own:=["make"]) (md':=[]) ?_)
 ac_nf
 ac_nf
 ac_nf
theorem db5:DB d5 false bd5:=by
 exists a0p ?_ ?_,G
 exists a1t G (md':=[]) ?_ ?_ ?_ ?_
 eq_refl
theorem db6:DB d6 false bd6:=by
 delta bd6
 exists b1o ?_,G
 exists c3k G (own:=["a","b","size"]) (md':=[]) ?_ ?_
 ac_nf
 ac_nf
 ac_nf
 ac_nf
theorem db7:DB d7 false bd7:=by
 exists a0p ?_ ?_,G
 exists a2v (a0x G (own:=["make","on"]) (md':=[]) ?_)
 ac_nf
 ac_nf
 ac_nf
theorem db8:DB d8 false bd8:=by
 delta bd8
 exists b1o ?_,G
theorem db9:DB d9 false bd9:=by
 exists a0p ?_ ?_,G
theorem db10:DB d10 false e0y:=by
 exists a0p ?_ ?_,G
 exists a2v (a0x G (own:=["make"]) (md':=[]) ?_)
 ac_nf
 ac_nf
 ac_nf
 exists a2v (a0x G (own:=["passed"]) (md':=[]) ?_)
 ac_nf
 ac_nf
 ac_nf
theorem db11:DB d11 false e0x:=by
 exists a0p ?_ ?_,G
 exists a1t G (md':=[]) ?_ ?_ ?_ ?_
 eq_refl
 exists a2v (a0x G (own:=["a","b","size"]) (md':=[]) ?_)
 ac_nf
 ac_nf
 ac_nf
 exists c3j G (own:=["begun","on"]) (md':=[]) ?_ ?_ ?_
 ac_nf
 ac_nf
 ac_nf
 ac_nf
 ac_nf
 ac_nf
theorem db12:DB d12 false e0w:=by
 exists a0p ?_ ?_,G
theorem db13:DB d13 false e0v:=by
 exists a0p ?_ ?_,G
theorem db14:DB d14 true e0u:=by
 exists a0p ?_ ?_,G
theorem db15:DB d15 false d4p:=by
 exists a0p ?_ ?_,G
theorem db16:DB d16 false e0t:=by
 exists a0p ?_ ?_,G
theorem db17:DB d17 false e0s:=by
 exists a0p ?_ ?_,G
 exists a2v (a0x G (own:=["_law_k"]) (md':=[.own,.imm,.imm,.imm,.imm,.own]) ?_)
 ac_nf
 ac_nf
 ac_nf
 exists a1t G (md':=[.own,.imm,.imm,.imm,.imm,.own]) ?_ ?_ ?_ ?_
 eq_refl
 exists a1t G (md':=[.own,.imm,.imm,.imm,.imm,.own]) ?_ ?_ ?_ ?_
 eq_refl
theorem db18:DB d18 false e0r:=by
 exists a0p ?_ ?_,G
 exists a1t G (md':=[.own,.imm,.imm,.own]) ?_ ?_ ?_ ?_
 eq_refl
 exists a2v (a0x G (own:=["_law_a","_law_b"]) (md':=[.own,.imm,.imm,.frz]) ?_)
 ac_nf
 ac_nf
 ac_nf
 exists a2v (a0x G (own:=["_law_a","_law_b"]) (md':=[.own,.imm,.imm,.frz]) ?_)
 ac_nf
 ac_nf
 ac_nf
theorem db19:DB d19 false e0q:=by
 exists a0p ?_ ?_,G
 exists a1t G (md':=[.own,.imm,.own,.imm,.imm,.imm,.own]) ?_ ?_ ?_ ?_
 eq_refl
 exists a2v (a0x G (own:=["_law_a","_law_b"]) (md':=[.own,.imm,.frz,.imm,.imm,.imm,.own]) ?_)
 ac_nf
 ac_nf
 ac_nf
 exists a1t G (md':=[.own,.imm,.own,.imm,.imm,.imm,.own]) ?_ ?_ ?_ ?_
 eq_refl
 exists a2v (a0x G (own:=["_law_k"]) (md':=[.own,.imm,.own,.imm,.imm,.imm,.own]) ?_)
 ac_nf
 ac_nf
 ac_nf
 exists a2v (a0x G (own:=["_law_pair"]) (md':=[.own,.imm,.own,.imm,.imm,.imm,.own]) ?_)
 ac_nf
 ac_nf
 ac_nf
theorem db20:DB d20 false d4o:=by
 delta d4o
 exists b1o ?_,G
 exists a2v (a0x G (own:=["_law_a","_law_b","_law_size_here"]) (md':=[]) ?_)
 ac_nf
 ac_nf
 ac_nf
theorem db21:DB d21 true e0p:=by
 exists a0p ?_ ?_,G
theorem db22:DB d22 false e0o:=by
 exists a0p ?_ ?_,G
 exists a1t G (md':=[.imm,.imm,.imm,.own]) ?_ ?_ ?_ ?_
 eq_refl
 exists a2v (a0x G (own:=["_law_pair"]) (md':=[.imm,.imm,.imm,.own]) ?_)
 ac_nf
 ac_nf
 ac_nf
theorem db23:DB d23 false e0n:=by
 exists a0p ?_ ?_,G
 exists a1t G (md':=[]) ?_ ?_ ?_ ?_
 eq_refl
theorem db24:DB d24 false e0m:=by
 exists a0p ?_ ?_,G
 exists a2v (a0x G (own:=["_law_make","_law_on"]) (md':=[]) ?_)
 ac_nf
 ac_nf
 ac_nf
 exists a1t G (md':=[]) ?_ ?_ ?_ ?_
 eq_refl
 exists a1t G (md':=[]) ?_ ?_ ?_ ?_
 eq_refl
theorem db25:DB d25 false e0l:=by
 exists a0p ?_ ?_,G
 exists a1t G (md':=[.imm,.imm,.imm,.imm,.own]) ?_ ?_ ?_ ?_
 eq_refl
 exists a2v (a0x G (own:=["_law_a","_law_b","_law_size_here"]) (md':=[.imm,.imm,.imm,.imm,.own]) ?_)
 ac_nf
 ac_nf
 ac_nf
 exists a1t G (md':=[.imm,.imm,.imm,.imm,.own]) ?_ ?_ ?_ ?_
 eq_refl
 exists a2v (a0x G (own:=["_law_on"]) (md':=[.imm,.imm,.imm,.imm,.own]) ?_)
 ac_nf
 ac_nf
 ac_nf
 exists a2v (a0x G (own:=["_law_row"]) (md':=[.imm,.imm,.imm,.imm,.own]) ?_)
 ac_nf
 ac_nf
 ac_nf
theorem db26:DB d26 false e0k:=by
 exists a0p ?_ ?_,G
theorem db27:DB d27 false e0j:=by
 exists a0p ?_ ?_,G
 exists a1t G (md':=[.imm,.imm,.own]) ?_ ?_ ?_ ?_
 eq_refl
 exists c8c G (own:=["_law_one"]) (md':=[.imm,.imm,.own]) ?_ ?_ ?_
 ac_nf
 ac_nf
 ac_nf
 exists a2v (a0x G (own:=["_law_row","_law_much"]) (md':=[.imm,.imm,.own]) ?_)
 ac_nf
 ac_nf
 ac_nf
 exists a2v (a0x G (own:=["_law_own","_law_least"]) (md':=[.imm,.imm,.own]) ?_)
 ac_nf
 ac_nf
 ac_nf
 exists a2v (a0x G (own:=["_law_row","_law_much"]) (md':=[.imm,.imm,.own]) ?_)
 ac_nf
 ac_nf
 ac_nf
noncomputable def rc (d:Df):DefRec:=⟨Γe d.name,a5r d.st,a2m d.st,a0r d.st,d3b d.st⟩
noncomputable def recs:List DefRec:=[rc d0,rc d1,rc d2,rc d3,rc d4,rc d5,rc d6,rc d7,rc d8,rc d9,rc d10,rc d11,rc d12,rc d13,rc d14,rc d15,rc d16,rc d17,rc d18,rc d19,rc d20,rc d21,rc d22,rc d23,rc d24,rc d25,rc d26,rc d27]
noncomputable def view:Program:=c9h PySem.Challenge.pw_keepwhole_k68_whole_reads_beside_all_lay
theorem recs_eq:recs=recsOf view:=by kernel_rfl!
noncomputable def PD (K:Frag) (mg:Str→Option Value) (i:Nat) (x:Str):Prop:=∃ df fd fa fdd,tb[i]?=some fd∧Df.ok df fd.np fd.ns fd.io=true∧(∀ X call n,Good X (df.cc fns) n (spK tb call)→FSs X (df.cc fns) fd.fr (a2m df.st) (fd.body call))∧Fun K (Γe df.name) (Γe df.name) df.st fa fdd∧mg x=some (.ref fa)∧Binds K fdd df.ps []
local macro_rules | `(tactic| exists $d,$b,$j,$u)=>`(tactic| (refine And.intro (have ⟨fa,fd,m,F⟩:=DIn.fn (by assumption) ((by assumption:∀ d∈recs,DIn _ _ d) (rc $d) (List.mem_of_getElem? (i:=$j) rfl)); ⟨$d,_,fa,fd,rfl,by decide +kernel,$b,F,m,F.binds fun _ _ _ _ _ _ us hl=>$u (P:=fun us=>bindArgs _ ⟨us,[]⟩=pure (List.zip _ us)) hl (by intros; first | kernel_rfl! | rfl)⟩) ?_))
theorem d9o {K:Frag} {h:Heap} {mg:Str→Option Value} (A:AllIn K h) (D:∀ d∈recs,DIn K mg d):EachI (PD K mg) 0 fns:=by
 exists d0,db0,0,us1
 exists d1,db1,1,us1
 exists d2,db2,2,us1
 exists d3,db3,3,us2
 exists d4,db4,4,us2
 exists d5,db5,5,us2
 exists d6,db6,6,us1
 exists d7,db7,7,us2
 exists d8,db8,8,us2
 exists d9,db9,9,us2
 exists d10,db10,10,us2
 exists d11,db11,11,us1
 exists d12,db12,12,us2
 exists d13,db13,13,us2
 exists d14,db14,14,us2
 exists d15,db15,15,us2
 exists d16,db16,16,us2
 exists d17,db17,17,us2
 exists d18,db18,18,us2
 exists d19,db19,19,us2
 exists d20,db20,20,us1
 exists d21,db21,21,us2
 exists d22,db22,22,us2
 exists d23,db23,23,us2
 exists d24,db24,24,us2
 exists d25,db25,25,us1
 exists d26,db26,26,us1
 exists d27,db27,27,us1
 trivial
theorem law_fn (w:World) (K:Frag) (mg:Str→Option Value) (fa:Addr) (h:Heap) (A:AllIn K h) (D:∀ d∈recs,DIn K mg d) (blt:∀ b∈bltNames,mg (Γe b)=none) (hm:mg (Γe "law")=some (.ref fa)) :
  ∃ fd:FuncData,(∀ (s:Shared) (u:Value),BindsTo s fd ⟨[u],[]⟩ [(Γe "_law_script",u)])∧∀ base:Heap,FnOk PySem.Challenge.pw_keepwhole_k68_whole_reads_beside_all_lay w K mg base CX0 14 fa fd [Γe "_law_script"] (spT K tb (callW tb 14) 27):=by
 obtain ⟨fa2,fd,m,F⟩:=DIn.fn A (D (rc d27) (List.mem_of_getElem? (i:=27) rfl))
 have e:=hm.symm.trans m
 cases e
 have E:∀ (f:Nat) (x:Str),fns[f]?=some x→PD K mg f x:=fun f x hx=>by
  have:=EachI.get (d9o A D) f x hx
  rwa [Nat.zero_add] at this
 refine ⟨fd,?_,fun base=>b9p (df:=d27) F rfl (by nofun) db27 (c0z blt E 13) blt⟩
 obtain ⟨oc,od,kV,doc,pm,an,cdv,ct,osl,rfl,lk,hcd⟩:=F.ex
 exact fun s v=>.of_eq rfl
end Kq
end
set_option maxHeartbeats 0
section
open PySem PySem.W PyProof.Rows
theorem Kq.said : PySem.Challenge.rw_keepwhole_k68_whole_reads_beside_all_lay.wellSaid = true := by nofun
theorem Kq.left : LeftO PySem.Challenge.rw_keepwhole_k68_whole_reads_beside_all_lay.prog Kq.view [] (fun s => xlAt Kq.view [] s && recOk (RowW.records PySem.Challenge.rw_keepwhole_k68_whole_reads_beside_all_lay.row.toRowW) s) (fun _ => ()) (fun _ => ()) 3000 := by
  intro w
  kernel_rfl!
theorem Kq.freeAll : (Kq.bltNames.all fun b => Kq.freeIn Kq.view (looseW Kq.view []) (Str.ofString b)) = true := by nofun
theorem Kq.hdef : defOf Kq.view PySem.Challenge.rw_keepwhole_k68_whole_reads_beside_all_lay.name = some (Kq.rc Kq.d27, []) := by kernel_rfl!
theorem Kq.hp : PySem.Challenge.rw_keepwhole_k68_whole_reads_beside_all_lay.prog.theDef PySem.Challenge.rw_keepwhole_k68_whole_reads_beside_all_lay.name = some ((Kq.rc Kq.d27).params, (Kq.rc Kq.d27).body, (Kq.rc Kq.d27).scope) := by kernel_rfl!
theorem Kq.okq : (chainsOk Kq.view && opensWell PySem.Challenge.rw_keepwhole_k68_whole_reads_beside_all_lay.prog && (frees PySem.Challenge.rw_keepwhole_k68_whole_reads_beside_all_lay.row.toRowW && PySem.Challenge.rw_keepwhole_k68_whole_reads_beside_all_lay.row.within.isEmpty)) = true := by nofun
theorem Kq.prom : PySem.Challenge.rw_keepwhole_k68_whole_reads_beside_all_lay.row.toRowW.promised := ⟨[.list []], by nofun, by nofun⟩
theorem PySem.Challenge.cw_keepwhole_k68_whole_reads_beside_all_lay_holds : PySem.Challenge.rw_keepwhole_k68_whole_reads_beside_all_lay.Holds :=
  Kq.row_holds Kq.said Kq.left Kq.hdef Kq.hp rfl rfl Kq.okq ⟨rfl, rfl, rfl, rfl, rfl, by nofun⟩ Kq.prom (Kq.walk2 (n := 63) (k := 14) (ds := Kq.recs) (x := Str.ofString "_law_script") (sp := fun K => Kq.spT K Kq.tb (Kq.callW Kq.tb 14) 27) rfl (by decide) rfl ⟨rfl, by decide, by decide, rfl⟩ Kq.recs_eq Kq.freeAll Kq.law_fn fun _ _ a ns hl hO hS => Kq.law_sp rfl rfl rfl hO hS (Kq.law_val ns))
end
